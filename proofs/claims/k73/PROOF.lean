import PyProof.Rows.All
import Wide.All
import OpenK.AllK
import Wide.FinOn
import Lean
import PyProof.EqAt
import PyProof.EqKinds
import PyProof.TupleCall
import PyProof.InstStoreFacts
import PySem.Challenge.RW_pursewright_k73_whole_between_two_papers
set_option Elab.async false
set_option linter.all false
set_option maxRecDepth 100000
local macro_rules|`(tactic|symm)=>`(tactic|exact ⟨rfl,rfl,rfl,by decide +kernel,rfl,by decide +kernel,by decide +kernel⟩)
open List renaming length_map→cU,getElem?_eq_getElem→dQ,mem_singleton→fy,getElem?_map→fN,mem_of_getElem?→g5,getElem?_eq_some_iff→jm,mem_append→jn,mem_cons_self→j0,length_append→j3,mem_cons_of_mem→j5,mem_map→kf,map_append→ky,mem_cons→kC,nodup_nil→lu,take_length→ox,mem_append_right→pq,take_add_one→p7,length_cons→qf,size_toArray→qg,mem_append_left→qh,append_nil→qp,length_take→qr,getElem_of_mem→ri,map_cons→ro,replicate→rG,map_map→tr,getElem?_append_left→u6,nodup_cons→vp,length_eq_zero_iff→vq,getElem?_append_right→vr,append_assoc→vt,nodup_append→vw,sum_cons→vx,not_mem_nil→v5,lookup_cons→wh,filter_cons_of_pos→x2,length_singleton→zq,find?_cons→zr,getD_eq_getElem?_getD→zu,append_eq_nil_iff→DE,filter_cons_of_neg→Es,getElem?_zip_eq_some→Fq,range→Fs,length→HH,all_eq_true→PX,any_eq_true→P0,getElem_mem→P1,getElem?_eq_none→P2,mem_of_mem_take→QH,length_zip→QX,map_congr_left→TH,length_filter_le→Ur,mem_filter→Uu,getElem?_set_ne→Wb,mem_flatMap→Wc,getElem?_set_self→WO,pairwise_map→Xt,length_pos_iff→Yb,length_set→Ye,length_nil→Yg,length_drop→Yr,take_sublist→Yu,append_cancel_left→Yv,of_mem_zip→Yw,any_map→Yz,cons_ne_nil→YC,mem_or_eq_of_mem_set→YF,mem_of_find?_eq_some→YG,lookup→YH,any_cons→YI,length_reverse→YJ,replicate_succ→YK,mem_range→YL,getElem_map→YM,length_replicate→YS,getElem?_toArray→YT,drop_left→YV,ext_getElem→YY,reverse_append→YZ,forIn_cons→Y1,filter_append→Y3,getElem?_replicate→Y4,reverse_cons→Y5,foldl_append→Y9,eq_nil_or_concat→Zc,cons_append→Zd,map_take→Zf,take_append_of_le_length→Zi,foldl_cons→Zk,filterMap_cons→Zl,filter_sublist→Zn,nodup_iff_pairwise_ne→Zp,map_inj_right→Zq,map_singleton→Zr,sublist_append_right→Zs,pairwise_iff_getElem→Zt,drop_eq_getElem_cons→Zu,any_eq_false→Zv,getElem?_take_of_lt→Zw,map_drop→Zx,length_erase_of_mem→Zy,set_eq_of_length_le→Zz,map_fst_zip→ZD,nil_sublist→ZE,sublist_nil→ZF,drop_length→ZH,all_map→ZI,length_pos_of_mem→ZJ,find?_some→ZM,range_succ→ZN,concat_eq_append→ZO,mem_erase_of_ne→ZR,dropLast_concat→ZS,zip→ZT,drop_zero→ZU,take_zero→ZV,reverse_reverse→ZW,flatMap_append→ZY,mem_filterMap→Z0,find?_eq_none→Z5,pairwise_cons→Z8,findIdx?_cons→Z9,map_set→aa1
open PySem renaming wpAny_bind→dN,wpAny_pure→kA,sizeLine→mu,starEach→mJ,wpAny_holding→DF,wpAny_call_entry→E3,plainId_quiet→HI,codeAny_builtin→HJ,wpAny_Call_Name_kw→QL,wpAny_specialOf→Rj,wpAny_typeOf→Tz,wpAny_updateSeq→Uv,wpAny_mono→Ux,wpAny_rule→UU,wpAny_newObj_type→Xx,wpAny_isInstance→Ys,wpAny_attempt→Yt,wpAny_of_eq→YO,sizeLine_eq→YW
open PySem.Heap renaming get?_push_of_some→gs,lt_size→kz,get?_push_size→kD,get?_update_other→we,size_push→BB,get?_update_self→Fo,SameBut→YQ,get?_push_cases→Zg,ExtBut→ZQ
open Option renaming map_eq_some_iff→gV,isSome_iff_exists→Mj,isSome_map→Xf,map_some→Zj,bind_eq_some_iff→ZC,map_eq_none_iff→ZK,isSome_some→Z2
open Nat renaming le_refl→kB,ne_of_lt→rl,le_trans→sF,lt_of_lt_of_le→ui,le_of_lt→wz,zero_le→zt,ne_of_gt→D7,zero_add→Ft,min_eq_left→Mi,lt_irrefl→Wo,lt_succ_self→YB,lt_of_le_of_lt→YD,lt_of_sub_eq_succ→YE,le_max_left→YR,lt_succ_of_lt→YU,lt_trans→YX,sub_succ→Y6,le_of_lt_succ→Za,add_le_add_left→Zm,sub_self→Zo,min_le_right→ZA,mod_lt→Z3,mod_mod_of_dvd→Z4
open Bool renaming false_ne_true→rF,and_eq_true→uj,eq_iff_iff→Y0,false_eq_true→Y2,and_false→ZP,false_or→ZZ
open Int renaming le_refl→DG,toNat_natCast→P4,toNat_of_nonneg→Xy,natCast_nonneg→Yn,zero_add→YA,mul_le_mul_of_nonneg_left→YN,le_trans→Y7,add_zero→Y8,mul_le_mul_of_nonneg_right→Ze,natCast_mul→ZL,mul_nonneg→ZX,toNat_le→aa0
open PySem.Obj renaming mapSeq→QG,data_mapFields→Z6
open Array renaming getElem?_eq_getElem→Yj,length_toList→Yx,getElem?_eq_none→Yy,getElem?_toList→Zb,find?_toList→Z1,forIn_toList→Z7
open PySem.Around renaming under_plainId→Zh
open Option renaming some→Z,none→Y
open Bool renaming true→O,false→ϊ
open PySem renaming Value→B,Addr→J,Shared→ϋ
def U:a=a:=rfl
open Lean in
def lp:Nat->Syntax->MacroM (TSyntax `rcasesPat)
|n+1,s=>match s with
 |`(($a,$b,*))=>do let c<-(#[a]++b.getElems).mapM λx=>lp n x;`(rcasesPat|⟨$[$c:rcasesPat],*⟩)
 |`(⟨$a,*⟩)=>do let c<-a.getElems.mapM λx=>lp n x;`(rcasesPat|⟨$[$c:rcasesPat],*⟩)
 |`($x:ident)=>let y:=if x.getId==`U then mkIdent `rfl else x;`(rcasesPat|$y:ident)
 |_=>`(rcasesPat|_)
|_,_=>`(rcasesPat|_)
local macro_rules|`(tactic|let $p:term:=$e)=>do`(tactic|obtain $(<-lp 9 p):rcasesPat:=$e)
local macro_rules|`(($a,$b,*))=>`(⟨$a,$b,*⟩)
open PySem.W renaming Frag→BT
open PySem renaming FuncData→Ch,World→Cl,Program→Da,Around→Db,Heap→Do,Expr→Ev,Stmt→EQ
open Lean in
local macro_rules|`(tactic|left)=>`(tactic|intro $(mkIdent `gd):ident $(mkIdent `s):ident $(mkIdent `σ):ident $(mkIdent `H):ident $(mkIdent `Q):ident $(mkIdent `I):ident $(mkIdent `h):ident)
open Lean in
local macro_rules|`(tactic|right)=>`(tactic|intro $(mkIdent `gd):ident $(mkIdent `s):ident $(mkIdent `σ):ident $(mkIdent `H):ident $(mkIdent `D):ident $(mkIdent `I):ident $(mkIdent `h):ident)
open Lean in
local macro_rules|`(tactic|exists $a,$d,$h:ident,$b,$c)=>`(tactic|(refine ($a).F.okQ $d fun _ _ _ _ _ _ $(mkIdent `hr):ident=>?_;have $h:ident:=$(mkIdent `bo) $(mkIdent `hr);refine ⟨_,_,$b,$c⟩))
local macro_rules|`(tactic|omega)=>`(tactic|lia)
local macro_rules|`(nofun)=>`(fun _ z=>nomatch z)
local macro_rules|`(($e :))=>`(by simpa using $e)
local macro_rules|`(~~~$e)=>`({cls:=.type "list",data:=.seq $e})
local macro_rules|`($a^^^$b)=>`({cls:=.type "list",data:=.seq $a $b})
def ac{p:Prop}(h:p:=by decide):p:=h
def ad{p:Prop}(h:p:=by simp):p:=h
def ap{p:Prop}(h:p:=by omega):p:=h
def ba{p:Prop}(h:p:=by rfl):p:=h
def bi{p:Prop}(h:p:=by decide +kernel):p:=h
def bn{p:Prop}(h:p:=by kernel_rfl):p:=h
theorem zdc(h:True:=by decide):True:=h
theorem zrf(h:True=True:=by rfl):True=True:=h
local macro_rules|`(‹$t›)=>`(autoParam $t zrf._auto_1)
noncomputable section
set_option compiler.extract_closed false
open Lean.Parser.Command in
local macro_rules|`(declaration|$d:definition)=>`(declaration|noncomputable $d:definition)
open Lean in
local macro_rules(kind:=Lean.Parser.Command.declaration)|x=>if x.getPos?.isSome then return x.rewriteBottomUp (·.setInfo .none) else Macro.throwUnsupported
set_option bootstrap.genMatcherCode false
set_option genSizeOf false
set_option genInjectivity false
abbrev Γ:=List PySem.Str
abbrev Δ:=List B
abbrev Θ:=List J
abbrev Ξ:=List (J×PySem.Obj)
abbrev Υ:=PySem.Str->Option B
abbrev Φ:=B->ϋ->Prop
abbrev Ψ:=List Int
abbrev Ϙ:=List (Option PySem.Str)
namespace L2
open PySem PySem.Spec PyProof.Rows
inductive Ea2{A' B':Type}(P:A'->B'->Prop):Prop
 |mk(a b:_)(_:P a b)
inductive Ea9{A' B' C' D' E' F' G' H' I':Type}(P:A'->B'->C'->D'->E'->F'->G'->H'->I'->Prop):Prop
 |mk(a b c d e f g h i:_)(_:P a b c d e f g h i)
inductive Ea3{A' B' C':Type}(P:A'->B'->C'->Prop):Prop
 |mk(a b c:_)(_:P a b c)
inductive Ea4{A' B' C' D':Type}(P:A'->B'->C'->D'->Prop):Prop
 |mk(a b c d:_)(_:P a b c d)
inductive Ea5{A' B' C' D' E':Type}(P:A'->B'->C'->D'->E'->Prop):Prop
 |mk(a b c d e:_)(_:P a b c d e)
inductive Ea6{A' B' C' D' E' F':Type}(P:A'->B'->C'->D'->E'->F'->Prop):Prop
 |mk(a b c d e f:_)(_:P a b c d e f)
inductive Ea7{A' B' C' D' E' F' G':Type}(P:A'->B'->C'->D'->E'->F'->G'->Prop):Prop
 |mk(a b c d e f g:_)(_:P a b c d e f g)
inductive Ea8{A' B' C' D' E' F' G' H':Type}(P:A'->B'->C'->D'->E'->F'->G'->H'->Prop):Prop
 |mk(a b c d e f g h:_)(_:P a b c d e f g h)
abbrev Key:=Sum Int Str
def wW:Key->B->Bool
 |.inl k,v=>B.isInt k v|.inr x,v=>B.isStrOf x v
def Xo(w:Cl):Key->Int
 |.inl k=>hashInt k|.inr x=>hashStr w x
theorem cg:∀{k:Key}{v:B},wW k v=O->(∃i t,k=Sum.inl i/\v=B.int i t)\/(∃x t,k=Sum.inr x/\v=B.str x t)
 |.inl i,v,h=>by
  let(t,e):=B.isInt_shape h;exact .inl (i,t,U,e)
 |.inr x,v,h=>by
  let(t,e):=B.isStrOf_shape h;exact .inr (x,t,U,e)
def G8(i:Int)(t:Tok):wW (.inl i) (.int i t)=true:=by simp[wW,B.isInt]
def G7(x:Str)(t:Tok):wW (.inr x) (.str x t)=true:=by simp[wW,B.isStrOf]
def To(a b:Int):decide ((Sum.inl a:Key)=Sum.inl b)=(a==b):=by
 by_cases e:a=b
 ·subst e;simp
 have h:¬(Sum.inl a:Key)=Sum.inl b:=λq=>e (Sum.inl.inj q);rw[decide_eq_false h];exact(beq_eq_false_iff_ne.mpr e).symm
def Ti(a b:Str):decide ((Sum.inr a:Key)=Sum.inr b)=decide (a=b):=by
 by_cases e:a=b
 ·simp
 have h:¬(Sum.inr a:Key)=Sum.inr b:=λq=>e (Sum.inr.inj q);rw[decide_eq_false h,decide_eq_false e]
def Tn(a:Int)(b:Str):decide ((Sum.inl a:Key)=Sum.inr b)=false:=decide_eq_false (λq=>nomatch q)
def Tj(a:Str)(b:Int):decide ((Sum.inr a:Key)=Sum.inl b)=false:=decide_eq_false (λq=>nomatch q)
def a8(prog:Da)(w:Cl):PySem.KeyKind prog w Key where
 is:=wW
 hash:=Xo w
 inj:=λv a b K q=>by
  obtain⟨i,t,rfl,rfl⟩|⟨x,t,rfl,rfl⟩:=cg K
  ·obtain⟨j,u,rfl,e⟩|⟨y,u,rfl,e⟩:=cg q
   ·injection e with g _;rw[g]
   exact nomatch e
  obtain⟨j,u,rfl,e⟩|⟨y,u,rfl,e⟩:=cg q
  ·exact nomatch e
  injection e with g _;rw[g]
 byValue:=λk v h=>by
  obtain⟨i,t,rfl,rfl⟩|⟨x,t,rfl,rfl⟩:=cg h <;> rfl
 pyHash:=λhv h=>by
  obtain⟨i,t,rfl,rfl⟩|⟨x,t,rfl,rfl⟩:=cg hv
  ·exact wpAny_pyHash_int h
  exact wpAny_pyHash_str h
 eqBool:=λz hv h=>by
  obtain⟨i,t,rfl,rfl⟩|⟨x,t,rfl,rfl⟩:=cg z
  ·obtain⟨j,u,rfl,rfl⟩|⟨y,u,rfl,rfl⟩:=cg hv
   ·rw[To]at h;exact wpAny_eqBool_int h
   rw[Tn]at h;exact SeqAt.EqAt.int_str i t y u _ _ _ _ h
  obtain⟨j,u,rfl,rfl⟩|⟨y,u,rfl,rfl⟩:=cg hv
  ·rw[Tj]at h;exact SeqAt.EqAt.str_int x t j u _ _ _ _ h
  rw[Ti]at h;exact wpAny_eqBool_str h
 «strs»:=λk x t v h=>by
  obtain⟨i,u,rfl,e⟩|⟨y,u,rfl,e⟩:=cg h
  ·exact nomatch e
  injection e with g _
  subst g;cases v <;> rfl
def AJ(prog:Da)(w:Cl)(i:Int)(t:Tok):(a8 prog w).is (.inl i) (.int i t)=true:=G8 i t
def AI(prog:Da)(w:Cl)(x:Str)(t:Tok):(a8 prog w).is (.inr x) (.str x t)=true:=G7 x t
set_option genInjectivity true in
inductive V where
 |non|bl (b:Bool)|int (i:Int)|str (x:Str)|byt (b:Array UInt8)|flt (b:UInt64)|ref (a:J)|ty (n:String)
 deriving DecidableEq
abbrev Ω:=List V
abbrev ϐ:=List (Key×V)
abbrev ϑ:=List (List Key×V)
def RelV:V->B->Prop
 |.non,u=>u=B.none|.bl b,u=>u=B.bool b|.int i,u=>∃t,u=B.int i t|.str x,u=>∃t,u=B.str x t|.byt b,u=>∃t,u=B.bytes b t|.flt b,u=>∃t,u=B.float b t|.ref a,u=>u=B.ref a|.ty n,u=>u=B.type n
abbrev Vals:Ω->Δ->Prop:=Paired RelV
theorem Vals.length(r:Vals xs us):xs.length=us.length:=Paired.length r
theorem Vals.get:∀{xs:Ω}{us:Δ}{i:Nat}{x:V},Vals xs us->xs[i]?=Z x->∃u,us[i]?=Z u/\RelV x u
 |_,_,_,_,.nil,e=>by simp at e|_,_,0,_,.cons r _,e=>by simp at e;subst e;exact(_,U,r)|_,_,i+1,x,.cons _ t,e=>by
  let(u,h1,h2):=Vals.get t (e:);exact(u,(h1:),h2)
theorem Vals.set(r:RelV x u):∀{xs:Ω}{us:Δ}(i:Nat),Vals xs us->Vals (xs.set i x) (us.set i u)
 |_,_,_,.nil=>.nil|_,_,0,.cons _ t=>.cons r t|_,_,i+1,.cons q t=>.cons q (Vals.set r i t)
variable{us:Δ}
def Vals.append(h:Vals xs us)(s:Vals ys ws):Vals (xs++ys) (us++ws):=by induction h with|nil=>exact s|cons r _ g=>exact .cons r g
theorem Vals.take:∀{xs:Ω}{us:Δ}(n:Nat),Vals xs us->Vals (xs.take n) (us.take n)
 |_,_,0,_=>.nil|_,_,_+1,.nil=>.nil|_,_,n+1,.cons r t=>.cons r (Vals.take n t)
theorem Vals.drop:∀{xs:Ω}{us:Δ}(n:Nat),Vals xs us->Vals (xs.drop n) (us.drop n)
 |_,_,0,r=>r|_,_,_+1,.nil=>.nil|_,_,n+1,.cons _ t=>Vals.drop n t
def ku:Option V->Option B->Prop
 |some v,Z u=>RelV v u|none,Y=>True|_,_=>False
def KV{κ:Type}:List (κ×V)->List (κ×B)->Prop:=Paired λ(p:κ×V)(q:κ×B)=>p.1=q.1/\RelV p.2 q.2
def kV:Key->V
 |.inl i=>.int i|.inr x=>.str x
inductive HO where
 |lst(xs:Ω)|tup(xs:Ω)|dK(kvs:ϐ)|dT (kvs:ϑ)|set(S:Int->Bool)(n:Nat)|ins(C dx:J)(fs:List (Str×V))|own(x:J)|xd(fs:List (Str×V))|room(x:Int)|met(f x:J)|rng(lo hi:Int)|frz(o:Obj)(u:HO)|tbl(ps:Array B)|ext(φ:Do->Prop)
abbrev Hp:=J->Option HO
def upd(H:Hp)(a:J)(o:HO):Hp:=λb=>if b=a then Z o else H b
variable{H:Hp}{a:J}
def aA:upd H a o a=Z o:=by unfold upd;rw[if_pos rfl]
def au(h:b≠a):upd H a o b=H b:=by unfold upd;rw[if_neg h]
def fQ:upd (upd H a o) a u=upd H a u:=by funext b;unfold upd;split <;> rfl
def j7{o u:HO}(h:H a=Z o)(h':H b=Z u)(d:o≠u):a≠b:=by intro e;subst e;rw[h]at h';exact d (Option.some.inj h')
def bj{o:HO}(h:H a=Z o)(h':H b=Y):a≠b:=by intro e;subst e;rw[h]at h';cases h'
def mI(h:Do)(a:J)(items:Array B):Prop:=IsTup h a items/\∃o,h.get? a=Z o/\o.dict=Y
theorem mI.new(h:Do)(items:Array B):mI (h.push {cls:=.type "tuple",data:=.seq items}) h.objs.size items:=(IsTup.new _ _,_,kD _ U,U)
section
variable(P:Da)(w:Cl)
def di(H:Hp)(h:Do)(a:J):HO->Prop
 |.lst xs=>xs.length<=mu/\∃(its:Δ)(n:Nat),Vals xs its/\h.get? a=Z (its.toArray^^^n)|.tup xs=>xs.length<=mu/\∃its:Δ,Vals xs its/\mI h a its.toArray|.dK kvs=>kvs.length<=mu/\(a==sysModules)=ϊ/\∃vs,KV kvs vs/\h.DictOf (a8 P w) a vs|.dT kvs=>kvs.length<=mu/\(a==sysModules)=ϊ/\∃xs:List (List Key×J×B),
   Paired (λ(p:List Key×V)(q:List Key×J×B)=>p.1=q.1/\H q.2.1=Z (.tup (p.1.map kV))/\RelV p.2 q.2.2) kvs xs /\
   ∃o es ep,h.get? a=Z o/\o.ExactDict/\o.data=.dict es ep/\es.toList=xs.map (entryOfKey (tupleKind (a8 P w)))/\(xs.map (·.1)).Nodup
 |.set S n=>h.SetOf (intKind P w) a S n|.ins C dx fs=>H dx=Z (.own a)/\fs.length<=1000/\dx≠a/\h.get? a=Z (W.instObj C dx) /\
   ∃mA,h.Ns1 dx mA/\(∀f,ku (fs.lookup f) (mA f))/\PySem.Within mA (fs.map (·.1))
 |.own _=>∃o,h.get? a=Z o|.xd fs=>∃mA,h.Ns1 a mA/\∀f,ku (fs.lookup f) (mA f)|.room x=>∃(its:Δ)(n:Nat),Vals [.int x] its/\h.get? a=Z (its.toArray^^^n)|.rng lo hi=>∃t u v,h.get? a=Z {cls:=.type "range",data:=.fields #[.int lo t,.int hi u,.int 1 v]}|.frz o u=>h.get? a=Z o/\di H h a u|.tbl ps=>h.get? a=Z {cls:=.none,data:=.fields ps}|.met f x=>h.get? a=Z (W.methodObj (.ref f) (.ref x))|.ext φ=>φ h/\(∃o,h.get? a=Z o)/\∀h1 h2:Do,φ h1->(∀o,h1.get? a=Z o->h2.get? a=Z o)->φ h2
def HOk(H:Hp)(h:Do):Prop:=∀a o,H a=Z o->di P w H h a o
end
section
variable{P:Da}{w:Cl}{H':Hp}{h h':Do}{o:HO}
theorem di.lt(x:di P w H h a o):a<h.objs.size:=by cases o with|lst xs=>let(_,_,_,_,e):=x;exact kz e|tup xs=>let(_,_,_,p):=x;exact p.1.lt|dK kvs=>let(_,_,_,_,o,_,_,e,_):=x;exact kz e|dT kvs=>let(_,_,_,_,o,_,_,e,_):=x;exact kz e|set S n=>let(o,_,_,_,e,_):=x;exact kz e|ins C dx fs=>let(_,_,_,e,_):=x;exact kz e|own y=>let(_,e):=x;exact kz e|xd fs=>let(_,(_,_,_,e,_),_):=x;exact kz e|room g=>let(_,_,_,e):=x;exact kz e|rng lo hi=>let(_,_,_,e):=x;exact kz e|frz ob u=>let(e,_):=x;exact kz e|tbl ps=>exact kz (x)|met f y=>exact kz (x)|ext φ=>let(_,(_,e),_):=x;exact kz e
def Paired.VN{F G:α->β->Prop}(r:Paired F q g)(f:∀a b,F a b->G a b):Paired G q g:=by induction r with|nil=>exact .nil|cons r _ z=>exact .cons (f _ _ r) z
def di.d5(x:di P w H h a o)(k:∀b u,(b=a\/H b=Z (.own a))->h.get? b=Z u->h'.get? b=Z u)
  (ho:∀b,H b=Z (.own a)->H' b=Z (.own a)) (Q:∀b xs,H b=Z (.tup xs)->H' b=Z (.tup xs)):di P w H' h' a o:=by
 induction o with|lst xs=>let(z,its,n,r,e):=x;exact(z,its,n,r,k _ _ (.inl U) e)|tup xs=>let(z,its,r,(ob,e,c),o2,g,V):=x;exact(z,its,r,(ob,k _ _ (.inl U) e,c),o2,k _ _ (.inl U) g,V)|dK kvs=>let(z,y,vs,r,ob,es,ep,e,c):=x;exact(z,y,vs,r,ob,es,ep,k _ _ (.inl U) e,c)|dT kvs =>let(z,y,xs,r,ob,es,ep,e,c):=x;exact(z,y,xs,Paired.VN r λp q z=>(z.1,Q _ _ z.2.1,z.2.2),ob,es,ep,k _ _ (.inl U) e,c)|set S n=>let(ob,es,ep,t,e,c):=x;exact(ob,es,ep,t,k _ _ (.inl U) e,c)|ins C dx fs =>let(d,z,ne,e,mA,(od,es,ep,g,c),r):=x;exact(ho _ d,z,ne,k _ _ (.inl U) e,mA,(od,es,ep,k _ _ (.inr d) g,c),r)|own y=>let(ob,e):=x;exact(ob,k _ _ (.inl U) e)|xd fs=>let(mA,(od,es,ep,e,c),r):=x;exact(mA,(od,es,ep,k _ _ (.inl U) e,c),r)|room x'=>let(t,u,v,e):=x;exact(t,u,v,k _ _ (.inl U) e)|rng lo hi=>let(t,u,v,e):=x;exact(t,u,v,k _ _ (.inl U) e)|frz ob u K=>let(e,q):=x;exact(k _ _ (.inl U) e,K q)|tbl ps =>have e:=x;exact k a _ (.inl U) e|met f y =>have e:=x;exact k a _ (.inl U) e|ext φ=>let(p,(o,e),st):=x;exact(st _ _ p λo q=>k _ _ (.inl U) q,(o,k _ _ (.inl U) e),st)
theorem HOk.lt(x:HOk P w H h)(e:H a=Z o):a<h.objs.size:=(x a o e).lt
def HOk.fresh(x:HOk P w H h)(e:h.objs.size<=a):H a=none:=by cases q:H a with|none=>rfl|some u=>exact absurd (ui (x.lt q) e) (Wo _)
def HOk.kept(x:HOk P w H h)(k:∀b u,h.get? b=Z u->h'.get? b=Z u):HOk P w H h':=λa o e =>
 (x a o e).d5 (λb u _ q=>k b u q) (λ_ q=>q) λ_ _ q=>q
def HOk.laid(x:HOk P w H h)(k:∀b u,h.get? b=Z u->h'.get? b=Z u)(hp:h.objs.size<=a)(new:di P w (upd H a o) h' a o):HOk P w (upd H a o) h':=λb u e=>by
 have hn:=x.fresh hp;by_cases g:b=a
 ·subst g;rw[aA]at e;cases e;exact new
 rw[au g]at e;exact(x b u e).d5 (λc v _ q=>k c v q) (λc q=>by rw[au (bj q hn)];exact q) λc xs q=>by rw[au (bj q hn)];exact q
end
def Rd(H:Hp)(a:J)(u:HO):Prop:=H a=Z u\/∃o,H a=Z (.frz o u)
def Rd.of(h:H a=Z u):Rd H a u:=.inl h
variable{P:Da}
def Rd.ok(r:Rd H a u)(x:HOk P w H h):di P w H h a u:=by
 obtain r |⟨o,r⟩:=r
 ·exact x a u r
 let(_,q):=x a _ r;exact q
def Mut:Option HO->Prop
 |some (.lst _)=>True|some (.dK _)=>True|some (.dT _)=>True|some (.set _ _)=>True|some (.ins _ _ _)=>True|some (.ext _)=>True|some (.room _)=>True|_=>False
section
variable{w:Cl}{h h':Do}{x e:J}{o':HO}
def HOk.write(ok:HOk P w H h)(K:Mut (H x))(he:e=x\/H e=Z (.own x))(k:∀b u,b≠e->h.get? b=Z u->h'.get? b=Z u)(ak:∃u,h'.get? e=Z u)
  (new:di P w (upd H x o') h' x o'):HOk P w (upd H x o') h':=λb u q=>by
 have VJ:∀c y,H c=Z (.own y)->c≠x:=λc y r z=>by subst z;rw[r]at K;exact K
 have Xb:∀c xs,H c=Z (.tup xs)->c≠x:=λc xs r z=>by subst z;rw[r]at K;exact K
 by_cases V:b=x
 ·subst V;rw[aA]at q;cases q;exact new
 rw[au V]at q;by_cases g:b=e
 ·have q':H b=Z (.own x):=by
   obtain z|z:=he
   ·exact absurd (g.trans z) V
   rw[g];exact z
  rw[q]at q';cases q';let(v,hv):=ak;exact(v,by rw[g];exact hv)
 refine(ok b u q).d5 (λc v Q r=>k c v ?_ r) (λc r=>by rw[au (VJ c b r)];exact r) λc xs r=>by rw[au (Xb c xs r)];exact r
 obtain rfl|Q:=Q
 ·exact g
 rintro rfl;obtain z|z:=he
 ·exact VJ c b Q z
 rw[Q]at z;cases z;exact V U
end
structure Un(fs ex:Θ)(H H':Hp)(h h':Do):Prop where
 keep:∀b o,h.get? b=Z o->H b=Y->b ∉ fs->b ∉ ex->h'.get? b=Z o
 slot:∀b o,h.get? b=Z o->H b=Y->b∈fs->b ∉ ex->∃sl,h'.get? b=Z {o with slots:=sl}
 free:∀b o,h.get? b=Z o->H b=Y->b ∉ ex->H' b=Y
 there:∀b o,h.get? b=Z o->b ∉ ex->∃o',h'.get? b=Z o'
 sO:∀b xs,H b=Z (.tup xs)->H' b=Z (.tup xs)
 k9:∀b o u,H b=Z (.frz o u)->H' b=Z (.frz o u)
 sQ:∀b ps,H b=Z (.tbl ps)->∃more,H' b=Z (.tbl (ps++more))
variable{ob:Obj}
section
variable{fs ex:Θ}{H1:Hp}{h h1 h':Do}{x e:J}{o:HO}
def Un.any(u:Un fs ex H H1 h h1)(q:h.get? b=Z ob)(n:H b=Y)(hx:b ∉ ex):∃sl,h1.get? b=Z {ob with slots:=sl}:=by
 by_cases g:b∈fs
 ·exact u.slot b ob q n g hx
 exact(ob.slots,u.keep b ob q n g hx)
def Un.kept(k:∀b u,h.get? b=Z u->h'.get? b=Z u):Un fs ex H H h h':=
 (λb ob q _ _ _=>k b ob q,λb ob q _ _ _=>(ob.slots,k b ob q),λ_ _ _ n _=>n,λb ob q _=>(ob,k b ob q),λ_ _ q=>q,λ_ _ _ q=>q,λ_ ps q=>(#[],by rw[q];simp))
def Un.refl:Un fs ex H H h h:=Un.kept λ_ _ q=>q
def Un.laid(k:∀b u,h.get? b=Z u->h'.get? b=Z u)(hp:h.objs.size<=a)(hn:H a=Y):Un fs ex H (upd H a o) h h' where
 keep:=λb u q _ _ _=>k b u q
 slot:=λb u q _ _ _=>(u.slots,k b u q)
 free:=λb u q n _=>by rw[au (rl (ui (kz q) hp))];exact n
 there:=λb u q _=>(u,k b u q)
 sO:=λb xs q=>by rw[au (bj q hn)];exact q
 k9:=λb u xs q=>by rw[au (bj q hn)];exact q
 sQ:=λb ps q=>(#[],by rw[au (bj q hn),q];simp)
def Un.write(K:Mut (H x))(he:e=x\/H e=Z (.own x))(k:∀b u,b≠e->h.get? b=Z u->h'.get? b=Z u)(P:∃u,h'.get? e=Z u):Un fs ex H (upd H x o) h h':=by
 have hx:∀b,H b=Y->b≠x:=λb n z=>by subst z;rw[n]at K;exact K
 have Q:∀b,H b=Y->b≠e:=λb n z=>by
  subst z;obtain r|r:=he
  ·exact hx b n r
  rw[n]at r;cases r
 have hm:∀b u,H b=Z u->¬ Mut (Z u)->b≠x:=λb u q nm z=>by subst z;rw[q]at K;exact nm K
 refine(λb u q n _ _=>k b u (Q b n) q,λb u q n _ _=>(u.slots,k b u (Q b n) q),λb u q n _=>by rw[au (hx b n)];exact n,λb u q _=>?_,
  λb xs q=>by rw[au (hm b _ q λz=>z)];exact q,λb u xs q=>by rw[au (hm b _ q λz=>z)];exact q,λb ps q=>(#[],by rw[au (hm b _ q λz=>z),q];simp))
 by_cases g:b=e
 ·subst g;exact P
 exact(u,k b u g q)
end
def trk(h:Do)(H:Hp):List Addr:=(Fs h.objs.size).filter λa=>(H a).isSome
def AZ(h:Do)(H:Hp):Do:=W.hideAll h (trk h H)
theorem Hc(h:Do)(H:Hp):(AZ h H).objs.size=h.objs.size:=W.hideAll_size _ _
theorem Lu{h:Do}{b:J}{o:Obj}(e:h.get? b=Z o)(n:H b=Y):(AZ h H).get? b=Z o:=
 W.hideAll_get _ e λhm=>by
  have q:=(Uu.mp hm).2;rw[n]at q;simp at q
theorem OM{h:Do}{b:J}{o:Obj}(e:(AZ h H).get? b=Z o):h.get? b=Z o/\H b=none:=by have g:=W.of_hideAll (trk h H) e;refine(g,?_);cases q:H b with|none=>rfl|some x =>have hm:b∈trk h H:=Uu.mpr (YL.mpr (kz g),by simp[q]);have z:(AZ h H).get? b=none:=W.hideAll_none (trk h H) hm;rw[z]at e;cases e
structure Mod(K:BT)(mg:Υ)(base:Do):Prop where
 kin:K.In base
 glob:base.Ns mainGlobals mg
 blt:∃mb,base.Ns builtinsNs mb/\∀x:Str,x ≠ "__name__"->mb x=bootBuiltins x
 nolimit:base.NoLimit
structure Cx where
 prog:Da
 w:Cl
 K:BT
 mg:Υ
 base:Do
 A:Db
 N:Γ
 s₀:ϋ
 be:Hp
 env:Env
 outer:List Env
 stack:List Env
 ex:Θ
 fn:Str->Bool
 calm:Bool
 pn:Ξ
 xe:Φ
abbrev XV(X:Cx){α:Type}:=@wpAny α (model X.prog X.w) X.A
def frs(l:List Env):List Addr:=l.filterMap (·.frame)
abbrev Cx.fs(X:Cx):List Addr:=frs X.outer
def Vis(sc:Scope)(x:Str):Prop:=sc.names.lookup x=Z .local\/sc.names.lookup x=Z .cell\/sc.names.lookup x=Z .free
def Loc(sc:Scope)(x:Str):Prop:=sc.names.lookup x=Z .local\/sc.names.lookup x=Z .cell
def Look(env:Env)(h:Do)(m:Υ)(x:Str)(u:B):Prop:=
 (env.kindOf x=Z .local/\m x=Z u)\/((env.kindOf x=Z .cell\/env.kindOf x=Z .free)/\∃c,env.cells.lookup x=Z c/\h.IsCell c (Z u))
structure Cx.Ok(X:Cx):Prop where
 mod:Mod X.K X.mg X.base
 kind:X.env.scope.kind=.function
 glob:X.env.globals=mainGlobals
 blt:X.env.builtins=builtinsNs
 above:X.s₀.heap.objs.size<=X.env.locals
 inj:∀x y c,X.env.cells.lookup x=Z c->X.env.cells.lookup y=Z c->x=y
 has:∀x,(X.env.kindOf x=Z .cell\/X.env.kindOf x=Z .free)->∃c,X.env.cells.lookup x=Z c
 cab:∀x c,X.fn x=O->X.env.cells.lookup x=Z c->X.s₀.heap.objs.size<=c
 hd:X.calm=O->X.A.handled=Y
 frames:X.A.frames=Z X.stack
 stk:X.stack=X.outer\/(X.stack=X.env::X.outer/\X.env.frame=Z X.env.locals)
 exf:∀b∈X.ex,b≠X.env.locals/\∀x c,X.env.cells.lookup x=Z c->c≠b
 bs:∀b o,X.base.get? b=Z o->X.s₀.heap.get? b=Z o/\X.be b=Y
 bsz:X.base.objs.size<=X.s₀.heap.objs.size
 KH:∀b o,X.base.get? b=Z o->b ∉ X.ex
 Pk:∀b∈X.ex,b ∉ X.fs
 rh:X.s₀.heap.FunFrames X.base X.outer
 frf:∀b∈X.fs,X.be b=Y
structure Inv(X:Cx)(gd:Ξ)(σ:List (Option V))(H:Hp)(s:ϋ):Prop where
 ok:X.Ok
 os:s.os=X.s₀.os
 bare:AllBare s.gens
 base:Un X.fs X.ex X.be H X.s₀.heap s.heap
 loc:∃m,s.heap.Ns X.env.locals m/\∀(i:Nat)(x:Str)(v:V),X.N[i]?=Z x->σ[i]?=Z (Z v)->Vis X.env.scope x->∃u,RelV v u/\Look X.env s.heap m x u
 cell:∀x c,X.env.cells.lookup x=Z c->∃v,s.heap.IsCell c v
 free:H X.env.locals=Y
 gw:∀x c,X.env.cells.lookup x=Z c->H c=Y
 pin:∀p∈X.pn++gd,s.heap.get? p.1=Z p.2/\H p.1=Y/\p.1≠X.env.locals/\p.1 ∉ X.fs/\∀v,p.2.data ≠ .cell v
 hok:HOk X.prog X.w H s.heap
 len:σ.length=X.N.length
variable{ch:Θ}{t':Nat}{it:J}{N:Γ}{j:Nat}{x:Str}{u:B}{s':ϋ}
section
variable{X:Cx}{gd:Ξ}{σ:List (Option V)}{H':Hp}{s:ϋ}{h':Do}
def Cx.Ok.Xe(ok:X.Ok)(e:X.base.get? b=Z o):b ∉ X.fs:=λg=>by
 have:=(ok.rh.mem g).1;rw[e]at this;cases this
theorem Inv.bs(I:Inv X gd σ H s):∀b o,X.base.get? b=Z o->s.heap.get? b=Z o/\H b=none:=λb o e =>
 (I.base.keep b o (I.ok.bs b o e).1 (I.ok.bs b o e).2 (I.ok.Xe e) (I.ok.KH b o e),I.base.free b o (I.ok.bs b o e).1 (I.ok.bs b o e).2 (I.ok.KH b o e))
def Inv.bk(I:Inv X gd σ H s):∀b o,X.base.get? b=Z o->s.heap.get? b=Z o:=λb o e=>(I.bs b o e).1
theorem Inv.mod(I:Inv X gd σ H s):Mod X.K X.mg X.base:=I.ok.mod
def Inv.kIn(I:Inv X gd σ H s):X.K.In s.heap:=I.ok.mod.kin.keeps I.bk
theorem Inv.lt(I:Inv X gd σ H s):X.env.locals<s.heap.objs.size:=let(_,hn,_):=I.loc;hn.lt
def Inv.sz(I:Inv X gd σ H s):X.s₀.heap.objs.size<=s.heap.objs.size:=sF I.ok.above (wz I.lt)
def Inv.VL(I:Inv X gd σ H s)(h:s.heap.objs.size<=a):a ∉ X.fs:=λg=>by
 let(_,o,ho,_):=I.ok.rh.mem g;exact absurd (ui (kz ho) (sF I.sz h)) (Wo _)
def Inv.cne(I:Inv X gd σ H s):∀x c,X.env.cells.lookup x=Z c->c≠X.env.locals:=λx c e z=>by
 let(v,o,ho,hd):=I.cell x c e;let(m,(o',es,ep,g,q,_),_):=I.loc;rw[z,g]at ho;cases ho;rw[q]at hd;cases hd
theorem Inv.rh(I:Inv X gd σ H s):s.heap.FunFrames X.base X.outer:=by
 have all:∀l,(∀b∈frs l,b∈X.fs)->X.s₀.heap.FunFrames X.base l->s.heap.FunFrames X.base l:=by
  intro l;induction l with
  |nil=>intro _ _;trivial
  |cons env r K =>intro hs hl;let(hk,(L,o,hf,hn,ho,hd),hr):=hl;have q:=hs L (by unfold frs;rw[Zl,hf];exact j0);let(sl,e):=I.base.slot L o ho (I.ok.frf L q) q λz=>I.ok.Pk L z q;exact(hk,(L,_,hf,hn,e,hd),K (λb g=>hs b (by unfold frs;rw[Zl,hf];exact j5 _ g)) hr)
 exact all X.outer (λ_ g=>g) I.ok.rh
theorem Inv.stack(I:Inv X gd σ H s):s.heap.FunFrames X.base X.stack:=by
 obtain e |⟨e,hf⟩:=I.ok.stk
 ·rw[e];exact I.rh
 rw[e];let(m,hn,_):=I.loc;exact .cons (by rw[I.ok.kind];decide) hf hn (Heap.get?_none_of_le (sF I.ok.bsz I.ok.above)) I.rh
def Inv.xF(I:Inv X gd σ H s):∀b∈frs X.stack,b∈X.env.locals::X.fs:=λb g=>by
 obtain e |⟨e,hf⟩:=I.ok.stk
 ·rw[e]at g;exact j5 _ g
 rw[e]at g;unfold frs at g;rw[Zl,hf]at g;exact g
def Inv.D6(I:Inv X gd σ H s):∀b∈frs X.stack,H b=none:=λb g=>by
 obtain e|g:=kC.mp (I.xF b g)
 ·rw[e];exact I.free
 let(_,o,ho,_):=I.ok.rh.mem g;exact I.base.free b o ho (I.ok.frf b g) λz=>I.ok.Pk b z g
def Inv.step(I:Inv X gd σ H s)
  (K:∀b∈ch,(b∈X.ex\/X.s₀.heap.objs.size<=b)/\b≠X.env.locals/\(∀x c,X.env.cells.lookup x=Z c->c≠b)/\∀p∈X.pn++gd,p.1≠b)
  (keep:∀b o,b≠X.env.locals->b ∉ X.fs->b ∉ ch->s.heap.get? b=Z o->H b=Y->h'.get? b=Z o)
  (slot:∀b o,b≠X.env.locals->b∈X.fs->b ∉ ch->s.heap.get? b=Z o->H b=Y->∃sl,h'.get? b=Z {o with slots:=sl}) (free:∀b o,b ∉ ch->s.heap.get? b=Z o->H b=Y->H' b=Y)
  (there:∀b o,b ∉ ch->s.heap.get? b=Z o->∃o',h'.get? b=Z o')
  (sO:∀b xs,H b=Z (.tup xs)->H' b=Z (.tup xs)) (k9:∀b o u,H b=Z (.frz o u)->H' b=Z (.frz o u)) (sQ:∀b ps,H b=Z (.tbl ps)->∃more,H' b=Z (.tbl (ps++more)))
  (ns:∀m,s.heap.Ns X.env.locals m->h'.Ns X.env.locals m) (hok:HOk X.prog X.w H' h') (hg:AllBare g'):
  Inv X gd σ H' {s with heap:=h',gens:=g',drawn:=d',toks:=t'}:=by
 have ak:∀b o,X.s₀.heap.get? b=Z o->b≠X.env.locals:=λb o e=>rl (ui (kz e) I.ok.above);have P:∀b o,X.s₀.heap.get? b=Z o->b ∉ X.ex->b ∉ ch:=λb o e hx V=>by
  obtain z|z:=(K b V).1
  ·exact hx z
  exact absurd (ui (kz e) z) (Wo _)
 have cellK:∀x c,X.env.cells.lookup x=Z c->∀v,s.heap.IsCell c v->h'.IsCell c v:=λx c e v (o,ho,hd)=>by
  have g:=λz=>(K c z).2.2.1 x c e U;by_cases hc:c∈X.fs
  ·let(sl,q):=slot c o (I.cne x c e) hc g ho (I.gw x c e);exact(_,q,hd)
  exact(o,keep c o (I.cne x c e) hc g ho (I.gw x c e),hd)
 refine(I.ok,I.os,hg,(λb o e n V hx=>?_,λb o e n V hx=>?_,λb o e n hx=>?_,λb o e hx=>?_,λb xs e=>sO b xs (I.base.sO b xs e),λb o xs e=>k9 b o xs (I.base.k9 b o xs e),λb ps e=>?_),?_,λx c e=>?_,?_,λx c e=>?_,λp hp=>?_,hok,I.len)
 ·exact keep b o (ak b o e) V (P b o e hx) (I.base.keep b o e n V hx) (I.base.free b o e n hx)
 ·let(sl,Q):=I.base.slot b o e n V hx;let(ar,e2):=slot b _ (ak b o e) V (P b o e hx) Q (I.base.free b o e n hx);exact(ar,e2)
 ·let(o',Q):=I.base.there b o e hx;exact free b o' (P b o e hx) Q (I.base.free b o e n hx)
 ·let(o',Q):=I.base.there b o e hx;exact there b o' (P b o e hx) Q
 ·let(m1,Q):=I.base.sQ b ps e;let(m2,e2):=sQ b _ Q;exact(m1++m2,by rw[e2,Array.append_assoc])
 ·let(m,hn,hl):=I.loc;refine(m,ns m hn,λi x v Q e2 e3=>?_);let(u,r,l):=hl i x v Q e2 e3;refine(u,r,?_);obtain l |⟨k,c,e,z⟩:=l
  ·exact .inl l
  exact .inr (k,c,e,cellK x c e _ z)
 ·let(v,z):=I.cell x c e;exact(v,cellK x c e v z)
 ·let(m,(o,_,_,ho,_),_):=I.loc;exact free _ o (λz=>(K _ z).2.1 U) ho I.free
 ·let(v,o,ho,hd):=I.cell x c e;exact free c o (λz=>(K c z).2.2.1 x c e U) ho (I.gw x c e)
 let(e,n,ne,nf,d):=I.pin p hp;have g:=λz=>(K p.1 z).2.2.2 p hp U;exact(keep p.1 p.2 ne nf g e n,free p.1 p.2 g e n,ne,nf,d)
def Inv.un(I:Inv X gd σ H s)(u:Un X.fs [] H H' s.heap h')(hok:HOk X.prog X.w H' h'):Inv X gd σ H' {s with heap:=h',toks:=t'}:=by let(m,(o,es,ep,ho,r),_):=id I.loc;let(sl,V):=u.any ho I.free ad;exact I.step (ch:=[]) nofun (λb o _ q _ e n=>u.keep b o e n q ad) (λb o _ q _ e n=>u.slot b o e n q ad) (λb o _ e n=>u.free b o e n ad) (λb o _ e=>u.there b o e ad) u.sO u.k9 u.sQ (λm' hm=>by let(o',K,P,g,Q):=hm;rw[ho]at g;cases g;exact(_,K,P,V,Q)) hok I.bare
def Inv.call(I:Inv X gd σ H s)(u:Un (frs X.stack) ch H H' s.heap h')(hok:HOk X.prog X.w H' h')(hg:AllBare g')
  (K:∀b∈ch,(b∈X.ex\/X.s₀.heap.objs.size<=b)/\b≠X.env.locals/\(∀x c,X.env.cells.lookup x=Z c->c≠b)/\∀p∈X.pn++gd,p.1≠b):
  Inv X gd σ H' {s with heap:=h',gens:=g',drawn:=d',toks:=t'}:=by
 let(m,(o,es,ep,ho,r),_):=id I.loc;let(sl,P):=u.any ho I.free λz=>(K _ z).2.1 U;exact I.step K (λb o P hb g e n=>u.keep b o e n (λz=>(kC.mp (I.xF b z)).elim P hb) g) (λb o _ _ g e n=>u.any e n g) (λb o g e n=>u.free b o e n g) (λb o g e=>u.there b o e g) u.sO u.k9 u.sQ (λm' hm=>by let(o',Q,V,q,r'):=hm;rw[ho]at q;cases q;exact(_,Q,V,P,r')) hok hg
def Inv.turned(I:Inv X gd σ H s)(k:∀b o,b≠it->s.heap.get? b=Z o->h'.get? b=Z o)(hn:H it=Y)(P:it≠X.env.locals)
  (h1:it∈X.ex\/X.s₀.heap.objs.size<=it) (h2:∀x c,X.env.cells.lookup x=Z c->c≠it) (h3:∀p∈X.pn++gd,p.1≠it):Inv X gd σ H {s with heap:=h',toks:=t'}:=by
 have K:∀b u,H b=Z u->b≠it:=λb u e z=>by rw[z,hn]at e;cases e
 refine I.step (ch:=[it]) (λb Q=>?_) (λb o _ _ g e _=>k b o (λz=>g (by simp[z])) e) (λb o _ _ g e _=>(o.slots,k b o (λz=>g (by simp[z])) e)) (λ_ _ _ _ n=>n)
  (λb o g e=>(o,k b o (λz=>g (by simp[z])) e)) (λ_ _ e=>e) (λ_ _ _ e=>e) (λb ps e=>(#[],by rw[e];simp)) (λm hm=>?_) (λb u e=>?_) I.bare
 ·have e:=(Q:);subst e;exact(h1,P,h2,h3)
 ·let(o,es,ep,ho,r):=hm;exact(o,es,ep,k _ o (Ne.symm P) ho,r)
 refine(I.hok b u e).d5 (λc v g q=>k c v ?_ q) (λ_ q=>q) λ_ _ q=>q;obtain z|z:=g
 ·rw[z];exact K b u e
 exact K c _ z
def Inv.tok(I:Inv X gd σ H s)(t:Nat):Inv X gd σ H {s with toks:=t}:=I.un Un.refl I.hok
theorem Inv.kept(I:Inv X gd σ H s)(k:∀b u,s.heap.get? b=Z u->h'.get? b=Z u):Inv X gd σ H {s with heap:=h',toks:=t'}:=I.un (Un.kept k) (I.hok.kept k)
theorem Inv.laid(I:Inv X gd σ H s)(k:∀b u,s.heap.get? b=Z u->h'.get? b=Z u)(hp:s.heap.objs.size<=a)(new:di X.prog X.w (upd H a o) h' a o):
  Inv X gd σ (upd H a o) {s with heap:=h',toks:=t'}:=I.un (Un.laid k hp (I.hok.fresh hp)) (I.hok.laid k hp new)
theorem Inv.write{x e:J}(I:Inv X gd σ H s)(q:Mut (H x))(he:e=x\/H e=Z (.own x))(k:∀b u,b≠e->s.heap.get? b=Z u->h'.get? b=Z u)(g:∃u,h'.get? e=Z u)
  (new:di X.prog X.w (upd H x o) h' x o):Inv X gd σ (upd H x o) {s with heap:=h',toks:=t'}:=I.un (Un.write q he k g) (I.hok.write q he k g new)
def Inv.ng(I:Inv X gd σ H s)(h:∀p∈pins',s.heap.get? p.1=Z p.2/\H p.1=Y/\p.1≠X.env.locals/\p.1 ∉ X.fs/\∀v,p.2.data ≠ .cell v):Inv X pins' σ H s:=
 (I.ok,I.os,I.bare,I.base,I.loc,I.cell,I.free,I.gw,λp hp=>(jn.mp hp).elim (λz=>I.pin p (qh _ z)) (h p),I.hok,I.len)
def AF(g:N.Nodup){i:Nat}(a:N[i]?=Z x)(b:N[j]?=Z x):i=j:=by let(h1,z):=jm.mp a;let(h2,q):=jm.mp b;exact(List.getElem_inj g).mp (z.trans q.symm)
abbrev AT(X:Cx)(x:Str):Prop:=X.fn x=true\/X.env.scope.names.lookup x=some .local
def F4{M:Model}{A:Db}{E:Φ}{i:Nat}{v:V}{Q:Unit->ϋ->Prop}(I:Inv X gd σ H s)(hN:X.N.Nodup)(hi:X.N[i]?=Z x)(hx:Loc X.env.scope x)(r:RelV v u)
  (h:∀s',Inv X gd (σ.set i (Z v)) H s'->(∃a,YQ a s.heap s'.heap/\(a=X.env.locals\/X.env.cells.lookup x=Z a))->Q () s') (hf:AT X x:=by first|exact .inl rfl|exact .inr rfl|assumption):wpAny M A (storeName X.env x u) Q E s:=by
 let(m,hn,hl):=id I.loc;have XS:(X.env.scope.kind == .class ||(X.env.scope.kind == .module&&X.env.locals != X.env.globals))=false:=by rw[I.ok.kind];rfl
 have ak:i < σ.length:=by rw[I.len];exact(jm.mp hi).1
 have cne:=I.cne;have tracked:∀{a:J}{h':Do},(∃o,s.heap.get? a=Z o/\H a=Y)->YQ a s.heap h'->HOk X.prog X.w H h':=λ{a h'} ha hs b ob e=>by
  let(_,_,gN):=ha;refine(I.hok b ob e).d5 (λc w' K q=>(hs.2 c ?_).trans q) (λ_ q=>q) λ_ _ q=>q;rintro rfl;obtain rfl|K:=K
  ·rw[gN]at e;cases e
  rw[gN]at K;cases K
 obtain hk|hk:=hx
 ·refine wpAny_storeName_local hk hn (λh' aW hs=>?_) XS;let(oL,_,_,aQ,_):=id hn;refine h _ (I.ok,I.os,I.bare,(λb o e n hb hx=>?_,λb o e n hb hx=>?_,I.base.free,λb o e hx=>?_,I.base.sO,I.base.k9,I.base.sQ),(_,aW,λj y v' g P e3=>?_),λy c e=>?_,I.free,I.gw,λp hp=>?_,tracked (oL,aQ,I.free) hs,(I.len:)) (_,hs,.inl U)
  ·exact(hs.2 b (rl (ui (kz e) I.ok.above))).trans (I.base.keep b o e n hb hx)
  ·let(sl,g):=I.base.slot b o e n hb hx;exact(sl,(hs.2 b (rl (ui (kz e) I.ok.above))).trans g)
  ·let(o',g):=I.base.there b o e hx;exact(o',(hs.2 b (rl (ui (kz e) I.ok.above))).trans g)
  ·by_cases hj:j=i
   ·subst hj;rw[hi]at g;cases g;rw[WO ak]at P;cases P;exact(u,r,.inl (hk,ad))
   rw[Wb (Ne.symm hj)]at P;let(u',r',q):=hl j y v' g P e3;refine(u',r',?_);obtain⟨k,e⟩|⟨k,c,e,z⟩:=q
   ·refine .inl (k,?_);have:y≠x:=λe=>hj (AF hN g (e▸hi));simp[this,e]
   exact .inr (k,c,e,z.sameBut hs (cne y c e))
  ·let(w',z):=I.cell y c e;exact(w',z.sameBut hs (cne y c e))
  let(e,n,ne,nf,d):=I.pin p hp;exact((hs.2 p.1 ne).trans e,n,ne,nf,d)
 have ar:X.fn x=true:=by
  obtain z|z:=hf
  ·exact z
  rw[z]at hk;cases hk
 let(c,K):=I.ok.has x (.inl hk);let(w',z):=I.cell x c K;refine wpAny_storeName_cell I.ok.kind hk K z (λh' aP hs=>?_);let(oc,av,XC):=id z;refine h {s with heap:=h'} (I.ok,I.os,I.bare,(λb o e n hb hx=>?_,λb o e n hb hx=>?_,I.base.free,λb o e hx=>?_,I.base.sO,I.base.k9,I.base.sQ),(m,hn.sameBut hs (Ne.symm (cne x c K)),λj y v' g P e3=>?_),λy c' e=>?_,I.free,I.gw,λp hp=>?_,tracked (oc,av,I.gw x c K) hs,(I.len:)) (c,hs,.inr K)
 ·exact(hs.2 b (rl (ui (kz e) (I.ok.cab x c ar K)))).trans (I.base.keep b o e n hb hx)
 ·let(sl,g):=I.base.slot b o e n hb hx;exact(sl,(hs.2 b (rl (ui (kz e) (I.ok.cab x c ar K)))).trans g)
 ·let(o',g):=I.base.there b o e hx;exact(o',(hs.2 b (rl (ui (kz e) (I.ok.cab x c ar K)))).trans g)
 ·by_cases hj:j=i
  ·subst hj;rw[hi]at g;cases g;rw[WO ak]at P;cases P;exact(u,r,.inr (.inl hk,c,K,aP))
  rw[Wb (Ne.symm hj)]at P;let(u',r',q):=hl j y v' g P e3;refine(u',r',?_);obtain q |⟨k,c',e,z'⟩:=q
  ·exact .inl q
  refine .inr (k,c',e,z'.sameBut hs ?_);rintro rfl;exact hj (AF hN g (I.ok.inj _ _ _ e K▸hi))
 ·by_cases ay:c'=c
  ·subst ay;exact(_,aP)
  let(w2,z2):=I.cell y c' e;exact(w2,z2.sameBut hs ay)
 let(e,n,ne,nf,d):=I.pin p hp;refine((hs.2 p.1 ?_).trans e,n,ne,nf,d);intro q;rw[q,av]at e;have q':=Option.some.inj e;exact d w' (by rw[<- q'];exact XC)
def ij{A:Db}{E:Φ}{i:Nat}{v:V}{Q:Unit->ϋ->Prop}(I:Inv X gd σ H s)(g:X.N.Nodup)(hi:X.N[i]?=Z x)(hx:Loc X.env.scope x)(r:RelV v u)
  (h:∀s',Inv X gd (σ.set i (Z v)) H s'->Q () s') (hf:AT X x:=by first|exact .inl rfl|exact .inr rfl|assumption):wpAny M A (storeName X.env x u) Q E s:=
 F4 I g hi hx r (λs' q _=>h s' q) hf
def Inv.Wy(I:Inv X gd σ H s)(ho:s'.os=s.os)(u:Un (frs X.stack) ch H H' s.heap s'.heap)(hok:HOk X.prog X.w H' s'.heap)(hg:AllBare s'.gens)
  (g:∀b∈ch,(b∈X.ex\/X.s₀.heap.objs.size<=b)/\b≠X.env.locals/\(∀x c,X.env.cells.lookup x=Z c->c≠b)/\∀p∈X.pn++gd,p.1≠b):Inv X gd σ H' s':=by
 let(h',g',q,t',o'):=s';have e:=ho;subst e;exact I.call u hok hg g
end
abbrev XK:=B->Option J->Hp->Prop
abbrev St:=List (Option V)
abbrev VK:=V->Hp->Prop
abbrev TE:=St->Hp->VK->Prop
abbrev TT:=St->Hp->(Bool->Hp->Prop)->Prop
abbrev TA:=St->Hp->(Ω->Hp->Prop)->Prop
structure Ends where
 nx:St->Hp->Prop
 rt:VK
 bk:St->Hp->Prop:=λ_ _=>False
 ct:St->Hp->Prop:=λ_ _=>False
abbrev TS:=Ends->St->Hp->Prop
inductive EP(X:Cx)(gd:Ξ)(σ:St)(Q:VK)(u:B)(s':ϋ):Prop
 |mk(v H':_)(h1:Inv X gd σ H' s')(h2:RelV v u)(h3:Q v H')
inductive TP(X:Cx)(gd:Ξ)(σ:St)(Q:Bool->Hp->Prop)(b:Bool)(s':ϋ):Prop
 |mk(H':_)(h1:Inv X gd σ H' s')(h2:Q b H')
inductive AP(X:Cx)(gd:Ξ)(σ:St)(Q:Ω->Hp->Prop)(us:Δ)(s':ϋ):Prop
 |mk(vs H':_)(h1:Inv X gd σ H' s')(h2:Vals vs us)(h3:Q vs H')
def SP(X:Cx)(gd:Ξ)(D:Ends)(f:Flow)(s':ϋ):Prop:=
 match f with|.next=>∃g H',Inv X gd g H' s'/\D.nx g H'|.brk=>∃g H',Inv X gd g H' s'/\D.bk g H'|.cont=>∃g H',Inv X gd g H' s'/\D.ct g H'|.ret u=>∃v g H',Inv X gd g H' s'/\RelV v u/\D.rt v H'
def PE(X:Cx)(e:Ev)(t:TE):Prop:=
 ∀(gd:Ξ)(s:ϋ)(σ:St)(H:Hp)(Q:VK),Inv X gd σ H s->t σ H Q->XV X (eval e X.env) (EP X gd σ Q) X.xe s
def PT(X:Cx)(e:Ev)(t:TT):Prop:=
 ∀(gd:Ξ)(s:ϋ)(σ:St)(H:Hp)(Q:Bool->Hp->Prop),Inv X gd σ H s->t σ H Q->XV X (isTrue e X.env (eval e X.env)) (TP X gd σ Q) X.xe s
def PW(X:Cx)(e:Ev)(t:TT):Prop:=
 ∀(whole:Sem B)(gd:Ξ)(s:ϋ)(σ:St)(H:Hp)(Q:Bool->Hp->Prop),Inv X gd σ H s->t σ H Q->XV X (isTrue e X.env whole) (TP X gd σ Q) X.xe s
variable{X:Cx}{e:Ev}
def PW.pt(h:PW X e t):PT X e t:=h _
def PA(X:Cx)(es:List Ev)(t:TA):Prop:=
 ∀(pos:Pos)(gd:Ξ)(s:ϋ)(σ:St)(H:Hp)(Q:Ω->Hp->Prop),Inv X gd σ H s->t σ H Q->XV X (spliced (backTo pos (mJ es X.env))) (AP X gd σ Q) X.xe s
def PS(X:Cx)(st:EQ)(t:TS):Prop:=
 ∀(gd:Ξ)(s:ϋ)(σ:St)(H:Hp)(D:Ends),Inv X gd σ H s->t D σ H->XV X (exec st X.env) (SP X gd D) X.xe s
def PSs(X:Cx)(st:List EQ)(t:TS):Prop:=
 ∀(gd:Ξ)(s:ϋ)(σ:St)(H:Hp)(D:Ends),Inv X gd σ H s->t D σ H->XV X (execs st X.env) (SP X gd D) X.xe s
variable{M:Model}{A:Db}{E:Φ}
def thn{t:Sem α}{Q Q':α->ϋ->Prop}(h:wpAny M A t Q E s)(g:∀a s,Q a s->Q' a s):wpAny M A t Q' E s:=Ux h g λ_ _ x=>x
variable{gd:Ξ}{Q:Φ}{op:CmpOp}
section
inductive cp(i:Nat)(σ:St)(H:Hp)(Q:VK):Prop
 |mk(v:_)(h1:σ[i]?=Z (Z v))(h2:Q v H)
def tC(v:V):TE:=λ_ H Q=>Q v H
abbrev AS(x:Str):Prop:=(x ==("__debug__":Str))=false
def Ke{i:Nat}{pos:Pos}(K:X.N[i]?=Z x)(hv:Vis X.env.scope x)(hd:autoParam (AS x) zdc._auto_1)(g:autoParam ((x ==("__classdict__":Str))=false) zdc._auto_1):PE X (.Name x pos) (cp i):=by
 left;let(v,e,h):=h;let(m,hn,hl):=I.loc;let(u,r,l):=hl i x v K e hv;have fin:EP X gd σ Q u s:=(v,H,I,r,h);obtain⟨hk,hm⟩|⟨hk,c,q,z⟩:=l
 ·exact wpAny_Name (wpAny_loadName_local I.ok.kind hk hn hm fin) hd
 obtain hk|hk:=hk
 ·exact wpAny_Name (wpAny_loadName_cell I.ok.kind hk q z fin) hd
 exact wpAny_Name (wpAny_loadName_free I.ok.kind hk q z fin g) hd
def bX:PE X (.Constant (.int i) j pos) (tC (.int i)):=λ_ _ _ H _ I h=>wpAny_Constant_int (.int i,H,I.tok _,(_,U),h)
def VF:PE X (.Constant (.bool b) j pos) (tC (.bl b)):=λ_ _ _ H _ I h=>Constant_bool (.bl b,H,I,U,h)
def SH:PE X (.Constant .none j pos) (tC .non):=λ_ _ _ H _ I h=>Constant_none (.non,H,I,U,h)
def dO:PE X (.Constant (.str x) j pos) (tC (.str x)):=λ_ _ _ H _ I h=>Calls.Constant_str (.str x,H,I.tok _,(_,U),h)
def Gl(X:Cx)(x:Str):Prop:=X.env.kindOf x=Z .globalImplicit
def yJ{E:Φ}{s:ϋ}{σ:St}{pos:Pos}(I:Inv X gd σ H s)(hg:Gl X x)(hm:X.mg x=Z u)(h:Q u s)
  (hd:autoParam (AS x) zdc._auto_1):XV X (eval (.Name x pos) X.env) Q E s:=
 Calls.Name_function_global I.ok.kind hg (Calls.loadGlobal_global (by rw[I.ok.glob];exact I.mod.glob.keeps I.bk) hm h) hd
def eI{E:Φ}{s:ϋ}{σ:St}{pos:Pos}(I:Inv X gd σ H s)(hg:Gl X x)(hm:X.mg x=Y)(hv:bootBuiltins x=Z u)(h:Q u s)
  (hn:autoParam (x ≠ "__name__") zdc._auto_1) (hd:autoParam (AS x) zdc._auto_1):XV X (eval (.Name x pos) X.env) Q E s:=by
 let(mb,h1,h2):=I.mod.blt;exact Calls.Name_function_global I.ok.kind hg (Calls.loadGlobal_builtin (by rw[I.ok.glob];exact I.mod.glob.keeps I.bk) hm (by rw[I.ok.blt];exact h1.keeps I.bk) ((h2 x hn).trans hv) h) hd
def Od{v:V}{pos:Pos}(hg:Gl X x)(hm:X.mg x=Z u)(r:RelV v u)(hd:autoParam (AS x) zdc._auto_1):PE X (.Name x pos) (tC v):=
 λ_ _ _ H _ I h=>yJ I hg hm (v,H,I,r,h) hd
variable{a b:Ev}{ta tb:TE}{pos:Pos}
def KJ(b:Ev)(h:op ≠ .In)(h2:op ≠ .NotIn):behindInMarks op b=false:=by
 have q:(op==CmpOp.In)=false:=by cases op <;> first|rfl|exact absurd U h
 have g:(op==CmpOp.NotIn)=false:=by cases op <;> first|rfl|exact absurd U h2
 cases b with
 |Set elts k pos =>
  show(k==0&&(op==CmpOp.In||op==CmpOp.NotIn)&&_)=ϊ;rw[q,g];cases(k==0) <;> rfl
 |_=>rfl
variable{tA tB':TT}{rest:List Ev}
def Rt(t u:TT):TT:=λσ H Q=>t σ H λc H1=>if c=O then u σ H1 Q else Q ϊ H1
def tOr(t u:TT):TT:=λσ H Q=>t σ H λc H1=>if c=O then Q O H1 else u σ H1 Q
def Rn(t:TT):TT:=λσ H Q=>t σ H λc H1=>Q (!c) H1
def Ej(g:PT X a tA):PW X (.BoolOp .And [a] pos) tA:=by intro q gd s σ H Q I h;refine isTrue_and (thn (g gd s σ H Q I h) λc s1 e=>?_);cases c with|true=>exact isTrue_and_nil e|false=>exact e
def R9(g:PT X a tA):PW X (.BoolOp .Or [a] pos) tA:=by intro q gd s σ H Q I h;refine isTrue_or (thn (g gd s σ H Q I h) λc s1 e=>?_);cases c with|false=>exact isTrue_or_nil e|true=>exact e
def JQ(V:PT X a tA)(P:PW X (.BoolOp .And (b::rest) pos) tB'):PW X (.BoolOp .And (a::b::rest) pos) (Rt tA tB'):=by intro K gd s σ H Q I h;refine isTrue_and (thn (V gd s σ H _ I h) λc s1 g=>?_);let(H1,z,q):=g;cases c with|true=>exact P K gd s1 σ H1 Q z q|false=>exact(H1,z,q)
def Vt(V:PT X a tA)(P:PW X (.BoolOp .Or (b::rest) pos) tB'):PW X (.BoolOp .Or (a::b::rest) pos) (tOr tA tB'):=by intro K gd s σ H Q I h;refine isTrue_or (thn (V gd s σ H _ I h) λc s1 g=>?_);let(H1,z,q):=g;cases c with|true=>exact(H1,z,q)|false=>exact P K gd s1 σ H1 Q z q
def Sh(g:PT X a tA):PT X (.UnaryOp .Not a pos) (Rn tA):=by left;refine isTrue_not (thn (g gd s σ H (λc H1=>Q (!c) H1) I h) λc s' z=>?_);let(H',K,q):=z;exact(H',K,q)
def Ir(ta tb:TE):TE:=λσ H Q=>ta σ H λx H1=>∃c,x=.bl c/\if c=O then tb σ H1 Q else Q (.bl ϊ) H1
def SG{op}(h:PE X a t):PE X (.BoolOp op [a] pos) t:=λgd s σ H Q I hw=>BoolOp_one (h gd s σ H Q I hw)
def SJ(V:PE X a ta)(P:PE X (.BoolOp .And (b::rest) pos) tb):PE X (.BoolOp .And (a::b::rest) pos) (Ir ta tb):=by left;refine BoolOp_and (thn (V gd s σ H _ I h) λv s1 q=>?_);let(x,H1,z,K,g):=q;let(c,U,g):=g;cases K;refine wpAny_truthy_bool ?_;cases c with|true=>exact P gd s1 σ H1 Q z g|false=>exact(.bl ϊ,H1,z,U,g)
end
def SqL(K:BT)(H:Hp)(a:J)(xs:Ω):Prop:=
 Rd H a (.lst xs) \/
  ∃(o:Obj)(its:Array B)(n:Nat),K.lookup a=Z o/\o.cls=.type "list" /\ o.dict=Y/\o.data=.seq its n/\its.size<=mu/\Vals xs its.toList
def SqT(K:BT)(H:Hp)(a:J)(xs:Ω):Prop:=
 Rd H a (.tup xs) \/
  ∃(o:Obj)(its:Array B)(n:Nat),K.lookup a=Z o/\o.cls=.type "tuple" /\ o.data=.seq its n/\its.size<=mu/\Vals xs its.toList
def X7:B->Option V
 |.none=>Z .non|.bool b=>Z (.bl b)|.int i _=>Z (.int i)|.str x _=>Z (.str x)|.bytes b _=>Z (.byt b)|.float b _=>Z (.flt b)|.ref a=>Z (.ref a)|.type n=>Z (.ty n)|_=>Y
def RelV.abs{x:V}(r:RelV x u):X7 u=Z x:=by
 cases x with
 |non=>cases r;rfl
 |bl _=>cases r;rfl
 |int _=>let(t,U):=r;rfl|str _=>let(t,U):=r;rfl|byt _=>let(t,U):=r;rfl|flt _=>let(t,U):=r;rfl|ref _=>cases r;rfl
 |ty _=>cases r;rfl
theorem RelV.inj{x y:V}(r:RelV x u)(q:RelV y u):x=y:=Option.some.inj (r.abs.symm.trans q.abs)
theorem Vals.inj:∀{xs ys:Ω}{us:Δ},Vals xs us->Vals ys us->xs=ys:=by
 intro xs ys us h;induction h generalizing ys with
 |nil=>intro h';cases h';rfl
 |cons r t q=>intro h';cases h' with|cons g t'=>rw[r.inj g,q t']
section
variable{σ:St}{s:ϋ}{xs ys:Ω}
theorem SqL.of{K:BT}(h:H a=Z (.lst xs)):SqL K H a xs:=.inl (.inl h)
theorem SqT.of{K:BT}(h:H a=Z (.tup xs)):SqT K H a xs:=.inl (.inl h)
def Inv.list(I:Inv X gd σ H s)(h:SqL X.K H a xs):∃its:Δ,Vals xs its/\PlainL s.heap a its.toArray/\xs.length<=mu:=by
 obtain h |⟨o,its,n,hk,g,hd,hs,q,r⟩:=h
 ·let(z,its,n,r,e):=h.ok I.hok;exact(its,r,(_,n,e,U,U,U),z)
 refine(its.toList,r,(o,n,I.kIn a o hk,g,hd,(hs:)),?_);have e:=r.length;simp only[Yx]at e;lia
def Inv.tuple(I:Inv X gd σ H s)(h:SqT X.K H a xs):∃its:Δ,Vals xs its/\IsTup s.heap a its.toArray/\xs.length<=mu:=by
 obtain h |⟨o,its,n,hk,g,hs,q,r⟩:=h
 ·let(z,its,r,p):=h.ok I.hok;exact(its,r,p.1,z)
 refine(its.toList,r,(o,I.kIn a o hk,g,n,(hs:)),?_);have e:=r.length;simp only[Yx]at e;omega
def Inv.AN(I:Inv X gd σ H s)(h:SqL X.K H a xs)(h':SqL X.K H a ys):xs=ys:=by
 let(its,r,(o,n,e,_,_,d),_):=I.list h;let(P,z,(o',Q,g,_,_,q),_):=I.list h';rw[e]at g;cases g;rw[d]at q;injection q with d1 _
 have:=(congrArg Array.toList d1:);subst this;exact r.inj z
def Inv.wF(I:Inv X gd σ H s)(h:SqT X.K H a xs)(h':SqT X.K H a ys):xs=ys:=by
 let(its,r,(o,e,_,n,d),_):=I.tuple h;let(P,z,(o',g,_,Q,q),_):=I.tuple h';rw[e]at g;cases g;rw[d]at q;injection q with d1 _
 have:=(congrArg Array.toList d1:);subst this;exact r.inj z
end
abbrev Cx.vL(X:Cx)(E:Φ):Cx:={X with xe:=E}
abbrev Cx.nox(X:Cx):Cx:=X.vL λ_ _=>False
theorem Cx.Ok.vL(ok:X.Ok)(E:Φ):(X.vL E).Ok:=
 (ok.mod,ok.kind,ok.glob,ok.blt,ok.above,ok.inj,ok.has,ok.cab,ok.hd,ok.frames,ok.stk,ok.exf,ok.bs,ok.bsz,ok.KH,ok.Pk,ok.rh,ok.frf)
def Cx.Ok.jH(ok:(X.vL E).Ok):X.Ok:=
 (ok.mod,ok.kind,ok.glob,ok.blt,ok.above,ok.inj,ok.has,ok.cab,ok.hd,ok.frames,ok.stk,ok.exf,ok.bs,ok.bsz,ok.KH,ok.Pk,ok.rh,ok.frf)
section
variable{σ:St}{s:ϋ}
theorem Inv.vL(I:Inv X gd σ H s)(E:Φ):Inv (X.vL E) gd σ H s:=(I.ok.vL E,I.os,I.bare,I.base,I.loc,I.cell,I.free,I.gw,I.pin,I.hok,I.len)
theorem Inv.jH(I:Inv (X.vL E) gd σ H s):Inv X gd σ H s:=(I.ok.jH,I.os,I.bare,I.base,I.loc,I.cell,I.free,I.gw,I.pin,I.hok,I.len)
theorem SP.jH(h:SP (X.vL E) gd D f s'):SP X gd D f s':=by cases f with|next=>let(g,H',I,q):=h;exact(g,H',I.jH,q)|brk=>let(g,H',I,q):=h;exact(g,H',I.jH,q)|cont=>let(g,H',I,q):=h;exact(g,H',I.jH,q)|ret u=>let(v,g,H',I,r,q):=h;exact(v,g,H',I.jH,r,q)
theorem PSs.nox{st:List EQ}(h:PSs X.nox st t):PSs X st t:=λgd s σ H D I hw =>
 Ux (h gd s σ H D (I.vL _) hw) (λ_ _ q=>q.jH) λ_ _ z=>False.elim z
end
section
variable{st:EQ}{rest:List EQ}{t u:TS}{te:TE}{pos:Pos}
def P7:TS:=λD σ H=>D.nx σ H
def UO(t u:TS):TS:=λD σ H=>t {D with nx:=u D} σ H
def Em:PSs X [] P7:=λ_ _ σ H _ I h=>wpAny_execs_nil (σ,H,I,h)
def bQ(h1:PS X st t)(h2:PSs X rest u):PSs X (st::rest) (UO t u):=by right;refine wpAny_execs_cons (thn (h1 gd s σ H {D with nx:=u D} I h) λf s1 q=>?_);cases f with|next =>let(g,H',z,q):=q;exact h2 gd s1 g H' D z q|ret v=>exact q|brk=>exact q|cont=>exact q
def gJ(h1:PS X st t):PSs X [st] t:=by right;refine wpAny_execs_cons (thn (h1 gd s σ H D I h) λf s1 q=>?_);cases f with|next=>exact wpAny_execs_nil q|ret v=>exact q|brk=>exact q|cont=>exact q
def Inv.quiet{σ:St}(I:Inv X gd σ H s):interactive X.env=false:=by simp[interactive,I.ok.kind]
def sT(te:TE):TS:=λD σ H=>te σ H λ_ H1=>D.nx σ H1
def yl(he:PE X e te)(hs:‹swapsWith e Y pos.line X.env=pure false›):PS X (.Expr e pos) (sT te):=by right;exact wpAny_Expr_any (thn (he gd s σ H _ I h) λv s1 (x,H1,q,z,g)=>(σ,H1,q,g)) I.quiet hs
def Rl(te:TE):TS:=λD σ H=>te σ H D.rt
def t9(he:PE X e te):PS X (.Return (Z e) pos) (Rl te):=by right;exact wpAny_Return_some (thn (he gd s σ H _ I h) λv s1 (x,H1,z,g,q)=>(x,σ,H1,z,g,q))
def UQ(c:TT)(t u:TS):TS:=λD σ H=>c σ H λb H1=>if b=O then t D σ H1 else u D σ H1
def Qi{c:Ev}{a b:List EQ}{tc:TT}(K:PT X c tc)(Q:PSs X a t)(P:PSs X b u):PS X (.If c a b pos) (UQ tc t u):=by right;refine wpAny_If (thn (K gd s σ H _ I h) λd s1 g=>?_);let(H1,z,q):=g;cases d with|true=>exact Q gd s1 σ H1 D z q|false=>exact P gd s1 σ H1 D z q
def Ij:TS:=λ_ _ _=>False
def JX:PS X st Ij:=λ_ _ _ _ _ _ h=>h.elim
end
abbrev TG:=V->St->Hp->(St->Hp->Prop)->Prop
abbrev TGs:=Ω->St->Hp->(St->Hp->Prop)->Prop
def PG(X:Cx)(target:Ev)(t:TG):Prop:=
 ∀(gd:Ξ)(s:ϋ)(σ:St)(H:Hp)(v:V)(u:B)(Q:St->Hp->Prop),Inv X gd σ H s->RelV v u->t v σ H Q ->
  XV X (assign target X.env u) (λ_ s'=>∃g H',Inv X gd g H' s'/\Q g H') X.xe s
def PGs(X:Cx)(ts:List Ev)(t:TGs):Prop:=
 ∀(gd:Ξ)(s:ϋ)(σ:St)(H:Hp)(vs:Ω)(us:Δ)(Q:St->Hp->Prop),Inv X gd σ H s->Vals vs us->t vs σ H Q ->
  XV X (assignInOrder ((assignEach ts X.env).map (·.2)) us) (λ_ s'=>∃g H',Inv X gd g H' s'/\Q g H') X.xe s
abbrev Uq:=V->V->V->Hp->(Hp->Prop)->Prop
def Us(X:Cx)(t:Uq):Prop:=
 ∀(gd:Ξ)(s:ϋ)(σ:St)(H:Hp)(o i v:V)(g iv u:B)(Q:Hp->Prop),Inv X gd σ H s->RelV o g->RelV i iv->RelV v u->t o i v H Q ->
  XV X (setItem g iv u) (λ_ s'=>∃H',Inv X gd σ H' s'/\Q H') X.xe s
abbrev TIp:=V->V->Hp->VK->Prop
def PIp(X:Cx)(op:Operator)(t:TIp):Prop:=
 ∀(gd:Ξ)(s:ϋ)(σ:St)(H:Hp)(x y:V)(v u:B)(Q:VK),Inv X gd σ H s->RelV x v->RelV y u->t x y H Q ->
  XV X (inplaceOp op v u) (EP X gd σ Q) X.xe s
variable{es:List Ev}{n:Nat}{o:Ev}{to:TE}{tg:Ev}{te:TE}{pos':Pos}{b:Ev}{py:Pos}
section
variable{pos:Pos}
def fP(i:Nat):TG:=λv σ H Q=>Q (σ.set i (Z v)) H
def ni(g:X.N.Nodup)(hi:X.N[i]?=Z x)(hx:Loc X.env.scope x)(hf:AT X x:=by first|exact .inl rfl|exact .inr rfl|assumption):PG X (.Name x pos) (fP i):=by intro gd s σ H v u Q I r h;exact wpAny_assign_Name (ij I g hi hx r (λs' q=>(_,H,q,h)) hf)
def TY:TGs:=λvs σ H Q=>vs=[]/\Q σ H
def ES(t:TG)(u:TGs):TGs:=λvs σ H Q=>∃v r,vs=v::r/\t v σ H λg H'=>u r g H' Q
def i5:PGs X [] TY:=by intro gd s σ H vs us Q I r h;let(e,h):=h;subst e;exact assignInOrder_nil (σ,H,I,h)
def bG{u:TGs}(h1:PG X e t)(h2:PGs X es u)
  (hs:‹(assignEach (e::es) X.env).map (·.2)=assign e X.env ::(assignEach es X.env).map (·.2)›):PGs X (e::es) (ES t u):=by
 intro gd s σ H vs us Q I r h;let(v,V,K,h):=h;subst K;cases r with|cons r q =>rw[hs];exact assignInOrder_cons (thn (h1 gd s σ H _ _ _ I r h) λ_ s1 (g,H1,P,z)=>(h2 gd s1 g H1 _ _ Q P q z))
inductive Ph(K:BT)(n:Nat)(t:TGs)(v:V)(σ:St)(H:Hp)(Q:(St->Hp->Prop)):Prop
 |mk(a xs:_)(h1:v=.ref a)(h2:SqT K H a xs)(h3:xs.length=n)(h4:t xs σ H Q)
def SF{k:Nat}(z:X.calm=O)(h:PGs X es t)
  (hn:‹(assignEach es X.env).length=n›) (g:‹(assignEach es X.env).findIdx? (·.1)=none›):PG X (.Tuple es k pos) (Ph X.K n t):=by
 intro gd s σ H v u Q I r hw;let(a,xs,P,hq,hl,hw):=hw;subst P;cases r;let(its,rv,q,hz):=I.tuple hq;refine assign_Tuple_tuple (I.ok.hd z) q (by simp[hn,<- hl,rv.length]) g λh' hx=>?_;have V:=I.kept (t':=s.toks) λb o e=>hx b o (rl (kz e)) e;exact h gd _ σ H xs _ Q V (rv:) hw
def Ly(to ti:TE)(t:Uq):TG:=λv σ H Q=>to σ H λo H1=>ti σ H1 λi H2=>t o i v H2 λg=>Q σ g
def Kc{i:Ev}{ti:TE}{t:Uq}(ho:PE X o to)(hi:PE X i ti)(hs:Us X t)
  (ha:∀v,assign (.Subscript o i pos) X.env v=(do
let g <- holding [v] (eval o X.env)
let iv <- holding [v,g] (eval i X.env)
standAt pos
holding [v,g,iv] (setItem g iv v)
release [v,g,iv] []):=by intro _;rfl):PG X (.Subscript o i pos) (Ly to ti t):=by
 intro gd s σ H v u Q I r h;exact dN (DF (thn (ho gd s σ H _ I h) λg s1 (x,H1,I1,z,V)=>(dN (DF (thn (hi gd s1 σ H1 _ I1 V) λiv s2 (y,H2,I2,q,P)=>(dN (wpAny_standAt (dN (DF (thn (hs gd s2 σ H2 x y v g iv u _ I2 z q r P) λ_ s3 (H3,I3,K)=>(wpAny_release (σ,H3,I3,K))))))))))))
def iQ(te:TE)(g:TG):TS:=λD σ H=>te σ H λx H1=>g x σ H1 D.nx
def yn(he:PE X e te)(hg:PG X tg g)(hs:‹swapsWithSole [tg] e pos.line X.env=pure false›)(hw:‹swappedStores [tg] e X.env=pure none›)
  (h1:‹(assignEach [tg] X.env).map (·.2)=[assign tg X.env]›):PS X (.Assign [tg] e pos) (iQ te g):=by
 right;refine wpAny_Assign_stores (thn (he gd s σ H _ I h) λv s1 z=>?_) hs hw;let(x,H1,Q,K,P):=z;rw[h1];exact thn (hg gd s1 σ H1 x v _ Q K P) λ_ s2 q=>q
def jX(z:X.N.Nodup)(hi:X.N[i]?=Z x)(hx:Loc X.env.scope x)(he:PE X e te)(hs:‹swapsWith e (Z (.Name x pos')) pos.line X.env=pure false›)(hf:AT X x:=by first|exact .inl rfl|exact .inr rfl|assumption):
  PS X (.Assign [.Name x pos'] e pos) (iQ te (fP i)):=by
 right;exact wpAny_Assign_Name (thn (he gd s σ H _ I h) λv s1 (y,H1,P,g,q)=>(ij P z hi hx g (λs2 K=>(_,H1,K,q)) hf)) hs
def Rm(i j:Nat)(ta:TA):TS:=λD σ H=>ta σ H λvs H1=>∃v w,vs=[v,w]/\D.nx ((σ.set i (Z v)).set j (Z w)) H1
abbrev BC(X:Cx)(x:Str):Prop:=X.env.scope.names.lookup x=some .local
def Si{a:Ev}{P pt:Pos}(hc:X.calm=O)(hN:X.N.Nodup)(hi:X.N[i]?=Z x)(hj:X.N[j]?=Z y)(V:i≠j)
  (hx:BC X x) (hy:BC X y) (ha:PA X [a,b] ta)
  (hw:swappedStores [.Tuple [.Name x P,.Name y py] kt pt] (.Tuple [a,b] k2 g) X.env=pure (Z [x,y]))
  (hs:‹swapsWithSole [.Tuple [.Name x P,.Name y py] kt pt] (.Tuple [a,b] k2 g) pos.line X.env=pure false›):
  PS X (.Assign [.Tuple [.Name x P,.Name y py] kt pt] (.Tuple [a,b] k2 g) pos) (Rm i j ta):=by
 right;refine dN (wpAny_standAt ?_);refine dN (kA ?_);refine dN (Tuple_ (thn (ha _ gd s σ H _ I h) λus s1 ak=>?_));let(vs,H1,I1,r1,K):=ak;let(v,w,e1,K):=K;subst e1;obtain⟨u1,u2,rfl,rv,z⟩:∃u1 u2,us=[u1,u2]/\RelV v u1/\RelV w u2:=by cases r1 with|cons p q =>cases q with|cons p' q' =>cases q';exact(_,_,U,p,p')
 refine Xx ?_ (by show 2<=mu;decide);have I2:Inv X gd σ H1 {s1 with heap:=s1.heap.push {cls:=.type "tuple",data:=.seq [u1,u2].toArray}}:=I1.kept λb o e=>gs _ e;rw[hw];refine dN (kA ?_);refine dN (UU (dN (unpackItems_tuple (items:=#[u1,u2]) (I.ok.hd hc) (IsTup.new s1.heap _) λh' Q=>?_)));have I3:=I2.kept (t':=s1.toks) λb o e=>Q b o (rl (kz e)) e;refine dN (assignInOrder_cons (wpAny_bindName (ij I3 hN hj (.inl hy) z (λs2 I4=>(assignInOrder_cons (wpAny_bindName (ij I4 hN hi (.inl hx) rv (λs3 I5=>assignInOrder_nil (kA ?_)) (.inr hx))))) (.inr hy))));rw[List.set_comm _ _ (Ne.symm V)]at I5;exact(_,H1,I5,K)
def US(i:Nat)(te:TE)(ti:TIp):TS:=λD σ H=>∃x,σ[i]?=Z (Z x)/\te σ H λy H1=>ti x y H1 λz H2=>D.nx (σ.set i (Z z)) H2
def Sk{op:Operator}(hN:X.N.Nodup)(hi:X.N[i]?=Z x)(hx:Loc X.env.scope x)(he:PE X e te)(ho:PIp X op ti)(hf:AT X x:=by first|exact .inl rfl|exact .inr rfl|assumption):
  PS X (.AugAssign (.Name x pos') op e pos) (US i te ti):=by
 right;let(v,e1,h):=h;let(m,hn,hl):=I.loc;have q:Vis X.env.scope x:=by obtain k|k:=hx;exact .inl k;exact .inr (.inl k)
 let(u,r,l):=hl i x v hi e1 q;refine wpAny_AugAssign_Name ?_;have go:XV X (eval e X.env) (λw s₂=>XV X (inplaceOp op u w) (λr g=>XV X (storeName X.env x r) (λ_=>SP X gd D .next) X.xe g) X.xe s₂) X.xe s:=by exact thn (he gd s σ H _ I h) λw s1 (y,H1,I1,P,V)=>(thn (ho gd s1 σ H1 v y u w _ I1 r P V) λz s2 (zv,H2,I2,K,Q)=>(ij I2 hN hi hx K (λs3 I3=>(_,H2,I3,Q)) hf))
 obtain⟨hk,hm⟩|⟨hk,c,hc,fF⟩:=l
 ·exact wpAny_loadName_local I.ok.kind hk hn hm go
 obtain hk|hk:=hk
 ·exact wpAny_loadName_cell I.ok.kind hk hc fF go
 obtain k|k:=hx
 ·have:X.env.scope.names.lookup x=Z .free:=hk;rw[k]at this;cases this
 have:X.env.scope.names.lookup x=Z .free:=hk;rw[k]at this;cases this
inductive ipI(f:Int->Int->Int)(x:V)(y:V)(H:Hp)(Q:VK):Prop
 |mk(i j:_)(h1:x=.int i)(h2:y=.int j)(h3:Q (.int (f i j)) H)
def Tx:PIp X .Add (ipI λi j=>i+j):=by intro gd s σ H x y v u Q I z g h;let(i,j,P,K,q):=h;subst P;subst K;let(t,U):=z;let(t',U):=g;exact iadd_int (.int _,H,I.tok _,(_,U),q)
end
variable{body:List EQ}
section
variable{pos:Pos}
def B7(c:TT)(tb:TS):TS:=λD σ H=>∃W:Nat->St->Hp->Prop,(∃m,W m σ H)/\∀m σ H,W m σ H ->
 c σ H λb H1=>if b=O then ∃N:St->Hp->Prop,(∀g H',N g H'->∃m',m'<m/\W m' g H')/\tb {D with nx:=N,ct:=N,bk:=D.nx} σ H1 else D.nx σ H1
def Af(hp:PassesOwn (model X.prog X.w) X.A X.env X.xe)(hc:PT X c tc)(hb:PSs X body tb):PS X (.While c body [] pos) (B7 tc tb):=by
 right;let(W,(m0,w0),turn):=h;refine wpAny_While (codeAny_whileLoop (λn s'=>∃z H',Inv X gd z H' s'/\W n z H') ?_ m0 (σ,H,I,w0));rintro n s1 ⟨q,H1,I1,w1⟩;refine wpAny_passesOwn hp (thn (hc gd s1 q H1 _ I1 (turn n q H1 w1)) λb s2 ak=>?_);let(H2,I2,Q):=ak;cases b with
 |true =>
  let(N,hN,Q):=Q;refine wpAny_passesOwn hp (thn (hb gd s2 q H2 _ I2 Q) λf s3 P=>?_);cases f with|next =>let(g,K,I3,n3):=P;let(m',hm,V):=hN g K n3;exact(m',hm,g,K,I3,V)|cont =>let(g,K,I3,n3):=P;let(m',hm,V):=hN g K n3;exact(m',hm,g,K,I3,V)|brk=>exact P|ret v=>exact P
 |false =>exact wpAny_execs_nil (q,H2,I2,Q)
end
structure It where
 go:Nat->Hp->Prop
 yld:Nat->Hp->V->Hp->Prop
 stop:Nat->Hp->Prop
def rH(X:Cx)(gd:Ξ)(H:Hp)(b:J):Prop:=
 H b=Y/\b≠X.env.locals/\b ∉ X.fs/\(b∈X.ex\/X.s₀.heap.objs.size<=b)/\(∀x c,X.env.cells.lookup x=Z c->c≠b)/\∀p∈X.pn++gd,p.1≠b
variable{H':Hp}
def Inv.Dh{σ:St}{s:ϋ}{b:J}(I:Inv X gd σ H s)(g:s.heap.objs.size<=b)(hn:H' b=Y):rH X gd H' b:=by
 refine(hn,D7 (ui I.lt g),I.VL g,.inr (sF I.sz g),λx c e z=>?_,λp hp z=>?_)
 ·let(v,q):=I.cell x c e;exact absurd (ui q.lt (by rw[z];exact g)) (Wo _)
 exact absurd (ui (kz (I.pin p hp).1) (by rw[z];exact g)) (Wo _)
structure Turn(P:Da)(w:Cl)(K:BT)(tg:Ev)(Ϗ:It)(fp:Θ)(it:J)(tn:Nat->Do->Prop):Prop where
 mem:it∈fp
 obj:∀i h,tn i h->∀b∈fp,∃o,h.get? b=Z o/\∀v,o.data ≠ .cell v
 keep:∀i h h',tn i h->(∀b∈fp,∀o,h.get? b=Z o->h'.get? b=Z o)->tn i h'
 item:∀(X:Cx),X.prog=P->X.w=w->X.K=K->X.calm=O->∀(i:Nat)(gd:Ξ)(s:ϋ)(σ:St)(H:Hp)(E:Φ),Inv X gd σ H s->(∀b∈fp,rH X gd H b)->tn i s.heap->Ϗ.go i H ->
  wpAny (model P w) X.A (pyNext (.ref it)) (λr s1=>∃u,r=Z u /\
wpAny (model P w) X.A (letOwnedTupleGo tg (.ref it) u) (λ_ s2=>∃x H',Inv X gd σ H' s2/\RelV x u/\Ϗ.yld i H x H'/\tn (i+1) s2.heap/\∀b∈fp,H' b=Y) E s1) E s
 done:∀(X:Cx),X.prog=P->X.w=w->X.K=K->X.calm=O->∀(i:Nat)(gd:Ξ)(s:ϋ)(σ:St)(H:Hp)(E:Φ),Inv X gd σ H s->(∀b∈fp,rH X gd H b)->tn i s.heap->Ϗ.stop i H ->
  wpAny (model P w) X.A (pyNext (.ref it)) (λr s1=>r=Y/\Inv X gd σ H s1) E s
 self:∀(A:Db)(i:Nat)(s:ϋ)(Q:Φ)(E:Φ),tn i s.heap->Q (.ref it) s->wpAny (model P w) A (pyIter (.ref it)) Q E s
abbrev TI:=St->Hp->(It->Hp->Prop)->Prop
def PIE(X:Cx)(gd:Ξ)(σ:St)(tg:Ev)(R:It->Hp->Prop)(g:B)(s2:ϋ):Prop:=
 ∃(it:J)(fp:Θ)(tn:Nat->Do->Prop)(Ϗ:It)(H':Hp),g=.ref it/\Inv X gd σ H' s2/\Turn X.prog X.w X.K tg Ϗ fp it tn/\tn 0 s2.heap/\(∀b∈fp,rH X gd H' b)/\R Ϗ H'
def PI(X:Cx)(tg iter:Ev)(wi:TI):Prop:=
 ∀(gd:Ξ)(s:ϋ)(σ:St)(H:Hp)(R:It->Hp->Prop),Inv X gd σ H s->wi σ H R ->
  XV X (eval iter X.env) (λv s1=>XV X (pyIter v) (PIE X gd σ tg R) X.xe s1) X.xe s
def ER{s:ϋ}{o:Obj}{n:String}{vs:Array B}{Q:Unit->ϋ->Prop}(ho:s.heap.get? it=Z o)(q:o.cls=.type n)(hd:o.data=.fields vs)
  (hn:["enumerate","zip","dict_itemiterator","dict_reverseitemiterator","odict_iterator","itertools.zip_longest","itertools.pairwise"].contains n=ϊ) (g:Q () s):wpAny M A (letOwnedTupleGo tg (.ref it) u) Q E s:=by
 cases tg <;> first
  |exact kA g
  | (cases u <;> first
    |exact kA g
    | (refine dN (wpAny_load ho ?_)
       rw[q,hd];show wpAny M A (if(["enumerate","zip","dict_itemiterator","dict_reverseitemiterator","odict_iterator","itertools.zip_longest","itertools.pairwise"].contains n&&vs[0]? == Z (rawInt _))=O then _ else _) Q E s;rw[if_neg (by intro h;rw[hn]at h;cases h)];exact kA g))
def Itl(K:BT)(a:J):It:=
 (λi H=>∃xs x,SqL K H a xs/\xs[i]?=Z x,λi H x H'=>H'=H/\∀xs,SqL K H a xs->xs[i]?=Z x,λi H=>∃xs,SqL K H a xs/\xs.length<=i)
def Itt(K:BT)(a:J):It:=
 (λi H=>∃xs x,SqT K H a xs/\xs[i]?=Z x,λi H x H'=>H'=H/\∀xs,SqT K H a xs->xs[i]?=Z x,λi H=>∃xs,SqT K H a xs/\xs.length<=i)
def Itr(lo:Int)(n:Nat):It:=(λi _=>i<n,λi H x H'=>H'=H/\x=.int (lo+i),λi _=>n<=i)
theorem FW{w:Cl}{K:BT}(a it:J):Turn P w K tg (Itl K a) [it] it (λi h=>h.IsListIter it a i) where
 mem:=by simp
 obj:=λi h st b g=>by
  have e:=(g:);subst e;let(o,e,c,d):=st;exact(o,e,λv z=>by rw[d]at z;cases z)
 keep:=λi h h' st k=>st.at λo e=>k it ad o e
 item:=by intro X Q hw V hc i gd s σ H E I hf st hg;subst Q hw V;let(xs,x,hq,hx):=hg;let(its,rv,p,hz):=I.list hq;let(u,hu,ru):=rv.get hx;let(f0,f1,f2,f3,f4,f5):=hf it ad;refine wpAny_pyNext_list_item st p.isList (hu:) λh' q sb=>?_;have I1:=I.turned (t':=s.toks) (λb o g e=>(sb.2 b g).trans e) f0 f1 f3 f4 f5;let(o,e,c,d):=id q;exact(u,U,ER e c d ac (x,H,I1,ru,(U,λys hy=>by rw[I.AN hy hq];exact hx),q,λb g=>(hf b g).1))
 done:=by intro X Q hw V hc i gd s σ H E I hf st hg;subst Q hw V;let(xs,hq,hx):=hg;let(its,rv,p,hz):=I.list hq;let(f0,f1,f2,f3,f4,f5):=hf it ad;have hl:=rv.length;exact wpAny_pyNext_list_end (I.ok.hd hc) st p.isList (by simp;lia) λh' eb=>(U,I.turned (λb o g e=>eb b o g e) f0 f1 f3 f4 f5)
 self:=λ_ _ _ _ _ st h=>wpAny_pyIter_listiter st h
theorem B1{w:Cl}{K:BT}(a it:J):Turn P w K tg (Itt K a) [it] it (λi h=>h.IsTupleIter it a i) where
 mem:=by simp
 obj:=λi h st b g=>by
  have e:=(g:);subst e;let(o,e,c,d):=st;exact(o,e,λv z=>by rw[d]at z;cases z)
 keep:=λi h h' st k=>st.at λo e=>k it ad o e
 item:=by intro X Q hw V hc i gd s σ H E I hf st hg;subst Q hw V;let(xs,x,hq,hx):=hg;let(its,rv,p,hz):=I.tuple hq;let(u,hu,ru):=rv.get hx;let(f0,f1,f2,f3,f4,f5):=hf it ad;refine wpAny_pyNext_tuple_item st (p) (hu:) λh' q sb=>?_;have I1:=I.turned (t':=s.toks) (λb o g e=>(sb.2 b g).trans e) f0 f1 f3 f4 f5;let(o,e,c,d):=id q;exact(u,U,ER e c d ac (x,H,I1,ru,(U,λys hy=>by rw[I.wF hy hq];exact hx),q,λb g=>(hf b g).1))
 done:=by intro X Q hw V hc i gd s σ H E I hf st hg;subst Q hw V;let(xs,hq,hx):=hg;let(its,rv,p,hz):=I.tuple hq;let(f0,f1,f2,f3,f4,f5):=hf it ad;have hl:=rv.length;exact wpAny_pyNext_tuple_end (I.ok.hd hc) st (p) (by simp;omega) λh' eb=>(U,I.turned (λb o g e=>eb b o g e) f0 f1 f3 f4 f5)
 self:=λ_ _ _ _ _ st h=>wpAny_pyIter_tupleiter st h
theorem B2{K:BT}(it:J)(lo:Int)(n:Nat):Turn P w K tg (Itr lo n) [it] it (λi h=>IsRangeIter h it (lo+(i:Nat)*1) ((n:Int)-(i:Nat)) 1) where
 mem:=by simp
 obj:=λi h st b g=>by
  have e:=(g:);subst e;exact(_,st,λv z=>by have z':=z;cases z')
 keep:=λi h h' st k=>k it ad _ st
 item:=by intro X hP hw hK Q i gd s σ H E I hf st hg;subst hP hw hK;let(f0,f1,f2,f3,f4,V):=hf it ad;have W:=Walks.range (prog:=X.prog) (w:=X.w) (I.ok.hd Q) it lo 1 n;refine W.item i s _ _ hg st λv h' tk hv q kk=>?_;let(t,U):=hv;have I1:Inv X gd σ H {s with heap:=h',toks:=tk}:=I.turned (λb o g e=>kk b o (g:) e) f0 f1 f3 f4 V;refine(_,U,ER q U U ac (.int (lo+i),H,I1,(t,?_),(U,U),q,λb g=>(hf b g).1));rw[Int.mul_one]
 done:=by intro X hP hw hK Q i gd s σ H E I hf st hg;let(f0,f1,f2,f3,f4,V):=hf it ad;exact wpAny_pyNext_range_end (I.ok.hd Q) st (by have:n<=i:=hg;lia) λh' eb=>(U,I.turned (λb o g e=>eb b o g e) f0 f1 f3 f4 V)
 self:=λ_ _ _ _ _ st h=>wpAny_pyIter_rangeiter st h
variable{lo:Int}{fp:Θ}{iter:Ev}
section
def wZ(K:BT)(tl:TE):TI:=λσ H R=>tl σ H λx H1=>∃a,x=.ref a/\(∃xs,SqL K H1 a xs)/\R (Itl K a) H1
def Lk(K:BT)(tl:TE):TI:=λσ H R=>tl σ H λx H1=>∃a,x=.ref a/\(∃xs,SqT K H1 a xs)/\R (Itt K a) H1
def rX(hl:PE X l tl):PI X tg l (wZ X.K tl):=by intro gd s σ H R I h;refine thn (hl gd s σ H _ I h) λv s1 z=>?_;let(x,H1,g,P,Q):=z;let(a,e,(xs,hq),q):=Q;subst e;cases P;let(its,rv,p,hz):=g.list hq;refine wpAny_pyIter_list p.isList ?_;refine(s1.heap.objs.size,[s1.heap.objs.size],_,_,H1,U,g.kept λb o e=>gs _ e,FW a _,(_,kD _ U,U,U),λb V=>?_,q);have e:=(V:);subst e;exact g.Dh (kB _) (g.hok.fresh (kB _))
def SE(hl:PE X l tl):PI X tg l (Lk X.K tl):=by intro gd s σ H R I h;refine thn (hl gd s σ H _ I h) λv s1 z=>?_;let(x,H1,g,P,Q):=z;let(a,e,(xs,hq),q):=Q;subst e;cases P;let(its,rv,p,hz):=g.tuple hq;refine wpAny_pyIter_tuple (p) ?_;refine(s1.heap.objs.size,[s1.heap.objs.size],_,_,H1,U,g.kept λb o e=>gs _ e,B1 a _,(_,kD _ U,U,U),λb V=>?_,q);have e:=(V:);subst e;exact g.Dh (kB _) (g.hok.fresh (kB _))
def Jg{σ:St}{s:ϋ}{R:It->Hp->Prop}{hi:Int}{t u v:Tok}{tk:Nat}(I:Inv X gd σ H s)(h1:-(2 ^ 62)<=lo)(h2:lo<2 ^ 62)(h3:-(2 ^ 62)<=hi)(h4:hi<2 ^ 62)
  (q:R (Itr lo (hi-lo).toNat) H):XV X (pyIter (.ref s.heap.objs.size)) (PIE X gd σ tg R) E {s with heap:=s.heap.push {cls:=.type "range",data:=.fields #[.int lo t,.int hi u,.int 1 v]},toks:=tk}:=by
 refine wpAny_pyIter_range (IsRange.new ..) (small_one h1 h2 h3 h4) ?_;have g:Inv X gd σ H {s with heap:=s.heap.push {cls:=.type "range",data:=.fields #[.int lo t,.int hi u,.int 1 v]},toks:=tk}:=I.kept λb o e=>gs _ e;refine((s.heap.push {cls:=.type "range",data:=.fields #[.int lo t,.int hi u,.int 1 v]}).objs.size,[(s.heap.push {cls:=.type "range",data:=.fields #[.int lo t,.int hi u,.int 1 v]}).objs.size],_,_,H,U,
g.kept λb o e=>gs _ e,B2 _ lo (hi-lo).toNat,?_,λb z=>?_,q)
 ·have P:lo+((0:Nat))*1=lo:=by simp
  have K:(((hi-lo).toNat))-((0:Nat))=Builtin.Range.rangeSize lo hi 1:=by rw[rangeSize_one];split <;> lia
  rw[P,K];exact kD _ U
 have e:b=(s.heap.push {cls:=.type "range",data:=.fields #[.int lo t,.int hi u,.int 1 v]}).objs.size:=(z:);subst e;exact g.Dh (kB _) (g.hok.fresh (kB _))
def Ll(ta:TA):TI:=λσ H R=>ta σ H λvs H1=>∃j:Int,vs=[.int j] /\ -(2 ^ 62)<=j/\j<2 ^ 62/\R (Itr 0 j.toNat) H1
abbrev AD(X:Cx)(e:Ev):Prop:=mJ [e] X.env=[(false,eval e X.env)]
def wL{a:Ev}(hg:Gl X "range")(hm:X.mg "range"=Y)(Q:PA X [a] ta)(hs:‹AD X a›):PI X tg (.Call (.Name "range" p) [a] [] pos) (Ll ta):=by intro gd s σ H R I h;refine Call_ (eI I hg hm boot_range (PyProof.Rows.callWith_type1 (thn (Q pos gd s σ H _ I h) λus s1 (vs,H1,V,K,g)=>?_) hs U));let(j,e,g,P,q):=g;subst e;cases K with|cons r z =>cases z;let(t,U):=r;exact call_range_1 (Jg V ap ap g P (q:))
def UR(wi:TI)(g:TG)(tb:TS):TS:=λD σ H=>wi σ H λϏ H1=>∃W:Nat->Nat->St->Hp->Prop,(∃m,W 0 m σ H1)/\∀i m σ H,W i m σ H ->
 (Ϗ.stop i H/\D.nx σ H)\/(Ϗ.go i H/\∃N:St->Hp->Prop,(∀q H',N q H'->∃m',m'<m/\W (i+1) m' q H')/\∀x H',Ϗ.yld i H x H'->g x σ H' λz H2=>tb {D with nx:=N,ct:=N,bk:=D.nx} z H2)
def ub(fp:Θ)(h:Do):Ξ:=fp.filterMap λb=>(h.get? b).map λo=>(b,o)
def gj{b:J}{o:Obj}(g:b∈fp)(e:h.get? b=Z o):(b,o)∈ub fp h:=Z0.mpr (b,g,by rw[e];rfl)
def GN{h:Do}{p:J×Obj}(hp:p∈ub fp h):p.1∈fp/\h.get? p.1=Z p.2:=by
 let(b,g,e):=Z0.mp hp;cases q:h.get? b with
 |none=>rw[q]at e;cases e
 |some o =>rw[q]at e;have z:=Option.some.inj e;subst z;exact(g,q)
def Inv.pinned{σ:St}(I:Inv X gd σ H s)(hf:∀b∈fp,rH X gd H b)(ho:∀b∈fp,∃o,s.heap.get? b=Z o/\∀v,o.data ≠ .cell v):Inv X (gd++ub fp s.heap) σ H s:=
 I.ng λp hp=>(jn.mp hp).elim (λz=>I.pin p (pq _ z)) λz=>by
  let(g,e):=GN z;let(f0,f1,f2,_):=hf p.1 g;let(o,q,d):=ho p.1 g;rw[e]at q;cases q;exact(e,f0,f1,f2,d)
def Inv.mU{σ:St}(I:Inv X (gd++g) σ H s):Inv X gd σ H s:=I.ng λp hp=>I.pin p (pq _ (qh _ hp))
def JY{wi:TI}{g:TG}{tb:TS}{pos:Pos}(hp:PassesOwn (model X.prog X.w) X.A X.env X.xe)(hc:X.calm=O)(hi:PI X tg iter wi)(hg:PG X tg g)(P:PSs X body tb)
  (hs:∀x,foldedSetIterable iter X.env x=pure x:=by intro _;rfl):PS X (.For tg iter body [] pos) (UR wi g tb):=by
 right;refine wpAny_For (thn (hi gd s σ H _ I h) λv s1 h1=>thn h1 λa0 s2 h2=>?_) hs;let(it,fp,tn,Ϗ,H2,e,I2,T,aP,f2,W,(m0,w0),turn):=h2;subst e;have Rv:∀{H':Hp},(∀b∈fp,H' b=Y)->∀b∈fp,rH X gd H' b:=λhn b P=>(hn b P,(f2 b P).2);refine codeAny_forLoop_any (λn s'=>∃i K H',Inv X gd K H' s'/\tn i s'.heap/\(∀b∈fp,H' b=Y)/\W i n K H') ?_ m0 (0,σ,H2,I2,aP,λb P=>(f2 b P).1,w0);rintro n s3 ⟨i,z,H3,I3,ar,av,w3⟩;obtain⟨stop,qn⟩|⟨go,N,hN,step⟩:=turn i n z H3 w3
 ·refine wpAny_passesOwn hp (thn (T.done X U U U hc i gd s3 z H3 X.xe I3 (Rv av) ar stop) λr s4 Q=>?_);let(hr,I4):=Q;subst hr;exact wpAny_execs_nil (z,H3,I4,qn)
 refine wpAny_passesOwn hp (thn (T.item X U U U hc i gd s3 z H3 X.xe I3 (Rv av) ar go) λr s4 Q=>?_);let(u,hr,h4):=Q;subst hr;refine wpAny_passesOwn hp (thn h4 λ_ s5 Q=>?_);let(x,H5,I5,r5,y5,ak,aQ):=Q;have aW:=I5.pinned (Rv aQ) (T.obj _ _ ak);refine wpAny_passesOwn hp (thn (hg _ s5 z H5 x u _ aW r5 (step x H5 y5)) λ_ s6 (ay,H6,I6,q6)=>(wpAny_passesOwn hp (thn (P _ s6 ay H6 _ I6 q6) λf s7 q7=>?_)));have again:∀{q:St}{H7:Hp},Inv X (gd++ub fp s5.heap) q H7 s7->N q H7->∃m,m<n/\∃i K H',Inv X gd K H' s7/\tn i s7.heap/\(∀b∈fp,H' b=Y)/\W i m K H':=λ{q H7} V n7=>by
  let(m',hm,w7):=hN q H7 n7;refine(m',hm,i+1,q,H7,V.mU,T.keep _ _ _ ak λb P o e=>(V.pin (b,o) (pq _ (pq _ (gj P e)))).1,λb P=>?_,w7);let(o,e,d):=T.obj _ _ ak b P;exact(V.pin (b,o) (pq _ (pq _ (gj P e)))).2.1
 cases f with|next=>let(q,H7,V,n7):=q7;exact again V n7|cont=>let(q,H7,V,n7):=q7;exact again V n7|brk=>let(q,H7,V,q7):=q7;exact(q,H7,V.mU,q7)|ret v=>let(x7,q,H7,V,r7,q7):=q7;exact(x7,q,H7,V.mU,r7,q7)
end
variable{D:Ends}
theorem Lz{K:BT}{xs:Ω}{g:TG}{tb:TS}{σ:St}(Pv:Nat->St->Hp->Prop)(h0:Pv 0 σ H)(hl:∀i σ H,i<=xs.length->Pv i σ H->SqL K H a xs)
  (hs:∀i x σ H,xs[i]?=Z x->Pv i σ H->g x σ H λz H2=>tb {D with nx:=Pv (i+1),ct:=Pv (i+1),bk:=D.nx} z H2) (hd:∀σ H,Pv xs.length σ H->D.nx σ H):
  ∃W:Nat->Nat->St->Hp->Prop,(∃m,W 0 m σ H)/\∀i m σ H,W i m σ H ->
   ((Itl K a).stop i H/\D.nx σ H)\/((Itl K a).go i H/\∃N:St->Hp->Prop,(∀P H',N P H'->∃m',m'<m/\W (i+1) m' P H')/\∀x H',(Itl K a).yld i H x H'->g x σ H' λz H2=>tb {D with nx:=N,ct:=N,bk:=D.nx} z H2):=by
 refine(λi m σ H=>m=xs.length-i/\i<=xs.length/\Pv i σ H,(xs.length,ad,zt _,h0),?_);rintro i m σ H ⟨rfl,hi,p⟩;have q:=hl i σ H hi p;by_cases Q:i<xs.length
 ·refine .inr ((xs,xs[i],q,by simp[Q]),Pv (i+1),λP H' p'=>(xs.length-(i+1),ap,U,Q,p'),λx H' y=>?_);let(e,y):=y;subst e;exact hs i x σ _ (y xs q) p
 have e:i=xs.length:=ap;subst e;exact .inl ((xs,q,kB _),hd σ H p)
abbrev R2:=V->V->Hp->VK->Prop
def OpR(X:Cx)(f:B->B->Sem B)(r:R2):Prop:=
 ∀(gd:Ξ)(s:ϋ)(σ:St)(H:Hp)(x y:V)(v u:B)(Q:VK),Inv X gd σ H s->RelV x v->RelV y u->r x y H Q ->
  XV X (f v u) (EP X gd σ Q) X.xe s
def UnR(X:Cx)(f:B->Sem B)(r:V->Hp->VK->Prop):Prop:=
 ∀(gd:Ξ)(s:ϋ)(σ:St)(H:Hp)(x:V)(v:B)(Q:VK),Inv X gd σ H s->RelV x v->r x H Q ->
  XV X (f v) (EP X gd σ Q) X.xe s
def cL(X:Cx)(f:B)(r:Ω->Hp->VK->Prop):Prop:=
 ∀(gd:Ξ)(s:ϋ)(σ:St)(H:Hp)(xs:Ω)(us:Δ)(Q:VK),Inv X gd σ H s->Vals xs us->r xs H Q ->
  XV X (call f us) (EP X gd σ Q) X.xe s
def X8(X:Cx)(r:V->Hp->(Bool->Hp->Prop)->Prop):Prop:=
 ∀(gd:Ξ)(s:ϋ)(σ:St)(H:Hp)(x:V)(v:B)(Q:Bool->Hp->Prop),Inv X gd σ H s->RelV x v->r x H Q ->
  XV X (truthy v) (TP X gd σ Q) X.xe s
def tOp(r:R2)(ta tb:TE):TE:=λσ H Q=>ta σ H λx H1=>tb σ H1 λy H2=>r x y H2 Q
def tUn(r:V->Hp->VK->Prop)(ta:TE):TE:=λσ H Q=>ta σ H λx H1=>r x H1 Q
inductive rI(C:Int->Int->Prop)(g:Int->Int->V)(x:V)(y:V)(H:Hp)(Q:VK):Prop
 |mk(i j:_)(h1:x=.int i)(h2:y=.int j)(h3:C i j)(h4:Q (g i j) H)
inductive rI0(g:Int->Int->V)(x:V)(y:V)(H:Hp)(Q:VK):Prop
 |mk(i j:_)(h1:x=.int i)(h2:y=.int j)(h3:Q (g i j) H)
inductive rU(g:Int->V)(x:V)(H:Hp)(Q:VK):Prop
 |mk(i:_)(h1:x=.int i)(h2:Q (g i) H)
section
variable{a:Ev}{ta tb:TE}{pos:Pos}
def T7(ha:PE X a ta)(hb:PE X b tb){σ:St}{R:V->V->Hp->Prop}(I:Inv X gd σ H s)
  (h:ta σ H λx H1=>tb σ H1 λy H2=>R x y H2) {f:B->B->Sem B}
  (hf:∀v u s2 x y H2,Inv X gd σ H2 s2->RelV x v->RelV y u->R x y H2->XV X (f v u) Q X.xe s2):
  XV X (eval a X.env) (λv g=>XV X (eval b X.env) (λu s₂=>XV X (f v u) Q X.xe s₂) X.xe g) X.xe s:=by
 exact thn (ha gd s σ H _ I h) λv s1 (x,H1,I1,z,P)=>(thn (hb gd s1 σ H1 _ I1 P) λu s2 (y,H2,I2,q,K)=>(hf v u s2 x y H2 I2 z q K))
def cW{op:Operator}(ho:OpR X (binaryOp op) r)(P:PE X a ta)(K:PE X b tb):PE X (.BinOp a op b pos) (tOp r ta tb):=by left;exact wpAny_BinOp (T7 P K I h λv u s2 x y H2 V z g q=>ho gd s2 σ H2 x y v u Q V z g q)
def VE{op:UnaryOp}(ho:UnR X (unaryOp op) r)(z:PE X a ta):PE X (.UnaryOp op a pos) (tUn r ta):=by left;exact UnaryOp_ (thn (z gd s σ H _ I h) λv s1 (x,H1,K,g,q)=>ho gd s1 σ H1 x v Q K g q)
def opI{C:Int->Int->Prop}{g:Int->Int->Int}
  (rule:∀(i j:Int)(t u:Tok)(s:ϋ)(Q:Φ)(E:Φ),C i j->Q (.int (g i j) s.toks) {s with toks:=s.toks+1}->XV X (f (.int i t) (.int j u)) Q E s):
  OpR X f (rI C λi j=>.int (g i j)):=by
 intro gd s σ H x y v u Q I K z h;let(i,j,U,U,P,q):=h;let(t,U):=K;let(t',U):=z;exact rule i j t t' s _ _ P (.int (g i j),H,I.tok _,(_,U),q)
def VI{g:Int->Int->Int}
  (rule:∀(i j:Int)(t u:Tok)(s:ϋ)(Q:Φ)(E:Φ),Q (.int (g i j) s.toks) {s with toks:=s.toks+1}->XV X (f (.int i t) (.int j u)) Q E s):
  OpR X f (rI0 λi j=>.int (g i j)):=by
 intro gd s σ H x y v u Q I K z h;let(i,j,U,U,q):=h;let(t,U):=K;let(t',U):=z;exact rule i j t t' s _ _ (.int (g i j),H,I.tok _,(_,U),q)
def OD{f:B->B->Sem B}{g:Int->Int->Bool}
  (rule:∀(i j:Int)(t u:Tok)(s:ϋ)(Q:Φ)(E:Φ),Q (.bool (g i j)) s->XV X (f (.int i t) (.int j u)) Q E s):
  OpR X f (rI0 λi j=>.bl (g i j)):=by
 intro gd s σ H x y v u Q I K z h;let(i,j,U,U,q):=h;let(t,U):=K;let(t',U):=z;exact rule i j t t' s _ _ (.bl (g i j),H,I,U,q)
def UA(i j:Int):Prop:=0<=j/\j<=1000000/\i.natAbs<2 ^ 64
def Mz(i j:Int):Prop:=(-(2 ^ 64)<i/\i<2 ^ 64)\/(-(2 ^ 64)<j/\j<2 ^ 64)
def Mz.ok{i j:Int}(h:Mz i j):IntMulOk i j:=by
 obtain⟨h1,h2⟩|⟨h1,h2⟩:=h
 ·exact .of_left (intBits_le_64 h1 h2)
 exact .of_right (intBits_le_64 h1 h2)
def pF:OpR X (binaryOp .Add) (rI0 λi j=>.int (i+j)):=VI λ_ _ _ _ _ _ _ q=>add_int q
def CL:OpR X (binaryOp .Sub) (rI0 λi j=>.int (i-j)):=VI λ_ _ _ _ _ _ _ q=>sub_int q
def mf:OpR X (binaryOp .Mult) (rI Mz λi j=>.int (i*j)):=opI λ_ _ _ _ _ _ _ g q=>mul_int q g.ok
def i7:OpR X (binaryOp .Mod) (rI (λ_ j=>0<j) λi j=>.int (i % j)):=opI λi j _ _ _ _ _ g q=>by
 exact mod_int' ap (by rw[Int.fmod_eq_emod_of_nonneg i ap];exact q)
def Kv:OpR X (binaryOp .Pow) (rI UA λi j=>.int (i ^ j.toNat)):=opI λ_ _ _ _ _ _ _ g q=>pow_int_small g.1 g.2.1 g.2.2 q
def unI{g:Int->Int}
  (rule:∀(i:Int)(t:Tok)(s:ϋ)(Q:Φ)(E:Φ),Q (.int (g i) s.toks) {s with toks:=s.toks+1}->XV X (f (.int i t)) Q E s):
  UnR X f (rU λi=>.int (g i)):=by
 intro gd s σ H x v Q I z h;let(i,U,q):=h;let(t,U):=z;exact rule i t s _ _ (.int (g i),H,I.tok _,(_,U),q)
def Rg:UnR X (unaryOp .USub) (rU λi=>.int (-i)):=unI λ_ _ _ _ _ q=>neg_int q
end
def Nl:V->V->Bool
 |.non,.non=>O|.non,.int _=>O|.int _,.non=>O|.non,.bl _=>O|.bl _,.non=>O|.non,.str _=>O|.str _,.non=>O|.int _,.int _=>O|.bl _,.bl _=>O|.str _,.str _=>O|.byt _,.byt _=>O|.int _,.str _=>O|.str _,.int _=>O|.bl _,.str _=>O|.str _,.bl _=>O|_,_=>ϊ
def rEq:R2:=λx y H Q=>Nl x y=O/\Q (.bl (decide (x=y))) H
def rNe:R2:=λx y H Q=>Nl x y=O/\Q (.bl (!decide (x=y))) H
def E4{i j:Int}:decide (V.int i=V.int j)=(i==j):=by rw[Y0];simp
def LI{i j:Bool}:decide (V.bl i=V.bl j)=(i==j):=by rw[Y0];simp
def E2{i j:Str}:decide (V.str i=V.str j)=(i==j):=by rw[Y0];simp
def E5{i j:Array UInt8}:decide (V.byt i=V.byt j)=(i.toList==j.toList):=by rw[Y0];cases i;cases j;simp
variable{its:Δ}{y:V}
section
variable{a c:Ev}{ta tb:TE}{pos:Pos}
def bx{σ:St}{s:ϋ}{Q:VK}{k k':Bool}(I:Inv X gd σ H s)(q:Q (.bl k) H)(e:k=k'):EP X gd σ Q (.bool k') s:=by subst e;exact(.bl k,H,I,U,q)
theorem Qn:OpR X (compareOp .Eq) rEq:=by
 intro gd s σ H x y v u Q I z g h;let(hs,q):=h;cases x with
 |non =>
  cases z;cases y with
  |non=>cases g;exact PySem.EqNone.eq_none_none (bx I q ad)
  |bl j=>cases g;exact PySem.EqNone.eq_none_bool (bx I q ad)
  |int j=>let(t',U):=g;exact PySem.EqNone.eq_none_int (bx I q ad)|str j=>let(t',U):=g;exact PySem.EqNone.eq_none_str (bx I q ad)|_=>exact absurd (show ϊ=O from hs) rF
 |bl i =>
  cases z;cases y with
  |non=>cases g;exact PySem.EqNone.eq_bool_none (bx I q ad)
  |bl j=>cases g;exact eq_bool (bx I q LI)
  |str j=>let(t',U):=g;exact PySem.EqMixed.eq_bool_str (bx I q ad)|_=>exact absurd (show ϊ=O from hs) rF
 |int i =>
  let(t,U):=z;cases y with
  |non=>cases g;exact PySem.EqNone.eq_int_none (bx I q ad)
  |int j=>let(t',U):=g;exact eq_int (bx I q E4)|str j=>let(t',U):=g;exact PySem.EqMixed.eq_int_str (bx I q ad)|_=>exact absurd (show ϊ=O from hs) rF
 |str i =>
  let(t,U):=z;cases y with
  |non=>cases g;exact PySem.EqNone.eq_str_none (bx I q ad)
  |bl j=>cases g;exact PySem.EqMixed.eq_str_bool (bx I q ad)
  |int j=>let(t',U):=g;exact PySem.EqMixed.eq_str_int (bx I q ad)|str j=>let(t',U):=g;exact eq_str (bx I q E2)|_=>exact absurd (show ϊ=O from hs) rF
 |byt i =>
  let(t,U):=z;cases y with|byt j=>let(t',U):=g;exact W.eq_bytes (bx I q E5)|_=>exact absurd (show ϊ=O from hs) rF
 |_=>cases y <;> exact absurd (show ϊ=O from hs) rF
theorem Aw:OpR X (compareOp .NotEq) rNe:=by
 intro gd s σ H x y v u Q I z g h;let(hs,q):=h;cases x with
 |non =>
  cases z;cases y with
  |non=>cases g;exact PySem.EqNone.ne_none_none (bx I q ad)
  |bl j=>cases g;exact PySem.EqNone.ne_none_bool (bx I q ad)
  |int j=>let(t',U):=g;exact PySem.EqNone.ne_none_int (bx I q ad)|str j=>let(t',U):=g;exact PySem.EqNone.ne_none_str (bx I q ad)|_=>exact absurd (show ϊ=O from hs) rF
 |bl i =>
  cases z;cases y with
  |non=>cases g;exact PySem.EqNone.ne_bool_none (bx I q ad)
  |bl j=>cases g;exact ne_bool (bx I q (congrArg not LI))
  |str j=>let(t',U):=g;exact PySem.EqMixed.ne_bool_str (bx I q ad)|_=>exact absurd (show ϊ=O from hs) rF
 |int i =>
  let(t,U):=z;cases y with
  |non=>cases g;exact PySem.EqNone.ne_int_none (bx I q ad)
  |int j=>let(t',U):=g;exact ne_int (bx I q (congrArg not E4))|str j=>let(t',U):=g;exact PySem.EqMixed.ne_int_str (bx I q ad)|_=>exact absurd (show ϊ=O from hs) rF
 |str i =>
  let(t,U):=z;cases y with
  |non=>cases g;exact PySem.EqNone.ne_str_none (bx I q ad)
  |bl j=>cases g;exact PySem.EqMixed.ne_str_bool (bx I q ad)
  |int j=>let(t',U):=g;exact PySem.EqMixed.ne_str_int (bx I q ad)|str j=>let(t',U):=g;exact ne_str (bx I q (congrArg not E2))|_=>exact absurd (show ϊ=O from hs) rF
 |byt i =>
  let(t,U):=z;cases y with|byt j=>let(t',U):=g;exact W.ne_bytes (bx I q (congrArg not E5))|_=>exact absurd (show ϊ=O from hs) rF
 |_=>cases y <;> exact absurd (show ϊ=O from hs) rF
def Qm:OpR X (compareOp .Lt) (rI0 λi j=>.bl (decide (i<j))):=OD λ_ _ _ _ _ _ _ q=>lt_int q
def VG:OpR X (compareOp .LtE) (rI0 λi j=>.bl (decide (i<=j))):=OD λ_ _ _ _ _ _ _ q=>le_int q
def Ex:OpR X (compareOp .Gt) (rI0 λi j=>.bl (decide (j<i))):=OD λ_ _ _ _ _ _ _ q=>gt_int q
def VH:OpR X (compareOp .GtE) (rI0 λi j=>.bl (decide (j<=i))):=OD λ_ _ _ _ _ _ _ q=>ge_int q
def GH:OpR X (compareOp .In) (λx y H Q=>∃i j,x=.str i/\y=.str j/\Q (.bl (!(Builtin.Str.occurrences j i 0 j.length 1).isEmpty)) H):=by intro gd s σ H x y v u Q I z g h;let(i,j,U,U,q):=h;let(t,U):=z;let(t',U):=g;exact in_str (bx I q U)
def pE:OpR X (compareOp .Is) (λx y H Q=>y=.non/\Q (.bl (decide (x=.non))) H):=by intro gd s σ H x y v u Q I z g h;let(U,q):=h;cases g;refine is_none_gen (bx I q ?_);cases x <;>(let(t,U):=z;rfl)
def nt:OpR X (compareOp .IsNot) (λx y H Q=>y=.non/\Q (.bl (!decide (x=.non))) H):=by intro gd s σ H x y v u Q I z g h;let(U,q):=h;cases g;refine isnot_none_gen (bx I q ?_);cases x <;>(let(t,U):=z;rfl)
def yu:OpR X (compareOp .NotIn) (λx y H Q=>∃i j,x=.str i/\y=.str j/\Q (.bl (!(!(Builtin.Str.occurrences j i 0 j.length 1).isEmpty))) H):=by intro gd s σ H x y v u Q I z g h;let(i,j,U,U,q):=h;let(t,U):=z;let(t',U):=g;exact notIn_str (bx I q U)
def OpR.or{r K:R2}(h:OpR X f r)(h':OpR X f K):OpR X f (λx y H Q=>r x y H Q\/K x y H Q):=by
 intro gd s σ H x y v u Q I z g q;obtain q|q:=q
 ·exact h gd s σ H x y v u Q I z g q
 exact h' gd s σ H x y v u Q I z g q
def bB(b:Ev)(h:autoParam (op ≠ .In) zdc._auto_1)(h2:autoParam (op ≠ .NotIn) zdc._auto_1):behindInMarks op b=false:=KJ b h h2
def Oi{r:R2}(ho:OpR X (compareOp op) r)(P:PE X a ta)(K:PE X b tb)(hm:behindInMarks op b=ϊ):PE X (.Compare a [op] [b] pos) (tOp r ta tb):=by left;exact wpAny_Compare1 (T7 P K I h λv u s2 x y H2 V z g q=>ho gd s2 σ H2 x y v u Q V z g q) hm
def DV(t:TE):TT:=λσ H Q=>t σ H λx H'=>∃k,x=.bl k/\Q k H'
def m9(ho:OpR X (compareOp op) r)(ha:PE X a ta)(hb:PE X b tb)(hm:behindInMarks op b=ϊ):PT X (.Compare a [op] [b] pos) (DV (tOp r ta tb)):=by
 left;refine wpAny_isTrue_Compare1 (thn (ha gd s σ H _ I h) λv s1 (x,H1,I1,K,q1)=>thn (hb gd s1 σ H1 _ I1 q1) λu s2 (y,H2,I2,q,V) =>
thn (ho gd s2 σ H2 x y v u _ I2 K q V) λc s3 (z,H3,I3,g,k,e,P)=>?_) hm
 subst e;cases g;exact wpAny_truthy_bool (H3,I3,P)
def PQ(K:BT)(x:V)(H:Hp)(k:Bool):Prop:=
 match x with|.non=>k=ϊ|.bl b=>k=b|.int i=>k=(i != 0)|.str y=>y.length<=mu/\k=((y.length:Int) != 0)|.byt y=>y.size<=mu/\k=((y.size:Int) != 0)|.ref p=>(∃xs,SqL K H p xs/\k = !xs.isEmpty)\/(∃xs,SqT K H p xs/\k = !xs.isEmpty)\/∃kvs,H p=Z (.dK kvs)/\k = !kvs.isEmpty|_=>False
def uF{kvs:List (κ×V)}{vs:List (κ×B)}(r:KV kvs vs):(!vs.isEmpty) = !kvs.isEmpty:=by cases r <;> rfl
def uE(r:Vals xs its):(!its.toArray.isEmpty) = !xs.isEmpty:=by cases r <;> simp
def kb:(mu:Nat)<2 ^ 63:=ac
def w6(h:n<=mu):(n:Int)<2 ^ 63:=by have:=YW;omega
theorem Ri:X8 X (λx H Q=>∃k,PQ X.K x H k/\Q k H):=by
 intro gd s σ H x v Q I z h;let(k,e,q):=h;have hl:=kb;have hs:mu=16777216:=YW;cases x with
 |non =>
  cases z;have g:k=false:=e;subst g;exact truthy_none (H,I,q)
 |bl b =>
  cases z;have g:k=b:=e;subst g;exact wpAny_truthy_bool (H,I,q)
 |int i =>let(t,U):=z;have g:k=(i != 0):=e;subst g;exact PySem.P.truthy_int (H,I,q)|str y =>let(t,U):=z;let(hy,g):=e;subst g;exact PySem.P.truthy_str ap (H,I.tok _,q)|byt y =>let(t,U):=z;let(hy,g):=e;subst g;exact W.truthy_bytes ap (H,I.tok _,q)|ref p =>
  cases z;have g:=e;obtain⟨xs,hx,g⟩|⟨xs,hx,g⟩|⟨kvs,hx,g⟩:=g
  ·subst g;let(its,r,V,hz):=I.list hx;have hlen:=r.length;exact wpAny_truthy_list V.isList (by rw[qg,<- hlen];exact w6 (by assumption)) (H,I.tok _,by rw[uE r];exact q)
  ·subst g;let(its,r,V,hz):=I.tuple hx;have hlen:=r.length;exact truthy_tuple V (by rw[qg,<- hlen];exact w6 (by assumption)) (H,I.tok _,by rw[uE r];exact q)
  subst g;let(hz,hS,vs,r,m):=I.hok p _ hx;have hlen:kvs.length=vs.length:=Paired.length r;exact wpAny_truthy_dict hS m (by rw[<- hlen];exact w6 hz) (H,I.tok _,by rw[uF r];exact q)
 |_=>exact(show False from e).elim
def JW(z:PE X a ta)(he:∀whole,isTrue a X.env whole=(do let v <- whole;standAt a.pos;holding [v] (truthy v))):
  PT X a (λσ H Q=>ta σ H λx H'=>∃k,PQ X.K x H' k/\Q k H'):=by
 left;exact isTrue_plain (thn (z gd s σ H _ I h) λv s1 (x,H1,P,g,q)=>Ri gd s1 σ H1 x v Q P g q) (he _)
def CN:OpR X (binaryOp .Add) (λx y H Q=>∃i j,x=.str i/\y=.str j/\i.length+j.length<=mu/\Q (.str (i++j)) H):=by intro gd s σ H x y v u Q I z g h;let(i,j,U,U,K,q):=h;let(t,U):=z;let(t',U):=g;exact add_str (λt' tk=>(.str (i++j),H,I.tok _,(_,U),q)) K
def vals1{x:V}(r:Vals [x] us):∃u,us=[u]/\RelV x u:=by cases r with|cons q g=>cases g;exact(_,U,q)
def vals2{x:V}(r:Vals [x,y] us):∃u g,us=[u,g]/\RelV x u/\RelV y g:=by cases r with|cons P K =>cases K with|cons z q=>cases q;exact(_,_,U,P,z)
def fq(z:X.calm=O):cL X (.builtin "max") (λxs H Q=>∃i j,xs=[.int i,.int j]/\Q (.int (if j > i then j else i)) H):=by
 intro gd s σ H xs us Q I r h;let(i,j,U,q):=h;let(u,K,U,(t,U),(t',U)):=vals2 r;refine max_two_ints (I.ok.hd z) λh' tk k=>(_,H,I.kept k,?_,q);by_cases g:j > i
 ·rw[if_pos g,if_pos g];exact(_,U)
 rw[if_neg g,if_neg g];exact(_,U)
def Ht(z:X.calm=O):cL X (.builtin "min") (λxs H Q=>∃i j,xs=[.int i,.int j]/\Q (.int (if j<i then j else i)) H):=by
 intro gd s σ H xs us Q I r h;let(i,j,U,q):=h;let(u,K,U,(t,U),(t',U)):=vals2 r;refine min_two_ints (I.ok.hd z) λh' tk k=>(_,H,I.kept k,?_,q);by_cases g:j<i
 ·rw[if_pos g,if_pos g];exact(_,U)
 rw[if_neg g,if_neg g];exact(_,U)
def iG:cL X (.type "int") (λxs H Q=>(∃i,xs=[.int i]/\Q (.int i) H)\/∃k,xs=[.bl k]/\Q (.int (if k then 1 else 0)) H):=by
 intro gd s σ H xs us Q I r h;obtain⟨i,rfl,q⟩|⟨k,rfl,q⟩:=h
 ·let(u,U,t,U):=vals1 r;exact call_int_int (.int i,H,I,(_,U),q)
 let(u,U,g):=vals1 r;cases g;exact call_int_bool (.int (if k then 1 else 0),H,I.tok _,(_,U),q)
end
structure HF(h:Do)(x dx C:J)(mA:Υ):Prop where
 obj:h.get? x=Z (W.instObj C dx)
 ns:h.Ns1 dx mA
 ne:dx≠x
variable{dx:J}{mA:Υ}
theorem GX{h:Do}(n:h.Ns1 dx mA):∃od,h.get? dx=Z od/\∀name,W.lookIn name od=Z (mA name):=by
 let(o,es,ep,ho,hd,hk,_,hm):=n;refine(o,ho,λname=>?_);have e:=hm name;unfold nsFind findBy at e;rw[<- Z1]at e;unfold W.lookIn;rw[hd];dsimp only;split
 ·rename_i y q;rw[q]at e;exact congrArg Z e
 rename_i q;rw[q]at e;have a:es.toList.any (·.refKey)=false:=by rw[Zv];intro y K;let(z,t,g):=hk y (Array.mem_toList_iff.mp K);simp[DictEntry.refKey,g]
 have P:¬ es.toList.any (·.refKey)=true:=by rw[a];exact rF
 rw[if_neg P];exact congrArg Z e
variable{C:J}
theorem HF.look{h:Do}{x:J}(I:HF h x dx C mA):∃od,W.InstAt h x (W.instObj C dx) C (Z od)/\∀name,W.lookIn name od=Z (mA name):=
 let(od,ho,hl):=GX I.ns
 (od,(I.obj,U,U,ho),hl)
variable{R:Result->ϋ->Prop}{kw:List (Str×B)}
section
variable{prog:Da}{w:Cl}{s:ϋ}{K:BT}{x f:J}{name:Str}{v:B}
theorem get_map(X:K.In s.heap)(I:HF s.heap x dx C mA)(hg:W.plainGet K C name=O)(q:W.hasDictIn K C=O)
  (z:W.findIn K (.ref C) name=Z Y) (hv:mA name=Z v) (g:W.handedIn v=O) (h:Q v {s with toks:=s.toks+1}):
  wpAny (model prog w) A (getAttr (.ref x) name expr) Q E s:=by
 let(od,Ϗ,hl):=I.look;exact W.get_value X Ϗ (W.plainGet_of hg).1 (W.findObj_own q z U (by rw[hl,hv])) g h
theorem Nk{ns:Γ}{Q:Unit->ϋ->Prop}(X:K.In s.heap)(I:HF s.heap x dx C mA)
  (hs:W.findIn K (.ref C) "__setattr__"=Z (Z (.builtin "object.__setattr__"))) (hp:W.plainOver K C=O) (ht:W.takerIn K C name=Z Y) (hh:W.hasDictIn K C=O)
  (hw:PySem.Within mA ns) (hsz:ns.length<=mu)
  (h:∀h',HF h' x dx C (λy=>if y=name then Z v else mA y)->YQ dx s.heap h'->Q () {s with heap:=h',toks:=s.toks+2}):
  wpAny (model prog w) A (setAttr (.ref x) name v) Q E s:=by
 let(od,Ϗ,hl):=I.look;refine W.set_plain X Ϗ hs (W.osa_open X Ϗ hp ht λb=>?_);let(cd,hc,V):=W.any_some hh;have hx:=I.obj;refine dN (kA (dN (dN (wpAny_loadPart hx (dN (W.Looks.here (W.looks_clsIn X hc) ?_))))));rw[V];refine kA (dN (kA (dN ?_)));refine wpAny_nsSet1 I.ns λh' q g=>?_;let(oD,ar,av,z,P,ak):=q.count (PySem.Within.cons name v hw);exact dN (wpAny_lookBehind z (by rw[P];exact pastItsLine_dict (sF ak (by rw[qf];omega))) (kA (h _ ((g.2 _ (Ne.symm I.ne)).trans I.obj,q,I.ne) g)))
theorem KU{vs:Δ}(X:K.In s.heap)(hm:W.makesIn K C=O)
  (hi:W.findIn K (.ref C) "__init__"=Z (Z (.ref f))) (hf:W.typeIn K (.ref f)=Z (.type "function"))
  (h:codeAny (model prog w) (A.under (.builtin "type.__call__" (.ref C::vs,kw))) (.call (.ref f) (.ref (s.heap.objs.size+1)::vs,kw)) (W.InitBack (s.heap.objs.size+1) R)
{s with heap:=(s.heap.push W.emptyDict).push (W.instObj C s.heap.objs.size)}):
  codeAny (model prog w) A (.call (.ref C) (vs,kw)) R s:=by
 exact W.make_core (W.makes_of X hm) (W.looks_findIn X hi) (λself=>W.bind_fn X self hf) (.inl U) h
end
def l9(f:Str)(v:V):List (Str×V)->List (Str×V)
 |[]=>[(f,v)]| (g,x)::r=>if g=f then(g,v)::r else(g,x)::l9 f v r
theorem qz(f g:Str)(v:V):∀fs:List (Str×V),(l9 f v fs).lookup g=if g=f then Z v else fs.lookup g
 |[]=>by
  show YH g [(f,v)]=_;by_cases h:g=f
  ·have q:=beq_iff_eq.mpr h;simp only[YH,q,if_pos h]
  have q:=beq_eq_false_iff_ne.mpr h;simp only[YH,q,if_neg h]
 | (k,x)::r=>by
  have z:=qz f g v r;rw[show l9 f v ((k,x)::r)=(if k=f then(k,v)::r else(k,x)::l9 f v r)from rfl];by_cases hk:k=f
  ·rw[if_pos hk];by_cases h:g=k
   ·have q:=beq_iff_eq.mpr h;simp only[YH,q,if_pos (h.trans hk)]
   have q:=beq_eq_false_iff_ne.mpr h;simp only[YH,q,if_neg (λe:g=f=>h (e.trans hk.symm))]
  rw[if_neg hk];by_cases h:g=k
  ·have q:=beq_iff_eq.mpr h;simp only[YH,q,if_neg (λe=>hk (h.symm.trans e))]
  have q:=beq_eq_false_iff_ne.mpr h;simp only[YH,q];exact z
theorem pQ(f:Str)(v:V):∀fs:List (Str×V),f∈(l9 f v fs).map (·.1)/\∀g,g∈fs.map (·.1)->g∈(l9 f v fs).map (·.1)
 |[]=>(by simp[l9],λg h=>by simp at h)| (k,x)::r=>by
  let(i1,i2):=pQ f v r;rw[show l9 f v ((k,x)::r)=(if k=f then(k,v)::r else(k,x)::l9 f v r)from rfl];by_cases hk:k=f
  ·rw[if_pos hk];subst hk;exact(ad,λg h=>by simpa using h)
  rw[if_neg hk];refine(?_,λg h=>?_)
  ·exact j5 _ i1
  obtain e|e:=kC.mp h
  ·exact kC.mpr (.inl e)
  exact j5 _ (i2 g e)
theorem qD(f:Str)(v:V):∀fs:List (Str×V),(l9 f v fs).length<=fs.length+1
 |[]=>by simp[l9]| (k,x)::r=>by
  have g:=qD f v r;rw[show l9 f v ((k,x)::r)=(if k=f then(k,v)::r else(k,x)::l9 f v r)from rfl];by_cases hk:k=f
  ·rw[if_pos hk,qf,qf];lia
  rw[if_neg hk,qf,qf];lia
def ku.some_of{o:Option B}(r:ku (Z v) o):∃u,o=Z u/\RelV v u:=by cases o with|none=>exact(r).elim|some u=>exact(u,U,r)
theorem He{v:V}(r:RelV v u):W.handedIn u=true:=by
 cases v with
 |non=>cases(r);rfl
 |bl b=>cases(r);rfl
 |int i=>let(t,e):=(r);cases e;rfl
 |str x=>let(t,e):=(r);cases e;rfl
 |byt b=>let(t,e):=(r);cases e;rfl
 |flt b=>let(t,e):=(r);cases e;rfl
 |ref a=>cases(r);rfl
 |ty n=>cases(r);rfl
section
variable{w:Cl}{h:Do}{fs:List (Str×V)}
def EK(hok:HOk P w H h)(e:H a=Z (.ins C dx fs)):∃mA,HF h a dx C mA/\(∀f,ku (fs.lookup f) (mA f))/\PySem.Within mA (fs.map (·.1))/\fs.length<=1000/\H dx=Z (.own a):=by let(d,z,ne,ob,mA,n,r,q):=(hok a _ e);exact(mA,(ob,n,ne),r,q,z,d)
end
structure Cls(K:BT)(C:J):Prop where
 pg:W.plainGet K C Str.empty=O
 hd:W.hasDictIn K C=O
 po:W.plainOver K C=O
 sa:W.findIn K (.ref C) "__setattr__"=Z (Z (.builtin "object.__setattr__"))
theorem Cls.get{K:BT}(c:Cls K C)(f:Str):W.plainGet K C f=true:=c.pg
def cf(K:BT)(C:J)(f:Str):Prop:=W.findIn K (.ref C) f=Z Y
theorem cf.UN{K:BT}(n:cf K C f):W.takerIn K C f=Z none:=by unfold W.takerIn;rw[n];rfl
structure Meth(K:BT)(C:J)(m:Str)(f:J):Prop where
 at_:W.findIn K (.ref C) m=Z (Z (.ref f))
 fn:W.isFn K (.ref f)=O
 kp:W.keepIn K (.ref f)=O
variable{env:Env}
section
variable{σ:St}{s:ϋ}{fs:List (Str×V)}{f:Str}{v:V}
def De{b:Bool}(I:Inv X gd σ H s)(e:H a=Z (.ins C dx fs))(c:Cls X.K C)(n:cf X.K C f)(l:fs.lookup f=Z v)
  (h:∀u s',Inv X gd σ H s'->RelV v u->Q u s'):wpAny (model X.prog X.w) A (getAttr (.ref a) f b) Q E s:=by
 let(mA,ό,r,_,_,_):=EK I.hok e;let(u,g,ru):=ku.some_of (by rw[<- l];exact r f);exact get_map I.kIn ό (c.get f) c.hd n g (He ru) (h u _ (I.tok _) ru)
def Cf{Q:Unit->ϋ->Prop}(I:Inv X gd σ H s)(e:H a=Z (.ins C dx fs))(c:Cls X.K C)(n:cf X.K C f)(hl:fs.length<1000)(V:RelV y u)
  (h:∀s',Inv X gd σ (upd H a (.ins C dx (l9 f y fs))) s'->Q () s'):wpAny (model X.prog X.w) A (setAttr (.ref a) f u) Q E s:=by
 let(mA,ό,r,wi,_,ho):=EK I.hok e;have hz:(fs.map (·.1)).length<=mu:=by rw[cU,YW];lia
 refine Nk I.kIn ό c.sa c.po n.UN c.hd wi hz λh' P sb=>h _ ?_;have hd:∃o,h'.get? dx=Z o:=let(o,_,_,e',_):=P.ns;(o,e');refine I.write (x:=a) (e:=dx) (by rw[e];exact True.intro) (.inr ho) (λb q hb z=>(sb.2 b hb).trans z) hd (by rw[au ό.ne];exact ho,?_,ό.ne,P.obj,_,P.ns,λg=>?_,λg hg=>?_)
 ·have:=qD f y fs;lia
 ·rw[qz];by_cases q:g=f
  ·rw[if_pos q,if_pos q];exact V
  rw[if_neg q,if_neg q];exact r g
 by_cases q:g=f
 ·rw[q];exact(pQ f y fs).1
 refine(pQ f y fs).2 g (wi g λz=>hg ?_);show(if g=f then Z u else mA g)=Y;rw[if_neg q];exact z
theorem Inv.made(I:Inv X gd σ H s):Inv X gd σ (upd (upd H s.heap.objs.size (.own (s.heap.objs.size+1))) (s.heap.objs.size+1) (.ins C s.heap.objs.size []))
  {s with heap:=(s.heap.push W.emptyDict).push (W.instObj C s.heap.objs.size)}:=by
 have g:(s.heap.push W.emptyDict).get? s.heap.objs.size=Z W.emptyDict:=kD s.heap U;have P:=by
  have:=kD (s.heap.push W.emptyDict) (o:=W.instObj C s.heap.objs.size) U
  rwa [BB]at this
 have K:(s.heap.push W.emptyDict).Ns s.heap.objs.size (λ_=>Y):=(W.emptyDict,#[],_,g,U,(λe he=>absurd he ad),λ_=>rfl);have Q:=I.laid (o:=.own (s.heap.objs.size+1)) (t':=s.toks) (λb u q=>gs _ q) (kB _) (_,g);refine Q.laid (λb u q=>gs _ q) (Nat.le_of_eq (BB _ _)) ?_;have ne:s.heap.objs.size≠s.heap.objs.size+1:=rl (YB _);refine(by rw[au ne,aA],zt _,ne,P,λ_=>Y,(Heap.Ns1.of_empty K).at λo q=>gs _ q,λ_=>True.intro,λy z=>absurd U z)
def Pu{prog:Da}{w:Cl}{f:Str}{pos:Pos}{s:ϋ}(q:attributeBase e f env (eval e env)=eval e env)
  (h:wpAny (model prog w) A (eval e env) (λo g=>wpAny (model prog w) A (getAttr o f O) Q E g) E s):wpAny (model prog w) A (eval (.Attribute e f pos) env) Q E s:=
 Attribute_any_ h (by rw[arm_eval_Attribute,q])
end
def WY(K:BT)(ta tv:TE)(f:Str):TS:=λD σ H=>tv σ H λy H1=>ta σ H1 λx H2=>∃a C dx fs,x=.ref a/\H2 a=Z (.ins C dx fs)/\Cls K C/\cf K C f/\fs.length<1000 /\
 D.nx σ (upd H2 a (.ins C dx (l9 f y fs)))
section
variable{value:Ev}{f:Str}{pos:Pos}{ta tv:TE}
def jY(V:PE X o ta)(hv:PE X value tv)(hs:swapsWith value (Z (.Attribute o f pos')) pos.line X.env=pure ϊ):PS X (.Assign [.Attribute o f pos'] value pos) (WY X.K ta tv f):=by right;refine plainObj_wpAny_Assign_Attribute (thn (hv gd s σ H _ I h) λu s1 (y,H1,I1,z,q)=>thn (V gd s1 σ H1 _ I1 q) λov s2 g=>?_) hs;let(x,H2,I2,P,a,C,dx,fs,ex,ea,c,n,l,Q):=g;subst ex;obtain rfl:=P;exact Cf I2 ea c n l z λs3 I3=>(σ,_,I3,Q)
end
structure e7(k:Nat)(A:Db):Prop where
 hd:A.handled=Y
 dp:A.depth+3*k+5<recursionLimit
 un:A.units+16*k+200<cLine
def e7.mono(r:e7 k A)(h:j<=k):e7 j A:=(r.hd,by have:=r.dp;lia,by have:=r.un;lia)
theorem e7.deeper(r:e7 (k+1) A)(env:Env):e7 k (A.deeper env):=
 (r.hd,by have:=r.dp;show A.depth+1+3*k+5<_;lia,by have:=r.un;show A.units+3+16*k+200<_;lia)
def CZ:(A.under (.builtin "type.__call__" (.ref C::us,kw))).depth=A.depth+1:=by rfl
def CY:(A.under (.builtin "type.__call__" (.ref C::us,kw))).units=A.units+1:=by rfl
def e7.make(r:e7 (k+1) A)(C:J)(us:Δ)(kw:List (Str×B)):e7 k (A.under (.builtin "type.__call__" (.ref C::us,kw))):=
 (r.hd,by have:=r.dp;rw[CZ];lia,by have:=r.un;rw[CY];lia)
theorem e7.depth(r:e7 k A):A.depth<recursionLimit:=by have:=r.dp;lia
theorem e7.units(r:e7 k A):A.units+64<cLine:=by have:=r.un;lia
def iP:TA:=λ_ H Q=>Q [] H
def dy(ta:TE)(g:TA):TA:=λσ H Q=>ta σ H λx H1=>g σ H1 λxs H2=>Q (x::xs) H2
section
variable{t:TA}{pos:Pos}
def eB:PA X [] iP:=λ_ _ _ _ H Q I h=>Calls.spliced_nil ([],H,I,.nil,h)
abbrev AC(X:Cx)(e:Ev)(f:List Ev):Prop:=mJ (e::f) X.env=(false,eval e X.env)::mJ f X.env
def cn(P:PE X e te)(hr:PA X es t)(hs:‹AC X e es›):PA X (e::es) (dy te t):=by intro pos gd s σ H Q I h;rw[hs];show wpAny _ _ (spliced ((ϊ,eval e X.env)::backTo pos (mJ es X.env))) _ _ s;exact Calls.spliced_cons (thn (P gd s σ H _ I h) λu s1 (x,H1,I1,q,K)=>(thn (hr pos gd s1 σ H1 _ I1 K) λus s2 (xs,H2,V,g,z)=>(x::xs,H2,V,.cons q g,z)))
def Rk(t:TA):TE:=λσ H Q=>t σ H λxs H1=>xs.length<=mu/\∀p,H1 p=Y->Q (.ref p) (upd H1 p (.tup xs))
def UP(t:TA):TE:=λσ H Q=>t σ H λxs H1=>xs.length<=mu/\∀p,H1 p=Y->Q (.ref p) (upd H1 p (.lst xs))
def Kf{K}(h:PA X es t):PE X (.Tuple es K pos) (Rk t):=by intro gd s σ H Q I hq;refine wpAny_Tuple_spliced (thn (h pos gd s σ H _ I hq) λus s1 (xs,H1,g,r,z,q)=>(by rw[<- r.length];exact z,?_));have hf:=g.hok.fresh (kB _);refine(.ref s1.heap.objs.size,upd H1 s1.heap.objs.size (.tup xs),g.laid (λb u e=>gs _ e) (kB _) ?_,U,q _ hf);exact(z,us,r,((_,kD _ U,U,_,U),_,kD _ U,U))
def SI(h:PA X es t):PE X (.List es pos) (UP t):=by intro gd s σ H Q I hq;refine wpAny_List_spliced (thn (h pos gd s σ H _ I hq) λus s1 (xs,H1,g,r,z,q)=>(by rw[<- r.length];exact z,?_));have hf:=g.hok.fresh (kB _);refine(.ref s1.heap.objs.size,upd H1 s1.heap.objs.size (.lst xs),g.laid (λb u e=>gs _ e) (kB _) ?_,U,q _ hf);exact(z,us,0,r,kD _ U)
end
abbrev Sp:=Ω->Hp->VK->XK->Prop
abbrev CXT:=List Env->Hp->ϋ->XK->Φ
structure DH(P:Da)(w:Cl)(K:BT)(mg:Υ)(base:Do)(A:Db)(outer:List Env)(s:ϋ)(H:Hp):Prop where
 frames:A.frames=Z outer
 mod:Mod K mg base
 bs:∀b o,base.get? b=Z o->s.heap.get? b=Z o/\H b=Y
 bsz:base.objs.size<=s.heap.objs.size
 rh:s.heap.FunFrames base outer
 frf:∀b∈frs outer,H b=Y
 hok:HOk P w H s.heap
 bare:AllBare s.gens
def CE(outer:List Env)(P:Da)(w:Cl)(H:Hp)(s:ϋ)(Q:VK)(u:B)(s':ϋ):Prop:=
 ∃v H',s'.os=s.os/\AllBare s'.gens/\Un (frs outer) [] H H' s.heap s'.heap/\HOk P w H' s'.heap/\RelV v u/\Q v H'
def CR(CX:CXT)(outer:List Env)(P:Da)(w:Cl)(H:Hp)(s:ϋ)(Q:VK)(E:XK)(r:Result)(s':ϋ):Prop:=
 match r with|.ok (.ret u)=>CE outer P w H s Q u s'|.ok _=>False|.error e=>CX outer H s E e s'
structure bg(P:Da)(w:Cl)(K:BT)(mg:Υ)(base:Do)(CX:CXT)(k:Nat)(f:J)(fd:Ch)(ps:Γ)(sp:Sp):Prop where
 len:∀vs H Q E,sp vs H Q E->vs.length=ps.length
 run:∀(A:Db)(outer:List Env)(s:ϋ)(H:Hp)(args:Args)(us:Δ)(vs:Ω)(Q:VK)(E:XK),e7 k A->DH P w K mg base A outer s H->BindsTo s fd args (ps.zip us)->Vals vs us->sp vs H Q E ->
  codeAny (model P w) A (.call (.ref f) args) (CR CX outer P w H s Q E) s
variable{mg:Υ}{base:Do}{CX:CXT}{fd:Ch}{ps:Γ}{sp:Sp}
theorem bg.imp{K:BT}(F:bg P w K mg base CX k f fd ps sp)
  (h:∀vs H Q E,g vs H Q E->sp vs H Q E):bg P w K mg base CX k f fd ps g:=
 (λvs H Q E q=>F.len vs H Q E (h _ _ _ _ q),λA outer s H args us vs Q E hr he z hv hs=>F.run A outer s H args us vs Q E hr he z hv (h _ _ _ _ hs))
theorem DH.make{P:Da}{w:Cl}{K:BT}{mg:Υ}{base:Do}{A:Db}{outer:List Env}{s:ϋ}{H:Hp}(e:DH P w K mg base A outer s H)(C:J)(us:Δ)(kw:List (Str×B)):
  DH P w K mg base (A.under (.builtin "type.__call__" (.ref C::us,kw))) outer s H:=(by exact e.frames,e.mod,e.bs,e.bsz,e.rh,e.frf,e.hok,e.bare)
section
variable{σ:St}{s:ϋ}
def Inv.Wq(I:Inv X gd σ H s):DH X.prog X.w X.K X.mg X.base X.A X.stack s H:=
 (I.ok.frames,I.ok.mod,I.bs,sF I.ok.bsz I.sz,I.stack,I.D6,I.hok,I.bare)
def Inv.after{Q:VK}(I:Inv X gd σ H s)(h:CE X.stack X.prog X.w H s Q u s'):EP X gd σ Q u s':=by let(v,H',os,bare,un,hok,r,q):=h;let(P,g,d,t,K):=s';obtain rfl:=os;exact(v,H',I.call un hok bare (λb z=>absurd z ad),r,q)
end
def DX(sp:Sp)(dvs:Ω)(E:XK)(t:TA):TE:=λσ H Q=>t σ H λvs H1=>sp (vs++dvs) H1 Q E
def Binds(K:BT)(fd:Ch)(ps:Γ)(ds:Δ):Prop:=
 ∀(s:ϋ)(us:Δ),K.In s.heap->(us++ds).length=ps.length->BindsTo s fd (us,[]) (ps.zip (us++ds))
theorem Binds.all{K:BT}(h:∀us:Δ,us.length=ps.length->bindArgs fd (us,[])=pure (ps.zip us)):Binds K fd ps []:=λs us _ hl=>by
 rw[qp]at hl ⊢;exact .of_eq (h us hl)
def Passes(CX:CXT)(X:Cx)(E:XK):Prop:=∀(gd:Ξ)(σ:St)(H:Hp)(s:ϋ)(e:B)(s':ϋ),Inv X gd σ H s->CX X.stack H s E e s'->X.xe e s'
section
variable{k:Nat}{f:J}{dvs:Ω}{ds:Δ}{E:XK}{p pos:Pos}{t:TA}
theorem RG{σ:St}{Q:VK}(F:bg X.prog X.w X.K X.mg X.base CX k f fd ps sp)(hr:e7 k X.A)(q:Binds X.K fd ps ds)(hd:Vals dvs ds)(hx:Passes CX X E)
  (I:Inv X gd σ H s) (r:Vals vs us) (h:sp (vs++dvs) H Q E):XV X (call (.ref f) us) (EP X gd σ Q) X.xe s:=by
 have g:=r.append hd;have hl:(us++ds).length=ps.length:=by rw[<- g.length];exact F.len _ _ _ _ h
 refine wpAny_call (codeAny_mono (F.run X.A X.stack s H (us,[]) (us++ds) (vs++dvs) Q E hr I.Wq (q s us I.kIn hl) g h) λr s' hq=>?_);cases r with|error e=>exact hx gd σ H s e s' I hq|ok fl =>cases fl with|ret u=>exact I.after hq|next=>exact False.elim hq|brk=>exact False.elim hq|cont=>exact False.elim hq
abbrev AM(X:Cx)(p:Pos)(e:List Ev):Prop:=(backTo p (mJ e X.env)).any (·.1)=false
theorem Er(F:bg X.prog X.w X.K X.mg X.base CX k f fd ps sp)(hr:e7 k X.A)(hg:Gl X x)(hm:X.mg x=Z (.ref f))(hk:W.keepIn X.K (.ref f)=O)(V:Binds X.K fd ps ds)(hd:Vals dvs ds)(hx:Passes CX X E)
  (ha:PA X (e::es) t) (z:autoParam (AS x) zdc._auto_1) (he:‹AC X e es›) (g:‹AM X pos es›):
  PE X (.Call (.Name x p) (e::es) [] pos) (DX sp dvs E t):=by
 left;exact QL (yJ I hg hm (W.callWith_K (h₀:=X.base) I.ok.mod.kin hk (thn (ha pos gd s σ H _ I h) λus s1 (vs,H1,P,r,q)=>(P.kIn,(RG F hr V hd hx P r q))) he g) z)
structure Mk(K:BT)(C f:J):Prop where
 makes:W.makesIn K C=O
 init:W.findIn K (.ref C) "__init__"=Z (Z (.ref f))
 fn:W.isFn K (.ref f)=O
 kp:W.keepIn K (.ref C)=O
theorem Jc{σ:St}{s:ϋ}{Q:VK}{vs:Ω}(M:Mk X.K C f)(F:bg X.prog X.w X.K X.mg X.base CX k f fd ps sp)(hr:e7 (k+1) X.A)(hb:Binds X.K fd ps ds)(hd:Vals dvs ds)
  (hx:Passes CX X E) (I:Inv X gd σ H s) (r:Vals vs us)
  (h:∀x dx,H x=Y->H dx=Y->dx≠x->sp (.ref x ::(vs++dvs)) (upd (upd H dx (.own x)) x (.ins C dx [])) (λv H2=>v=.non/\Q (.ref x) H2) E):
  XV X (call (.ref C) us) (EP X gd σ Q) X.xe s:=by
 have hq:=h (s.heap.objs.size+1) s.heap.objs.size (I.hok.fresh (Nat.le_succ _)) (I.hok.fresh (kB _)) (rl (YB _));have q:=Inv.made (C:=C) I;have z:Vals (V.ref (s.heap.objs.size+1) ::(vs++dvs)) (B.ref (s.heap.objs.size+1) ::(us++ds)):=.cons U (r.append hd);have hl:=by have e:=z.length;rw[F.len _ _ _ _ hq]at e;exact e.symm
 refine wpAny_call (KU I.kIn M.makes M.init (beq_iff_eq.mp M.fn) (codeAny_mono (F.run _ X.stack _ _ (B.ref (s.heap.objs.size+1)::us,[]) (B.ref (s.heap.objs.size+1) ::(us++ds)) _ _ E (hr.make C us [])
(q.Wq.make C us []) (hb _ (B.ref (s.heap.objs.size+1)::us) q.kIn hl) z hq) λr s' g=>?_))
 cases r with|error e=>exact hx gd σ _ _ e s' q g|ok fl =>cases fl with|ret u =>let(v,H',I3,rv,ev,P):=q.after g;subst ev;exact(rv,(V.ref (s.heap.objs.size+1),H',I3,U,P))|next=>exact False.elim g|brk=>exact False.elim g|cont=>exact False.elim g
end
def PK(X:Cx)(kws:List Keyword)(t:TA):Prop:=
 ∀(pos:Pos)(gd:Ξ)(s:ϋ)(σ:St)(H:Hp)(Q:Ω->Hp->Prop),Inv X gd σ H s->t σ H Q->XV X (evalAll ((backToKw pos (keywordEach kws X.env)).map (·.2))) (AP X gd σ Q) X.xe s
section
variable{pos Lb:Pos}{kws:List Keyword}{t:TA}{nm:Option Str}
def SA:PK X [] iP:=λ_ _ _ _ H Q I h=>wpAny_evalAll_nil ([],H,I,.nil,h)
def N8(P:PE X e te)(hr:PK X kws t):PK X ((nm,e,Lb)::kws) (dy te t):=by intro pos gd s σ H Q I h;show wpAny _ _ (evalAll ((do let v <- eval e X.env;standAt pos;pure v) ::(backToKw pos (keywordEach kws X.env)).map (·.2))) _ _ s;exact wpAny_evalAll_cons (dN (thn (P gd s σ H _ I h) λu s1 (x,H1,I1,q,K)=>dN (wpAny_standAt (kA (thn (hr pos gd s1 σ H1 _ I1 K) λus s2 (xs,H2,V,g,z)=>(x::xs,H2,V,.cons q g,z))))))
end
structure aH(N P:Γ)(sc:Scope):Prop where
 kind:sc.kind=.function
 co:sc.isCoroutine=ϊ
 gen:sc.isGenerator=ϊ
 nd:N.Nodup
 pre:N.take P.length=P
 par:∀x∈P,sc.names.lookup x=Z .local\/sc.names.lookup x=Z .cell
 SU:∀y∈sc.names,y.2 ≠ .free
theorem xj{kindOf:Str->Option NameKind}:∀{binds:List (Str×B)}{m:Υ},(∀v,(x,v) ∉ binds)->bindL kindOf binds m x=m x
 |[],_,_=>rfl| (n,v)::r,m,h=>by
  unfold bindL;rw[xj λw hw=>h w (j5 _ hw)];split
  ·have:x≠n:=by rintro rfl;exact h v j0
   simp[this]
  rfl
theorem xl{kindOf:Str->Option NameKind}:∀{binds:List (Str×B)}{m:Υ},(∀v,(x,v) ∉ binds)->bindC kindOf binds m x=m x
 |[],_,_=>rfl| (n,v)::r,m,h=>by
  unfold bindC;rw[xl λw hw=>h w (j5 _ hw)];split
  ·rfl
  have:x≠n:=by rintro rfl;exact h v j0
  simp[this]
theorem xk{kindOf:Str->Option NameKind}{x:Str}{v:B}:∀{P:Γ}{vs:Δ}{i:Nat}{m:Υ},P.Nodup->P[i]?=Z x->vs[i]?=Z v->kindOf x=Z .local ->
  bindL kindOf (P.zip vs) m x=Z v
 |[],_,_,_,_,h,_,_=>by simp at h|_::_,[],_,_,_,_,h,_=>by simp at h|p::P,w::vs,0,m,nd,h1,h2,hk=>by
  simp at h1 h2;subst h1;subst h2;show bindL kindOf ((p,w)::P.zip vs) m p=_;unfold bindL;rw[xj λv hv=>(vp.mp nd).1 (Yw hv).1,if_pos hk];simp
 |p::P,w::vs,i+1,m,nd,h1,h2,hk=>by
  unfold bindL;exact xk (vp.mp nd).2 (h1:) (h2:) hk
theorem xm{kindOf:Str->Option NameKind}{x:Str}{v:B}:∀{P:Γ}{vs:Δ}{i:Nat}{m:Υ},P.Nodup->P[i]?=Z x->vs[i]?=Z v->kindOf x≠Z .local ->
  bindC kindOf (P.zip vs) m x=Z v
 |[],_,_,_,_,h,_,_=>by simp at h|_::_,[],_,_,_,_,h,_=>by simp at h|p::P,w::vs,0,m,nd,h1,h2,hk=>by
  simp at h1 h2;subst h1;subst h2;show bindC kindOf ((p,w)::P.zip vs) m p=_;unfold bindC;rw[xl λv hv=>(vp.mp nd).1 (Yw hv).1,if_neg hk];simp
 |p::P,w::vs,i+1,m,nd,h1,h2,hk=>by
  unfold bindC;exact xm (vp.mp nd).2 (h1:) (h2:) hk
def start(N:Γ)(vs:Ω):St:=vs.map Z++rG (N.length-vs.length) Y
def zb(CX:CXT)(P:Da)(w:Cl)(K:BT)(mg:Υ)(base:Do)(N:Γ)(qual:Str)(scope:Scope)(f:J)(cd:B)(A:Db)(outer:List Env)(s:ϋ)(H:Hp)(E:XK):Cx where
 prog:=P
 w:=w
 K:=K
 mg:=mg
 base:=base
 A:=A.deeper (envOfC qual scope s.heap.objs.size f cd)
 N:=N
 s₀:=s
 be:=H
 env:=envOfC qual scope s.heap.objs.size f cd
 outer:=outer
 stack:=envOfC qual scope s.heap.objs.size f cd::outer
 ex:=[]
 calm:=O
 fn:=λ_=>O
 pn:=[]
 xe:=λe s'=>wpAny (model P w) (A.deeper (envOfC qual scope s.heap.objs.size f cd)) (leaving (envOfC qual scope s.heap.objs.size f cd) e) (λ_ g=>CX outer H s E e g) (λq g=>CX outer H s E q g) s'
variable{sc:Scope}
theorem Bo(h:sc.names.lookup x=Z .cell):∃c,(cellsFrom n sc.names []).lookup x=Z c:=by have q:=W.cellsFrom_some sc.names n [] (.inl h);exact Mj.mp q
variable{qual:Str}{scope:Scope}
theorem Ha{w:Cl}{K:BT}{f:J}{cd:B}{outer:List Env}{s s1:ϋ}{E:XK}{vs:Ω}
  (S:aH N ps scope) (hd:A.handled=Y) (g:DH P w K mg base A outer s H) (hl:vs.length=ps.length) (r:Vals vs us)
  (x:InCallC s s.heap.objs.size (bindL (envOfC qual scope s.heap.objs.size f cd).kindOf (ps.zip us) λ_=>Y) (cellsFrom (s.heap.objs.size+1) scope.names []) (bindC (envOfC qual scope s.heap.objs.size f cd).kindOf (ps.zip us) λ_=>Y) s1):
  Inv (zb CX P w K mg base N qual scope f cd A outer s H E) [] (start N vs) H s1:=by
 have ar:ps.length<=N.length:=by have:=congrArg HH S.pre;rw[qr]at this;lia
 let(h1,tk,U,hk):=x.done;have Q:∀b,b ∉ (zb CX P w K mg base N qual scope f cd A outer s H E).ex:=λb z=>absurd (show b∈([])from z) ad;refine((g.mod,S.kind,U,U,kB _,λy z c h1 h2=>?_,λy hy=>?_,λy c _ h=>?_,λ_=>hd,Around.frames_deeper g.frames,.inr (U,U),λb z=>absurd z (Q b),g.bs,g.bsz,λb _ _=>Q b,λb z=>absurd z (Q b),g.rh,g.frf),
rfl,g.bare,Un.kept hk,(_,x.toInCall.ns,λi y v h1 h2 h3=>?_),λy c h=>(_,x.cell y c h),g.hok.fresh (kB _),λy c h=>?_,λp hp=>absurd (show p∈([])from hp) ad,g.hok.kept hk,?_)
 ·exact name_of_addr x.apart (PySem.mem_of_lookup h1) (PySem.mem_of_lookup h2)
 ·obtain hy|hy:=hy
  ·exact Bo hy
  exact absurd U (S.SU _ (PySem.mem_of_lookup hy))
 ·exact wz (x.above y c (PySem.mem_of_lookup h))
 ·have hi:i<vs.length:=by
   unfold start at h2;by_cases hi:i<vs.length
   ·exact hi
   rw[vr (hi:)]at h2;rw[Y4]at h2;split at h2 <;> cases h2
  have ha:vs[i]?=Z v:=by
   unfold start at h2;rw[u6 (hi:),fN]at h2;cases e:vs[i]? with
   |none=>rw[e]at h2;cases h2
   |some a=>rw[e]at h2;cases h2;rfl
  let(u,hu,rv):=r.get ha;have hp:ps[i]?=Z y:=by rw[<- S.pre,Zw ap];exact h1
  have ak:ps.Nodup:=by rw[<- S.pre];exact S.nd.sublist (Yu _ _)
  refine(u,rv,?_);obtain k|k:=S.par y (g5 hp)
  ·exact .inl (k,xk ak hp hu k)
  let(c,e):=Bo k;refine .inr (.inl k,c,e,?_);have q:=x.cell y c e;rw[xm ak hp hu (by show scope.names.lookup y≠_;rw[k];decide)]at q;exact q
 ·exact g.hok.fresh (wz (x.above y c (PySem.mem_of_lookup h)))
 unfold start;show _=N.length;rw[j3,cU,YS];lia
variable{name:Str}{pm:B}{ct:B}{oc:B}{an:Option J}{od:Option J}
theorem Wn{K:BT}{dV kV doc cdv:B}
  (lk:K.lookup f=Z (oc,od,.func (W.fnOf name qual params body scope dV kV doc pm an cdv ct),osl)) (ak:W.codeIn K cdv qual=O) (S:aH N ps scope)
  (len:∀vs H Q E,sp vs H Q E->vs.length=ps.length)
  (uO:∀(A:Db)(outer:List Env)(s:ϋ)(H:Hp)(vs:Ω)(Q:VK)(E:XK),e7 k (A.deeper (envOfC qual scope s.heap.objs.size f cdv))->sp vs H Q E ->
∃ t,PSs (zb CX P w K mg base N qual scope f cdv A outer s H E) body t/\t {nx:=λ_ H'=>Q .non H',rt:=Q} (start N vs) H):
  bg P w K mg base CX (k+1) f (W.fnOf name qual params body scope dV kV doc pm an cdv ct) ps sp:=by
 refine(len,λA outer s H args us vs Q E hr e0 hb r z=>?_);have hl:=len _ _ _ _ z;have KX:=e0.mod.kin.keeps λb o e=>(e0.bs b o e).1;have lim:=e0.mod.nolimit.keeps λb o e=>(e0.bs b o e).1;have gv:∀y∈ps.zip us,scope.names.lookup y.1=Z .local\/(scope.names.lookup y.1=Z .cell/\((cellsFrom (s.heap.objs.size+1) scope.names []).lookup y.1).isSome=O):=λ(n,v) hy=>by
  obtain q|q:=S.par n (Yw hy).1
  ·exact .inl q
  exact .inr (q,W.cellsFrom_some _ _ _ (.inl q))
 refine codeAny_call_function hr.depth (KX _ _ lk) U S.co S.gen U (W.codeRec_of KX ak) (hb _ _ _ _ (wpAny_newFunctionEnv_cells S.kind gv λenv he s1 x=>?_));subst he;refine(lim.keeps x.toInCall.keep,codeAny_func ?_);let(t,ht,hq):=uO A outer s H vs Q E (hr.deeper _) z;have I:Inv (zb CX P w K mg base N qual scope f cdv A outer s H E) [] (start N vs) H s1:=Ha S hr.hd e0 hl r x;refine Ux (ht [] s1 (start N vs) H _ I hq) (λfl s' hs=>?_) λe s' hs=>hs;have fin:∀{g:St}{H':Hp}{v:V}{u:B},Inv (zb CX P w K mg base N qual scope f cdv A outer s H E) [] g H' s'->RelV v u->Q v H'->CE outer P w H s Q u s':=
  λ{g H' v u} Ϗ rv q=>(v,H',Ϗ.os,Ϗ.bare,Ϗ.base,Ϗ.hok,rv,q)
 cases fl with|ret u =>let(v,g,H',Ϗ,rv,q):=hs;exact fin Ϗ rv q|next =>let(g,H',Ϗ,q):=hs;exact fin (v:=V.non) Ϗ U q|brk =>let(_,_,_,q):=hs;exact False.elim q|cont =>let(_,_,_,q):=hs;exact False.elim q
section
variable{p pos:Pos}{t:TA}{id T:String}{r:Ω->Hp->VK->Prop}
def tCB(r:Ω->Hp->VK->Prop)(t:TA):TE:=λσ H Q=>t σ H λvs H1=>r vs H1 Q
def uh(P:cL X (.builtin id) r)(hg:Gl X x)(hm:X.mg x=Y)(hv:bootBuiltins x=Z (.builtin id))(V:PA X (e::es) t)(hn:autoParam (x ≠ "__name__") zdc._auto_1)(q:autoParam (AS x) zdc._auto_1)
  (he:‹AC X e es›) (g:‹AM X pos es›):PE X (.Call (.Name x p) (e::es) [] pos) (tCB r t):=by
 left;exact QL (eI I hg hm hv (PyProof.Rows.callWith_builtin1 (thn (V pos gd s σ H _ I h) λus s1 (vs,H1,I1,z,K)=>P gd s1 σ H1 vs us Q I1 z K) he g) hn q)
def wN(P:cL X (.type T) r)(hg:Gl X x)(hm:X.mg x=Y)(hv:bootBuiltins x=Z (.type T))(V:PA X (e::es) t)(hn:autoParam (x ≠ "__name__") zdc._auto_1)(q:autoParam (AS x) zdc._auto_1)
  (he:‹AC X e es›) (g:‹AM X pos es›):PE X (.Call (.Name x p) (e::es) [] pos) (tCB r t):=by
 left;exact QL (eI I hg hm hv (PyProof.Rows.callWith_type1 (thn (V pos gd s σ H _ I h) λus s1 (vs,H1,I1,z,K)=>P gd s1 σ H1 vs us Q I1 z K) he g) hn q)
end
end L2
namespace HT
open PySem PyProof.Rows
section
variable{prog:Da}{w:Cl}{A:Db}{E:Φ}{s:ϋ}
def Pr{t b:J}{vs ws:Δ}{Q:Φ}(ht:IsTup s.heap t vs.toArray)(hb:IsTup s.heap b ws.toArray)(hv:vs ≠ [])
  (h1:ws=[]->Q (.ref t) s) (h2:ws ≠ []->Q (.ref s.heap.objs.size) {s with heap:=s.heap.push {cls:=.type "tuple",data:=.seq (vs++ws).toArray}})
  (hsz:vs.length+ws.length<=mu):wpAny (model prog w) A (binaryOp .Add (.ref t) (.ref b)) Q E s:=by
 let((cls,dd,data,sl),ho,V,n,hd):=id ht;let((X0,K,data2,q),g,z,P,hd2):=id hb;simp only at V hd z hd2;subst V hd z hd2;have e:vs.toArray++ws.toArray=(vs++ws).toArray:=by simp
 by_cases hw:ws=[]
 ·exact concat_meets (_,ho,U) (_,g,U) noFill_tuple_add seq_tuple_add PySem.F.slot_tuple_add PySem.F.entry_tuple_add (PySem.F.args_tuple_add_2 _ _)
   (tuple_addW1 t b vs.toArray ws.toArray n P dd K sl q (hv:) (by simp[hw])) (ho,g,h1 hw)
 refine concat_meets (_,ho,U) (_,g,U) noFill_tuple_add seq_tuple_add PySem.F.slot_tuple_add PySem.F.entry_tuple_add (PySem.F.args_tuple_add_2 _ _)
  (tuple_addW2 t b vs.toArray ws.toArray n P dd K sl q (hv:) (hw:) (by exact hsz)) (ho,g,?_)
 rw[e];exact h2 hw
def sIx(n d:Nat):Option Int->Nat
 |none=>d|some v=>if v<0 then(v+(n:Int)).toNat else min v.toNat n
def IW(n d:Nat):sIx n d Y=d:=rfl
def Nn(n d k:Nat):sIx n d (Z (k:Int))=min k n:=by show(if(k)<0 then((k)+(n:Int)).toNat else min (k:Int).toNat n)=min k n;rw[if_neg ap,P4]
def Ww(a:Int)(n:Nat)(h0:0<=a):min a (n:Int)=((min a.toNat n:Nat):Int):=by
 by_cases h:a<=n
 ·rw[Int.min_eq_left h,Mi (aa0.mpr h),Xy h0]
 have h':=Int.le_of_lt (Int.not_le.mp h);rw[Int.min_eq_right h',Nat.min_eq_right ((Int.le_toNat h0).mpr h')]
def Iz(n:Nat)(i:Int)(h:i<0):max 0 (min (i+(n:Int)) n)=((i+n).toNat:Int):=by rw[Int.min_eq_left (Int.add_le_of_le_sub_right (by rw[Int.sub_self];exact Int.le_of_lt h)),Int.max_comm,Int.ofNat_toNat]
def Iy(n:Nat)(i:Int)(h:¬ i<0):max 0 (min i (n:Int))=((min i.toNat n:Nat):Int):=by rw[Ww i n (Int.not_lt.mp h),Int.max_eq_right (Yn _)]
def Fh(v:Int)(n d:Nat):(if v<0 then max (v+(n:Int)) 0 else min v (n:Int))=((sIx n d (Z v):Nat):Int):=by
 show(if v<0 then max (v+(n)) 0 else min v (n))=(((if v<0 then(v+(n)).toNat else min v.toNat n)));by_cases hv:v<0
 ·rw[if_pos hv,if_pos hv];exact(Int.ofNat_toNat _).symm
 rw[if_neg hv,if_neg hv];exact Ww v n (Int.not_lt.mp hv)
def Dy(lo hi:Option Int)(n:Nat):Builtin.Slice.sliceAdjust lo hi 1 (n:Int)=(((sIx n 0 lo:Nat):Int),((sIx n n hi:Nat):Int)):=by
 have h1:=by omega
 unfold Builtin.Slice.sliceAdjust;refine Prod.ext ?_ ?_
 ·cases lo with|none=>rfl|some v=>exact Fh v n 0
 cases hi with|none=>rfl|some v=>exact Fh v n n
def CH(i j:Nat):Builtin.Slice.slicePlaces (i:Int) (j:Int) 1=j-i:=by unfold Builtin.Slice.slicePlaces;have h1:(1:Int) > 0:=ap;simp only[h1,if_true,Int.ediv_one];split <;> lia
def sX{o:Option Int}{Q:Option Int->ϋ->Prop}(p:IsPart v o)(h:Q o s):wpAny (model prog w) A (Builtin.Slice.slicePartIndex v) Q E s:=by cases p with|none=>exact slicePart_none h|int i t=>exact slicePart_int h
def ik{K z:B}{lo hi:Option Int}{n:Nat}{Q:Int×Int×Nat->ϋ->Prop}(hs:s.heap.IsSliceOf sl K z .none)(P:IsPart K lo)(pu:IsPart z hi)
  (h:Q (((sIx n 0 lo:Nat):Int),1,sIx n n hi-sIx n 0 lo) s):wpAny (model prog w) A (Builtin.Slice.sliceApplied (.ref sl) (pure (n:Int))) Q E s:=by
 let(os,g,V,q):=id hs;refine dN (dN (wpAny_field g q (x:=K) U (dN (wpAny_field g q (x:=z) U (dN (wpAny_field g q U (kA ?_)))))));refine dN (slicePart_none ?_);refine dN (sX P (dN (sX pu (dN (kA ?_)))));show wpAny _ _ (match Builtin.Slice.sliceAdjust lo hi 1 (n)with|(lo,hi)=>pure (Prod.mk lo (Prod.mk (1:Int) (Builtin.Slice.slicePlaces lo hi 1)))) _ _ s;rw[Dy lo hi n];show wpAny _ _ (pure (Prod.mk ((sIx n 0 lo):Int) (Prod.mk (1) (Builtin.Slice.slicePlaces ((sIx n 0 lo)) ((sIx n n hi)) 1)))) _ _ s;rw[CH];exact kA h
def Ka(xs:Array B)(i k:Nat):((Fs k).filterMap λ(m:Nat)=>xs[((i:Int)+(m:Int)*1).toNat]?).toArray=((xs.toList.drop i).take k).toArray:=by
 have e:(λ(m:Nat)=>xs[((i)+(m:Int)*1).toNat]?)=λm=>xs[i+m]?:=by funext m;have:((i)+(m:Int)*1).toNat=i+m:=ap;rw[this]
 rw[e];have:=pick_run xs i k;rw[List.filterMap_map]at this;have g:((λx=>xs[x]?) ∘ λx=>i+x)=λm=>xs[i+m]?:=rfl;rw[g]at this;rw[this]
def nL{items:Array B}{vl vu:B}{lo hi:Option Int}{Q:Φ}(g:IsTup s.heap t items)(hs:s.heap.IsSliceOf sl vl vu .none)(pl:IsPart vl lo)(pu:IsPart vu hi)
  (hw:¬(sIx items.size 0 lo=0/\sIx items.size items.size hi=items.size))
  (h:Q (.ref s.heap.objs.size) {s with heap:=s.heap.push {cls:=.type "tuple",data:=.seq ((items.toList.drop (sIx items.size 0 lo)).take (sIx items.size items.size hi-sIx items.size 0 lo)).toArray}})
  (hsz:items.size<=mu):wpAny (model prog w) A (getItem (.ref t) (.ref sl)) Q E s:=by
 have V2:sizeOk (.seq ((items.toList.drop (sIx items.size 0 lo)).take (sIx items.size items.size hi-sIx items.size 0 lo)).toArray):=by show((items.toList.drop (sIx items.size 0 lo)).take (sIx items.size items.size hi-sIx items.size 0 lo)).toArray.size<=mu;rw[qg,qr,Yr,Yx];exact sF (sF (ZA _ _) (Nat.sub_le _ _)) hsz
 let(os,z,P,ak):=id hs;have V:s.TypeIs (.ref sl) "slice":=(os,z,P);unfold getItem;try with_reducible refine DF ?_
 refine dN (wpAny_sequenceKey g.typeIs ac ?_);refine dN (wpAny_callSpecial?_slot g.typeIs PyProof.Rows.slot_tuple_getitem
(E3 PyProof.Rows.slot_tuple_getitem g.typeIs entry_tuple_getitem ?_ (args_tuple_getitem _ _)))
 show wpAny _ _ (Builtin.Tuple.tupleItemsOf (.ref t) >>= _) _ _ s;refine dN (tupleItemsOf_ g (dN (Tz V ?_)));refine dN (ik hs pl pu ?_);have K:¬((((sIx items.size 0 lo):Int)==0&&(1:Int)==1&&(sIx items.size items.size hi-sIx items.size 0 lo)==items.size)=O):=by intro q;rw[uj,uj]at q;have q1:=eq_of_beq q.1.1;have q2:=eq_of_beq q.2;exact hw (ap,ap)
 show wpAny _ _ (if(((sIx items.size 0 lo):Int)==0&&(1)==1&&(sIx items.size items.size hi-sIx items.size 0 lo)==items.size)=O then _ else _) _ _ s;rw[if_neg K,Ka];exact dN (m:=Builtin.Tuple.tupleExact _) (Xx (kA (_,U,kA h)) V2)
end
end HT
namespace L2
open PySem PySem.Spec PyProof.Rows
abbrev TO:=St->Hp->(Option Int->Hp->Prop)->Prop
def PO(X:Cx)(e:Option Ev)(t:TO):Prop:=
 ∀(gd:Ξ)(s:ϋ)(σ:St)(H:Hp)(Q:Option Int->Hp->Prop),Inv X gd σ H s->t σ H Q ->
  XV X (evalPart e X.env) (λu s'=>∃o H',Inv X gd σ H' s'/\IsPart u o/\Q o H') X.xe s
def DW:TO:=λ_ H Q=>Q Y H
def P6(t:TE):TO:=λσ H Q=>t σ H λx H1=>∃i,x=.int i/\Q (Z i) H1
variable{us:Δ}
section
variable{X:Cx}{e:Ev}{te:TE}{lo hi:Option Ev}{tl th:TO}{pos p2:Pos}
def N7:PO X Y DW:=by left;exact kA (Y,H,I,.none,h)
def yo(h:PE X e te):PO X (Z e) (P6 te):=by intro gd s σ H Q I hw;refine thn (h gd s σ H _ I hw) λu s1 g=>?_;let(x,H1,P,z,K):=g;let(i,U,q):=K;let(t,U):=z;exact(Z i,H1,P,.int i t,q)
def SlR(X:Cx)(r:V->Option Int->Option Int->Hp->VK->Prop):Prop:=
 ∀(gd:Ξ)(s:ϋ)(σ:St)(H:Hp)(x:V)(v q g:B)(lo hi:Option Int)(sl:J)(Q:VK),Inv X gd σ H s->RelV x v->s.heap.IsSliceOf sl q g .none->IsPart q lo->IsPart g hi->r x lo hi H Q ->
  ∃T id,typeLookup (.type T) "__getitem__"=pure (Z (.builtin id))/\s.TypeIs v T/\XV X (getItem v (.ref sl)) (EP X gd σ Q) X.xe s
def SlR.or(h:SlR X r)(h':SlR X P):SlR X (λx lo hi H Q=>r x lo hi H Q\/P x lo hi H Q):=by
 intro gd s σ H x v z g lo hi sl Q I K hs pl pu q;obtain q|q:=q
 ·exact h gd s σ H x v z g lo hi sl Q I K hs pl pu q
 exact h' gd s σ H x v z g lo hi sl Q I K hs pl pu q
def tSl(r:V->Option Int->Option Int->Hp->VK->Prop)(te:TE)(tl th:TO):TE:=λσ H Q=>te σ H λx H1=>tl σ H1 λl H2=>th σ H2 λu g=>r x l u g Q
def Am(hr:SlR X r)(he:PE X e te)(hl:PO X lo tl)(hu:PO X hi th):PE X (.Subscript e (.Slice lo hi Y p2) pos) (tSl r te tl th):=by left;refine Subscript_ (thn (he gd s σ H _ I h) λv s1 (x,H1,I1,r1,q1)=>(wpAny_Slice (thn (hl gd s1 σ H1 _ I1 q1) λz s2 (l,H2,I2,pl,q2)=>thn (hu gd s2 σ H2 _ I2 q2) λg s3 K=>?_)));let(u,P,I3,pu,q3):=K;refine kA ?_;have I4:Inv X gd σ P {s3 with heap:=s3.heap.push {cls:=.type "slice",data:=.fields #[z,g,.none]}}:=I3.kept λb ob q=>gs _ q;let(T,id,hT,ht,hg):=hr gd {s3 with heap:=s3.heap.push {cls:=.type "slice",data:=.fields #[z,g,.none]}} σ P x v z g l u s3.heap.objs.size Q I4 r1 (Heap.IsSliceOf.new ..) pl pu q3;exact tail_any ht hT hg (by with_unfolding_all rfl)
def og(xs:Ω)(lo hi:Option Int):Ω:=(xs.drop (HT.sIx xs.length 0 lo)).take (HT.sIx xs.length xs.length hi-HT.sIx xs.length 0 lo)
def qM(xs:Ω)(lo hi:Option Int):(og xs lo hi).length<=xs.length:=by unfold og;rw[qr,Yr];exact sF (ZA _ _) (Nat.sub_le _ _)
inductive WZ(K:BT)(x:V)(lo:Option Int)(hi:Option Int)(H:Hp)(Q:VK):Prop
 |mk(a xs:_)(h1:x=.ref a)(h2:SqT K H a xs)(h3:¬(HT.sIx xs.length 0 lo=0/\HT.sIx xs.length xs.length hi=xs.length))(h4:∀p,H p=Y->Q (.ref p) (upd H p (.tup (og xs lo hi))))
def Ry:SlR X (WZ X.K):=by
 intro gd s σ H x v vl vu lo hi sl Q I P hs V pu h;let(a,xs,U,hx,hw,q):=h;cases P;let(its,r,z,g):=I.tuple hx;have hlen:its.toArray.size=xs.length:=by exact r.length.symm
 refine("tuple",_,PyProof.Rows.slot_tuple_getitem.lookup,z.typeIs,(HT.nL z hs V pu (by rw[hlen];exact hw) ?_ (by rw[hlen];exact g)));rw[hlen];refine(.ref s.heap.objs.size,_,I.laid (λb ob q=>gs _ q) (kB _) ?_,U,q _ (I.hok.fresh (kB _)));exact(sF (qM xs lo hi) g,_,(r.drop (HT.sIx xs.length 0 lo)).take (HT.sIx xs.length xs.length hi-HT.sIx xs.length 0 lo),mI.new _ _)
inductive Va(K:BT)(x:V)(y:V)(H:Hp)(Q:VK):Prop
 |mk(a b xs ys:_)(h1:x=.ref a)(h2:y=.ref b)(h3:SqT K H a xs)(h4:SqT K H b ys)(h5:xs ≠ [])(h6:xs.length+ys.length<=mu)(h7:(ys=[]->Q (.ref a) H))(h8:(ys ≠ []->∀p,H p=Y->Q (.ref p) (upd H p (.tup (xs++ys)))))
def Vals.i8(r:Vals xs us):us=[] ↔ xs=[]:=by cases r with|nil=>simp|cons _ _=>simp
def OB:OpR X (binaryOp .Add) (Va X.K):=by intro gd s σ H x y v u Q I rx ry h;let(a,b,xs,ys,U,U,ha,hb,hx,V,q1,q2):=h;cases rx;cases ry;let(its,P,p1,_):=I.tuple ha;let(fE,g,p2,_):=I.tuple hb;exact HT.Pr p1 p2 (λz=>hx (P.i8.mp z)) (λz=>(.ref a,H,I,U,q1 (g.i8.mp z))) (λz=>(.ref s.heap.objs.size,_,I.laid (t':=s.toks) (o:=.tup (xs++ys)) (λb ob q=>gs _ q) (kB _) (by rw[j3];exact V,_,P.append g,mI.new _ _),U,q2 (λw=>z (g.i8.mpr w)) _ (I.hok.fresh (kB _)))) (by rw[<- P.length,<- g.length];exact V)
end
def ixN(n:Nat)(i:Int):Option Nat:=if 0<=i then(if i<n then Z i.toNat else Y)else if -(n:Int)<=i then Z (i+n).toNat else Y
def atI{α:Type}(xs:List α)(i:Int):Option α:=(ixN xs.length i).bind λj=>xs[j]?
variable{n:Nat}{j:Nat}
def EI{i:Int}(h:ixN n i=Z j):seqIndex? i n=Z j/\j<n /\ -(n:Int)<=i/\i<n:=by
 unfold ixN at h;by_cases h0:0<=i
 ·rw[if_pos h0]at h;by_cases h1:i<n
  ·rw[if_pos h1]at h;have e:=Option.some.inj h;exact(by rw[seqIndex_of h0 h1,e],ap,ap,h1)
  rw[if_neg h1]at h;cases h
 rw[if_neg h0]at h;by_cases h1:-(n)<=i
 ·rw[if_pos h1]at h;have e:=Option.some.inj h;exact(by rw[seqIndex_neg ap h1,e],ap,h1,ap)
 rw[if_neg h1]at h;cases h
def zh{xs:List α}(h:atI xs i=Z v):∃j,seqIndex? i xs.length=Z j/\xs[j]?=Z v/\j<xs.length /\ -(xs.length:Int)<=i/\i<xs.length:=by
 unfold atI at h;cases e:ixN xs.length i with
 |none=>rw[e]at h;cases h
 |some j =>rw[e]at h;let(h1,h2,h3,h4):=EI e;exact(j,h1,h,h2,h3,h4)
def br{xs:List α}(h:xs[j]?=Z v):atI xs (j:Int)=Z v:=by
 have g:=(jm.mp h).1;have e:ixN xs.length (j)=Z j:=by unfold ixN;rw[if_pos ap,if_pos ap];simp
 unfold atI;rw[e];exact h
def kY(b:Ev):Prop:=∀o i,subscripted b ϊ o i=operate [o,i] (getItem o i)
def IxR(X:Cx)(r:R2):Prop:=
 ∀(value slice:Ev)(gd:Ξ)(s:ϋ)(σ:St)(H:Hp)(x y:V)(v u:B)(Q:VK),Inv X gd σ H s->RelV x v->RelV y u->r x y H Q ->
  subscripted slice ϊ v u=operate [v,u] (getItem v u)->XV X (subscriptTail value slice v u) (EP X gd σ Q) X.xe s
def MtR(X:Cx)(id:String)(r:V->Ω->Hp->VK->Prop):Prop:=
 ∀(gd:Ξ)(s:ϋ)(σ:St)(H:Hp)(x:V)(xs:Ω)(v:B)(us:Δ)(Q:VK),Inv X gd σ H s->RelV x v->Vals xs us->r x xs H Q ->
  XV X (call (.builtin id) (v::us)) (EP X gd σ Q) X.xe s
variable{gd:Ξ}{H:Hp}{its:Δ}{A:Db}{y:V}{u:B}{r:Ω->Hp->VK->Prop}
section
variable{X:Cx}{a b:Ev}{ta tb:TE}{pos:Pos}
def IxR.or{r K:R2}(h:IxR X r)(h':IxR X K):IxR X (λx y H Q=>r x y H Q\/K x y H Q):=by
 intro value slice gd s σ H x y v u Q I z g q hs;obtain q|q:=q
 ·exact h value slice gd s σ H x y v u Q I z g q hs
 exact h' value slice gd s σ H x y v u Q I z g q hs
def wM{r:R2}(hr:IxR X r)(P:PE X a ta)(K:PE X b tb)(hs:kY b):PE X (.Subscript a b pos) (tOp r ta tb):=by left;exact Subscript_ (T7 P K I h λv u s2 x y H2 V z g q=>hr a b gd s2 σ H2 x y v u Q V z g q (hs _ _))
inductive U7(K:BT)(x:V)(y:V)(H:Hp)(Q:VK):Prop
 |mk(p xs i v:_)(h1:x=.ref p)(h2:y=.int i)(h3:SqL K H p xs)(h4:atI xs i=Z v)(h5:Q v H)
inductive U5(K:BT)(x:V)(y:V)(H:Hp)(Q:VK):Prop
 |mk(p xs i v:_)(h1:x=.ref p)(h2:y=.int i)(h3:SqT K H p xs)(h4:atI xs i=Z v)(h5:Q v H)
inductive U6(x:V)(y:V)(H:Hp)(Q:VK):Prop
 |mk(z i c:_)(h1:x=.str z)(h2:y=.int i)(h3:z.length<=mu)(h4:atI z.cps.toList i=Z c)(h5:Q (.str ⟨#[c]⟩) H)
def O4:IxR X (U7 X.K):=by
 intro value slice gd s σ H x y v u Q I rx ry h hs;let(p,xs,i,z,U,U,hq,he,q):=h;cases rx;let(t,U):=ry;let(its,r,P,hz):=I.list hq;let(j,h1,h2,h3,h4,h5):=zh he;let(w,ew,g):=r.get h2;have hl:=r.length;have hn:=kb;have fin:EP X gd σ Q w s:=(z,H,I,g,q);by_cases h0:0<=i
 ·have V:=by rw[seqIndex_of h0 h5]at h1;exact Option.some.inj h1
  exact item_listR P.isList h0 ap (by rw[V];simpa using ew) fin hs
 have V:(i+(its.toArray.size)).toNat=j:=by rw[seqIndex_neg ap h4]at h1;rw[qg,<- hl];exact Option.some.inj h1
 exact subscriptTail_builtinR P.isList.typeIs slot_list_getitem.lookup
  (wpAny_getItem_list_neg P.isList ap (by rw[qg] <;> lia) ap (by rw[V];simpa using ew) (U,fin)) hs
def Tr:IxR X (U5 X.K):=by
 intro value slice gd s σ H x y v u Q I rx V h hs;let(p,xs,i,z,U,U,hq,he,q):=h;cases rx;let(t,U):=V;let(its,r,P,hz):=I.tuple hq;let(j,h1,h2,h3,h4,h5):=zh he;let(w,ew,g):=r.get h2;have hl:=r.length;have hn:=kb;have fin:EP X gd σ Q w s:=(z,H,I,g,q);exact subscriptTail_builtinR P.typeIs slot_tuple_getitem.lookup
  (getItem_tuple P ap ap (by rw[qg,<- hl];exact h1) (ew:) (U,fin)) hs
def Ts:IxR X U6:=by
 intro value slice gd s σ H x y v u Q I K g h hs;let(z,i,c,U,U,hz,he,q):=h;let(t,U):=K;let(t',U):=g;let(j,h1,h2,h3,h4,h5):=zh he;have hl:z.cps.toList.length=z.length:=by simp[Str.length]
 rw[hl]at h1 h4 h5;have hn:=kb;exact tail_any (typeIs_str s z t) slot_str_getitem.lookup (getItem_str (by have V:decide (i < -(2 ^ 63))=false:=decide_eq_false ap;have P:decide (i ≥ 2 ^ 63)=false:=decide_eq_false ap;rw[V,P,Bool.or_false]) (by rw[h1];simpa using h2) (.str ⟨#[c]⟩,H,I.tok _,(_,U),q)) hs
def rIx(K:BT):R2:=λx y H Q=>U7 K x y H Q\/U5 K x y H Q\/U6 x y H Q
def C6:IxR X (rIx X.K):=O4.or (Tr.or Ts)
def CW(its:Δ)(n j:Nat)(u:B):QG (·.setIfInBounds j u) (its.toArray^^^n)=((its.set j u).toArray^^^n):=by simp[QG]
theorem Inv.lst{σ:St}(I:Inv X gd σ H s)(h:H p=Z (.lst xs)):
  ∃(its:Δ)(n:Nat),Vals xs its/\s.heap.get? p=Z (its.toArray^^^n)/\xs.length<=mu:=by
 let(z,its,n,r,e):=I.hok p _ h;exact(its,n,r,e,z)
def Inv.SY{σ:St}{s:ϋ}{p:J}{xs ys:Ω}{g:Δ}{z:Nat}{f:Obj->Obj}(I:Inv X gd σ H s)(h:H p=Z (.lst xs))
  (ho:s.heap.get? p=Z (its.toArray^^^n)) (hf:f (its.toArray^^^n)=(g.toArray^^^z)) (r:Vals ys g) (K:ys.length<=mu) (t:Nat):
  Inv X gd σ (upd H p (.lst ys)) {s with heap:=s.heap.update p f,toks:=t}:=by
 have e:(s.heap.update p f).get? p=Z (g.toArray^^^z):=by rw[Fo f ho (by rw[hf] <;> rfl),hf]
 exact I.write (x:=p) (e:=p) (by rw[h];trivial) (.inl U) (λb u P q=>(we _ _ (Ne.symm P)).trans q) (_,e) (K,g,z,r,e)
inductive Ji(o:V)(i:V)(v:V)(H:Hp)(Q:(Hp->Prop)):Prop
 |mk(p xs k j:_)(h1:o=.ref p)(h2:i=.int k)(h3:H p=Z (.lst xs))(h4:ixN xs.length k=Z j)(h5:Q (upd H p (.lst (xs.set j v))))
theorem set_list:Us X Ji:=by
 intro gd s σ H o i v ov iv u Q I z K rv h;let(p,xs,k,j,U,U,hp,V,q):=h;cases z;let(t,U):=K;let(its,n,r,ho,P):=I.lst hp;let(h1,h2,h3,h4):=EI V;have hl:=r.length;have hn:=kb;have g:=
  I.SY hp ho (CW its n j u) (r.set rv j) (by rw[Ye];exact P) s.toks
 by_cases h0:0<=k
 ·have hk:=by rw[seqIndex_of h0 h4]at h1;exact Option.some.inj h1
  exact W.ki_setAt ho h0 ap (by rw[qg,<- hl];exact h4) (by rw[hk];exact(_,g,q))
 have hk:(k+(its.toArray.size)).toNat=j:=by rw[seqIndex_neg ap h3]at h1;rw[qg,<- hl];exact Option.some.inj h1
 exact W.ki_setBack ho ap (by rw[qg,<- hl];exact h3) ap (by rw[hk];exact(_,g,q))
def xH(lo hi:Option Int)(n:Nat):(sliceBounds lo hi Y n).1=((HT.sIx n 0 lo:Nat):Int)/\(sliceBounds lo hi Y n).2.1=((HT.sIx n n hi:Nat):Int)/\(sliceBounds lo hi Y n).2.2=1:=by
 refine(?_,?_,U)
 ·cases lo with
  |none=>simp[sliceBounds,HT.sIx]|some i =>
   simp only[sliceBounds,HT.sIx,Option.getD_none,show(1:Int) > 0 by decide,if_true];by_cases h:i<0
   ·simp only[h,if_true] <;> first|exact HT.Iz _ _ h|omega
   simp only[h,if_false] <;> first|exact HT.Iy _ _ h|omega
 cases hi with
 |none=>simp[sliceBounds,HT.sIx]|some i =>
  simp only[sliceBounds,HT.sIx,Option.getD_none,show(1:Int) > 0 by decide,if_true];by_cases h:i<0
  ·simp only[h,if_true] <;> first|exact HT.Iz _ _ h|omega
  simp only[h,if_false] <;> first|exact HT.Iy _ _ h|omega
def vN(its:Δ)(lo hi:Option Int):slicePick its.toArray lo hi Y=((its.drop (HT.sIx its.length 0 lo)).take (HT.sIx its.length its.length hi-HT.sIx its.length 0 lo)).toArray:=by let(h1,h2,h3):=xH lo hi its.toArray.size;unfold slicePick;rw[h1,h2,h3];simp only[sliceRange_one,pick_run] <;> rfl
inductive U3(K:BT)(x:V)(lo:Option Int)(hi:Option Int)(H:Hp)(Q:VK):Prop
 |mk(a xs:_)(h1:x=.ref a)(h2:SqL K H a xs)(h3:∀p,H p=Y->Q (.ref p) (upd H p (.lst (og xs lo hi))))
def D8:SlR X (U3 X.K):=by intro gd s σ H x v vl vu lo hi sl Q I z hs P pu h;let(a,xs,U,hx,q):=h;cases z;let(its,r,g,V):=I.list hx;have hlen:=r.length;refine("list",_,slot_list_getitem.lookup,g.isList.typeIs,(wpAny_getItem_list_slice g.isList hs P pu .none ad ?_ (by rw[qg] <;> omega)));rw[vN,<- hlen];refine(.ref s.heap.objs.size,_,I.laid (λb ob q=>gs _ q) (kB _) ?_,U,q _ (I.hok.fresh (kB _)));exact(sF (qM xs lo hi) V,_,0,(r.drop (HT.sIx xs.length 0 lo)).take (HT.sIx xs.length xs.length hi-HT.sIx xs.length 0 lo),kD _ U)
def gO:V->Bool
 |.non=>O|.bl _=>O|.int _=>O|.str _=>O|_=>ϊ
def eqV:V->V->Bool
 |.non,.non=>O|.bl a,.bl b=>a==b|.bl a,.int b=>(if a then 1 else 0)==b|.int a,.bl b=>a ==(if b then 1 else 0)|.int a,.int b=>a==b|.str a,.str b=>a==b|_,_=>ϊ
def Dj{s:ϋ}{x:V}{v:B}(q:RelV y u)(g:RelV x v)(z:gO y=O)(fx:gO x=O):SeqAt.EqAt A s u v (eqV y x):=by
 cases y with
 |non =>
  cases q;cases x with
  |non=>cases g;exact SeqAt.EqAt.same _
  |bl b=>cases g;exact SeqAt.EqAt.none_bool b
  |int b=>let(t,U):=g;exact SeqAt.EqAt.none_int b t|str b=>let(t,U):=g;exact SeqAt.EqAt.none_str b t|_=>exact absurd (fx) rF
 |bl a =>
  cases q;cases x with
  |non=>cases g;exact SeqAt.EqAt.bool_none a
  |bl b=>cases g;exact SeqAt.EqAt.bool_bool a b
  |int b=>let(t,U):=g;exact SeqAt.EqAt.bool_int a b t|str b=>let(t,U):=g;exact SeqAt.EqAt.bool_str a b t|_=>exact absurd (fx) rF
 |int a =>
  let(t',U):=q;cases x with
  |non=>cases g;exact SeqAt.EqAt.int_none a t'
  |bl b=>cases g;exact SeqAt.EqAt.int_bool a t' b
  |int b=>let(t,U):=g;exact SeqAt.EqAt.int_int a t' b t|str b=>let(t,U):=g;exact SeqAt.EqAt.int_str a t' b t|_=>exact absurd (fx) rF
 |str a =>
  let(t',U):=q;cases x with
  |non=>cases g;exact SeqAt.EqAt.str_none a t'
  |bl b=>cases g;exact SeqAt.EqAt.str_bool a t' b
  |int b=>let(t,U):=g;exact SeqAt.EqAt.str_int a t' b t|str b=>let(t,U):=g;exact SeqAt.EqAt.str_str a t' b t|_=>exact absurd (fx) rF
 |_=>exact absurd (z) rF
def eqU(x:V)(u:B):Bool:=match u with|.none=>eqV .non x|.bool b=>eqV (.bl b) x|.int i _=>eqV (.int i) x|.str z _=>eqV (.str z) x|_=>ϊ
def LC{x:V}(r:RelV y u)(f:gO y=O):eqU x u=eqV y x:=by
 cases y with
 |non=>cases r;rfl
 |bl b=>cases r;rfl
 |int i=>let(t,U):=r;rfl|str z=>let(t,U):=r;rfl|_=>exact absurd (f) rF
theorem ot:∀{xs:Ω}{us:Δ},Vals xs us->xs.all gO=O->us.any (eqU x)=xs.any λy=>eqV y x
 |_,_,.nil,_=>rfl|y::xs,u::us,.cons r t,f=>by
  rw[List.all_cons,uj]at f;rw[YI,YI,LC r f.1,ot t f.2]
theorem ka(q:RelV x v)(fx:gO x=O):∀{xs:Ω}{us:Δ},Vals xs us->xs.all gO=O->∀u∈us,SeqAt.EqAt A s u v (eqU x u)
 |_,_,.nil,_=>λu g=>by cases g
 |y::xs,u::us,.cons r t,f=>λu' g=>by
  rw[List.all_cons,uj]at f;obtain rfl|g:=kC.mp g
  ·rw[LC r f.1];exact Dj r q f.1 fx
  exact ka q fx t f.2 u' g
def inV(x:V)(xs:Ω):Bool:=xs.any λy=>eqV y x
inductive rIn(K:BT)(neg:Bool)(x:V)(y:V)(H:Hp)(Q:VK):Prop
 |mk(p xs:_)(h1:y=.ref p)(h2:(SqL K H p xs\/SqT K H p xs))(h3:gO x=O)(h4:xs.all gO=O)(h5:Q (.bl (if neg then !inV x xs else inV x xs)) H)
def GI:OpR X (compareOp .In) (rIn X.K ϊ):=by
 intro gd s σ H x y v u Q I z P h;let(p,xs,U,hq,fx,fs,q):=h;cases P;obtain hq|hq:=hq
 ·let(its,r,g,V):=I.list hq;refine SeqAt.in_listAt (eqU x) g.isList (λw hw=>ka z fx r fs w (hw:)) (.bl _,H,I,U,?_);rw[show its.toArray.any (eqU x)=its.any (eqU x)by simp,ot r fs];exact q
 let(its,r,g,V):=I.tuple hq;refine SeqAt.in_tupleAt (eqU x) g (λw hw=>ka z fx r fs w (hw:)) (.bl _,H,I,U,?_);rw[show its.toArray.any (eqU x)=its.any (eqU x)by simp,ot r fs];exact q
def yw:OpR X (compareOp .NotIn) (rIn X.K O):=by
 intro gd s σ H x y v u Q I z P h;let(p,xs,U,hq,fx,fs,q):=h;cases P;obtain hq|hq:=hq
 ·let(its,r,g,V):=I.list hq;refine SeqAt.notIn_listAt (eqU x) g.isList (λw hw=>ka z fx r fs w (hw:)) (.bl _,H,I,U,?_);rw[show its.toArray.any (eqU x)=its.any (eqU x)by simp,ot r fs];exact q
 let(its,r,g,V):=I.tuple hq;refine SeqAt.notIn_tupleAt (eqU x) g (λw hw=>ka z fx r fs w (hw:)) (.bl _,H,I,U,?_);rw[show its.toArray.any (eqU x)=its.any (eqU x)by simp,ot r fs];exact q
def oj:cL X (.builtin "len") (λxs H Q=>∃p ys,xs=[.ref p]/\(SqL X.K H p ys\/SqT X.K H p ys)/\Q (.int ys.length) H):=by
 intro gd s σ H xs us Q I r h;let(p,ys,U,hq,q):=h;let(u,U,P):=vals1 r;cases P;have hn:=kb;obtain hq|hq:=hq
 ·let(its,g,z,V):=I.list hq;have hlen:=g.length;exact Calls.call_len_list z.isList (by rw[qg,<- hlen];exact w6 (by assumption)) (.int ys.length,H,I.tok _,(s.toks+1,by rw[qg,hlen]),q)
 let(its,g,z,V):=I.tuple hq;have hlen:=g.length;exact len_tuple z (by rw[qg,<- hlen];exact w6 (by assumption)) (.int ys.length,H,I.tok _,(s.toks+1,by rw[qg,hlen]),q)
def ze:cL X (.builtin "len") (λxs H Q=>∃z,xs=[.str z]/\z.length<=mu/\Q (.int z.length) H):=by intro gd s σ H xs us Q I r h;let(z,U,g,q):=h;let(u,U,t,U):=vals1 r;have hn:=kb;exact len_str ap (.int z.length,H,I.tok _,(_,U),q)
def cL.or{f:B}{g:Ω->Hp->VK->Prop}(h:cL X f r)(h':cL X f g):cL X f (λxs H Q=>r xs H Q\/g xs H Q):=by
 intro gd s σ H xs us Q I rs q;obtain q|q:=q
 ·exact h gd s σ H xs us Q I rs q
 exact h' gd s σ H xs us Q I rs q
def zd:cL X (.type "list") (λxs H Q=>∃ p ys,xs=[.ref p]/\(SqL X.K H p ys\/SqT X.K H p ys)/\∀l,H l=Y->Q (.ref l) (upd H l (.lst ys))):=by
 intro gd s σ H xs us Q I r h;let(p,ys,U,hq,q):=h;let(u,U,rx):=vals1 r;cases rx;have fin:∀its,Vals ys its->ys.length<=mu->∀h' P,(∀b o',s.heap.get? b=Z o'->h'.get? b=Z o') ->
   h'.get? s.heap.objs.size=Z {cls:=.type "list",dict:=Y,data:=.seq its.toArray P,slots:=#[]}->EP X gd σ Q (.ref s.heap.objs.size) {s with heap:=h'}:=λits g z h' P kp e =>
  (.ref s.heap.objs.size,_,I.laid kp (kB _) (show di X.prog X.w _ h' _ (.lst ys)from(z,its,P,g,e)),U,q _ (I.hok.fresh (kB _)))
 obtain hq|hq:=hq
 ·let(its,g,V,z):=I.list hq;have hlen:=g.length;let(o,ho,hc,n,hd):=V.isList;exact call_list_seq p (.inl U) ho hc hd (λh' P kp e=>fin its g z h' P kp e) (by rw[qg,<- hlen];exact z)
 let(its,g,V,z):=I.tuple hq;have hlen:=g.length;let(o,ho,hc,n,hd):=V;exact call_list_seq p (.inr U) ho hc hd (λh' P kp e=>fin its g z h' P kp e) (by rw[qg,<- hlen];exact z)
def wm:cL X (.type "tuple") (λxs H Q=>∃p ys,xs=[.ref p]/\((SqL X.K H p ys/\∀l,H l=Y->Q (.ref l) (upd H l (.tup ys)))\/(SqT X.K H p ys/\Q (.ref p) H))):=by
 intro gd s σ H xs us Q I r h;let(p,ys,U,h):=h;let(u,U,rx):=vals1 r;cases rx;obtain⟨hq,q⟩|⟨hq,q⟩:=h
 ·let(its,g,z,P):=I.list hq;have hlen:=g.length;refine call_tuple_list z.isList (λh' kp=>?_) (by rw[qg,<- hlen];exact P);have V:=I.kept (t':=s.toks) kp;have I2:=
   V.laid (t':=s.toks) (λb o e=>gs _ e) (kB _) (show di X.prog X.w _ _ _ (.tup ys)from(P,its,g,mI.new _ _))
  exact(.ref h'.objs.size,_,I2,U,q _ (V.hok.fresh (kB _)))
 let(its,g,z,P):=I.tuple hq;exact call_tuple_same z (.ref p,H,I,U,q)
def tyV(K:BT)(T:String)(x:V)(H:Hp):Prop:=match x with
 |.str _=>T="str"|.int _=>T="int"|.ref p=>(T="list" /\ ∃xs,SqL K H p xs)\/(T="tuple" /\ ∃o,K.lookup p=Z o/\o.cls=.type "tuple" /\ o.dict=Y) \/
   (T="dict" /\ ((∃kvs,H p=Z (.dK kvs))\/∃kvs,H p=Z (.dT kvs)))\/(T="set" /\ ∃S n,H p=Z (.set S n))
 |_=>False
def Ie{σ:St}{s:ϋ}{T:String}{x:V}{v:B}(I:Inv X gd σ H s)(r:RelV x v)(ty:tyV X.K T x H):
  s.TypeIs v T/\∀a,v=.ref a->∃ob,s.heap.get? a=Z ob/\ob.dict=none:=by
 cases x with
 |str z =>
  let(t,U):=r;cases(ty);exact(typeIs_str s z t,λ_ e=>nomatch e)
 |int i =>
  let(t,U):=r;cases(ty);exact(typeIs_int s i t,λ_ e=>nomatch e)
 |ref p =>
  cases r;obtain⟨rfl,xs,hq⟩|⟨rfl,o,hk,P,hd⟩|⟨rfl,hk⟩|⟨rfl,S,n,hk⟩:=ty
  ·let(its,_,q,_):=I.list hq;refine(q.isList.typeIs,λa e=>?_);cases e;let(o,n,e,c,hd,_):=q;exact(o,e,hd)
  ·refine((o,I.kIn p o hk,P),λa e=>?_);cases e;exact(o,I.kIn _ o hk,hd)
  ·have z:∃o,s.heap.get? p=Z o/\o.ExactDict:=by
    obtain⟨kvs,hk⟩|⟨kvs,hk⟩:=hk
    ·let(_,_,_,_,o,_,_,e,ex,_):=I.hok p _ hk;exact(o,e,ex)
    let(_,_,_,_,o,_,_,e,ex,_):=I.hok p _ hk;exact(o,e,ex)
   let(o,e,ex):=z;refine((o,e,ex.1),λa g=>?_);cases g;exact(o,e,ex.2.1)
  let(o,_,_,_,e,ex,_):=I.hok p _ hk;refine((o,e,ex.1),λa g=>?_);cases g;exact(o,e,ex.2.1)
 |_=>exact False.elim ty
def Rr(K:BT)(T:String)(r:V->Ω->Hp->VK->Prop)(to:TE):TE:=λσ H Q=>to σ H λx H1=>tyV K T x H1/\r x [] H1 Q
def tBM(K:BT)(T:String)(r:V->Ω->Hp->VK->Prop)(to:TE)(t:TA):TE:=λσ H Q=>to σ H λx H1=>tyV K T x H1/\t σ H1 λxs H2=>r x xs H2 Q
variable{o e:Ev}{es:List Ev}{to:TE}{t:TA}{name:Str}{apos aY:Pos}{T id:String}{r:V->Ω->Hp->VK->Prop}
def Kl(pa:PlainAttrs T)(slot:Slot T name id)(g:typeOf (.builtin id)=pure (.type "method_descriptor"))(hm:MtR X id r)(ho:PE X o to)
  (cQ:‹attributeBase o name X.env (eval o X.env)=eval o X.env›) (cP:‹(apos.endLine==aY.line)=true›):PE X (.Call (.Attribute o name apos) [] [] aY) (Rr X.K T r to):=by
 left;refine wpAny_Call_method0_late cQ cP (thn (ho gd s σ H _ I h) λv s1 q=>?_);let(x,H1,P,z,ty,V):=q;let(h1,h2):=Ie P z ty;exact(T,id,pa,slot,g,h1,h2,Calls.callWith_builtin U (PySem.evalArgs_none (hm gd s1 σ H1 x [] v [] Q P z .nil V)))
def Et(pa:PlainAttrs T)(slot:Slot T name id)(g:typeOf (.builtin id)=pure (.type "method_descriptor"))(hm:MtR X id r)(ho:PE X o to)(ha:PA X (e::es) t)
  (cQ:‹attributeBase o name X.env (eval o X.env)=eval o X.env›)
  (pS:‹((backTo aY (mJ (e::es) X.env)).all (λx=>!x.1)&&(backToKw aY (keywordEach [] X.env)).all (λx=>x.1.isSome)
&& decide ((e::es).length+([]:List Keyword).length+(if([]:List Keyword).isEmpty then 0 else 1)<30))=true›)
  (cP:‹(apos.endLine==aY.line)=true›) (hs:‹AC X e es›) (fi:‹AM X aY es›):
  PE X (.Call (.Attribute o name apos) (e::es) [] aY) (tBM X.K T r to t):=by
 left;refine wpAny_Call_method_late cQ pS cP U (thn (ho gd s σ H _ I h) λv s1 q=>?_);let(x,H1,V,z,ty,q1):=q;let(h1,h2):=Ie V z ty;refine(T,id,pa,slot,g,h1,h2,?_);have P:=ha aY gd s1 σ H1 _ V q1;rw[hs]at P ⊢;exact Calls.callWith_builtin (by show(ϊ ||(backTo aY (mJ es X.env)).any (·.1))=ϊ;rw[fi] <;> rfl) (Calls.evalArgs_plain (thn P λus s2 (vs,H2,I2,r2,q2)=>hm gd s2 σ H2 x vs v us Q I2 z r2 q2))
end
def MtM(X:Cx)(id:String)(r:V->Ω->Hp->VK->Prop):Prop:=
 ∀(gd:Ξ)(s:ϋ)(σ:St)(H:Hp)(x:V)(xs:Ω)(v:B)(us:Δ)(Q:VK),Inv X gd σ H s->RelV x v->Vals xs us->r x xs H Q ->
  XV X (call (.builtin id) (v::us)) (EP X gd σ Q) X.xe s
def Vals.one:∀{x:V}{us:Δ},Vals [x] us->∃u,us=[u]/\RelV x u:=by intro x us h;cases h with|cons r t=>cases t;exact(_,U,r)
theorem Vals.zero:∀{us:Δ},Vals [] us->us=[]
 |_,.nil=>rfl
theorem Vals.dropLast(h:Vals xs us):Vals xs.dropLast us.dropLast:=by induction h with|nil=>exact .nil|cons r t g =>cases t with|nil=>exact .nil|cons q t'=>exact .cons r g
theorem Vals.reverse(h:Vals xs us):Vals xs.reverse us.reverse:=by induction h with|nil=>exact .nil|cons r t g=>rw[Y5,Y5];exact Vals.append g (.cons r .nil)
def Di{α:Type}(l:List α):l.eraseIdx (l.length-1)=l.dropLast:=by
 induction l with
 |nil=>rfl|cons a r g =>
  cases r with
  |nil=>rfl|cons b r =>
   have e:(a::b::r).length-1=((b::r).length-1)+1:=by rfl
   rw[e,List.eraseIdx_cons_succ,g];all_goals rfl
variable{t':Nat}
section
variable{X:Cx}{σ:St}{s:ϋ}{l:J}{xs ys:Ω}
def Inv.S0{f:Array B->Array B}{t':Nat}(I:Inv X gd σ H s)(Q:H l=Z (.lst xs))
  (e:s.heap.get? l=Z (its.toArray^^^n)) (hf:f its.toArray=g.toArray) (hv:Vals ys g) (z:ys.length<=mu):
  Inv X gd σ (upd H l (.lst ys)) {s with heap:=s.heap.update l (QG f),toks:=t'}:=by
 have q:=PySem.IsL.update e f;rw[hf]at q;exact I.write (x:=l) (e:=l) (by rw[Q];exact trivial) (.inl U) (λb' u P K=>(we s.heap (QG f) (Ne.symm P)).trans K) (_,q) (z,g,_,hv,q)
def Inv.Xj(I:Inv X gd σ H s)(hv:Vals ys its)(g:ys.length<=mu):
  Inv X gd σ (upd H s.heap.objs.size (.lst ys)) {s with heap:=s.heap.push (~~~its.toArray),toks:=t'}:=
 I.laid (λ_ _ q=>gs _ q) (kB _) (g,its,0,hv,kD _ U)
theorem Inv.fresh(I:Inv X gd σ H s):H s.heap.objs.size=none:=I.hok.fresh (kB _)
def Inv.GW(I:Inv X gd σ H s)(g:H l=Z (.lst xs)):xs.length<=mu/\∃(its:Δ)(n:Nat),Vals xs its/\xs.length=its.length/\s.heap.get? l=Z (its.toArray^^^n):=by let(z,its,n,r,e):=I.hok l _ g;exact(z,its,n,r,r.length,e)
def KG(h:n<=mu):Builtin.List.listTooLong n=false:=by exact decide_eq_false ap
end
section
variable{X:Cx}
inductive rP(x:V)(vs:Ω)(H:Hp)(Q:VK):Prop
 |mk(l xs y:_)(h1:x=.ref l)(h2:vs=[y])(h3:H l=Z (.lst xs))(h4:xs.length<mu)(h5:Q .non (upd H l (.lst (xs++[y]))))
theorem GU:MtM X "list.append" rP:=by intro gd s σ H x vs v us Q I K rv h;let(l,xs,y,U,U,g,P,q):=h;cases K;let(u,U,ru):=rv.one;let(z,its,n,r,hl,e):=I.GW g;refine call_meets F.slot_list_append (_,e,U) F.entry_list_append (F.args_list_append_2 _ _) (PySem.list_append l its.toArray n u (by rw[qg];lia)) (e,?_);refine(.non,_,I.S0 g e ad (r.append (.cons ru .nil)) ?_,U,q);rw[j3,zq];lia
inductive rO(x:V)(vs:Ω)(H:Hp)(Q:VK):Prop
 |mk(l b xs zs:_)(h1:x=.ref l)(h2:vs=[.ref b])(h3:H l=Z (.lst xs))(h4:H b=Z (.lst zs))(h5:xs.length+zs.length<=mu)(h6:Q .non (upd H l (.lst (xs++zs))))
theorem GS:MtM X "list.extend" rO:=by
 intro gd s σ H x vs v us Q I P rv h;let(l,b,xs,zs,U,U,K,hB,hz,q):=h;cases P;let(u,U,ru):=rv.one;cases ru;let(z,its,n,r,hl,e):=I.GW K;let(z2,g,n2,V,ak,e2):=I.GW hB;have hsz:its.toArray.size+g.toArray.size<=mu:=by rw[qg,qg];lia
 have V6:¬(!its.toArray.isEmpty&&Builtin.List.listTooLong (its.toArray.size+g.toArray.size))=true:=by rw[KG hsz,ZP];exact rF
 refine call_meets F.slot_list_extend (_,e,U) F.entry_list_extend (F.args_list_extend_2 _ _)
  (AutoSeq1.list_extend_list_list_0 l its.toArray n b g.toArray n2 V6 (by rw[qg];lia) ap) (e,e2,?_)
 refine(.non,_,I.S0 K e ad (r.append V) ?_,U,q);rw[j3];omega
inductive RJ(x:V)(vs:Ω)(H:Hp)(Q:VK):Prop
 |mk(l xs y:_)(h1:x=.ref l)(h2:vs=[])(h3:H l=Z (.lst xs))(h4:xs[xs.length-1]?=Z y)(h5:Q y (upd H l (.lst xs.dropLast)))
theorem KP:MtM X "list.pop" RJ:=by
 intro gd s σ H x vs v us Q I V rv h;let(l,xs,y,U,U,P,hy,q):=h;cases V;have K:=rv.zero;subst K;let(z,its,n,r,hl,e):=I.GW P;let(u,hu,ru):=r.get hy;have g:=by show its.toArray[its.length-1]?=Z u;rw[<- Zb,<- hl];exact hu
 refine call_meets F.slot_list_pop (_,e,U) F.entry_list_pop (F.args_list_pop_1 _) (MeetsSeq.list_pop_last l its.toArray n u g (by rw[qg];lia)) (e,?_);refine(y,_,I.S0 P e ?_ r.dropLast ?_,ru,q)
 ·rw[qg,List.eraseIdxIfInBounds_toArray,Di]
 rw[List.length_dropLast];lia
inductive Vb(x:V)(y:V)(H:Hp)(Q:VK):Prop
 |mk(l b xs zs:_)(h1:x=.ref l)(h2:y=.ref b)(h3:H l=Z (.lst xs))(h4:H b=Z (.lst zs))(h5:xs.length+zs.length<=mu)(h6:∀p,H p=Y->Q (.ref p) (upd H p (.lst (xs++zs))))
def SM:OpR X (binaryOp .Add) Vb:=by
 intro gd s σ H x y v u Q I V K h;let(l,b,xs,zs,U,U,hH,hB,hz,q):=h;cases V;cases K;let(z,its,n,r,hl,e):=I.GW hH;let(z2,g,n2,r2,ak,e2):=I.GW hB;refine PySem.P.add_list e e2 ?_ (by rw[qg,qg];omega);have ea:its.toArray++g.toArray=(its++g).toArray:=by simp
 rw[ea];exact(.ref _,_,I.Xj (r.append r2) (by rw[j3];omega),U,q _ I.fresh)
end
end L2
namespace Att
open PySem PySem.W PySem.Calls PyProof.Rows
def qZ:∀(ns:Ψ)(vs:Δ),WellAll P h vs (ns.map WData.int)->IntsAre vs ns:=by
 intro ns;induction ns with
 |nil =>
  intro vs w;cases w;exact .nil
 |cons n ns g =>intro vs w;cases w with|cons a b =>cases a;exact .cons _ _ (g _ b)
def Gb{l:OpenLaw}{n:Nat}(hn:l.most=Z n){P:Params}{h:Do}{args:List WData}{vals:Δ}
  (hpre:l.row.toRowW.claim.pre args=O) (g:WellAll P h vals args):
  ∃a vs ns,vals=[B.ref a]/\args=[WData.list (ns.map WData.int)]/\h.get? a=Z (~~~vs.toArray)/\IntsAre vs ns/\ns.length<=n:=by
 have q:WShape.hasAll [] args [.list .int]=true:=(pre_splitW hpre).1;have Q:l.pre.holds [] {args:=args}=true:=(pre_splitW hpre).2;let(d,r,U,h1,h2):=hasAllW_cons q;obtain rfl:=hasAllW_nil h2;let(xs,U,h3):=hasW_list h1;let(ns,U):=items_int h3;have hlen:=by
  have h4:=by have h4:=(holds_andW Q).1;rw[hn]at h4;exact h4
  have h5:=condW_of h4 (w_not (w_lt w_lit (w_len_list (w_arg U))));first
   | (exact absurd h5 ac)| (simp at h5;omega)
 cases g with|cons K z =>cases z;cases K with|list ho V=>exact(_,_,ns,U,U,ho,qZ ns _ V,hlen)
def GB(l:OpenLaw)(args:List WData):l.row.toRowW.claim.post args (.bool O) args=true:=
 postW_of
  ba
  (w_eq_bool (w_res U) w_lit) U
def Br{l:OpenLaw}{n:Nat}{q:Da}{loose:Γ}{XP:(Υ)->Do->Prop}{YP:Cl->Do->Prop}{d:DefRec}
  (hn:l.most=Z n) (P:d.params.defaults=[])
  (call:∀(w:Cl)(s₀ g:ϋ)(mg mb:Υ)(z:J)(o:Obj)(pm cd doc:B)(a:J)(vs:Δ)(ns:Ψ),
Ground q loose [] XP w s₀ mg mb g.heap->YP w g.heap ->
g.heap.get? z=Z o->o.data=.func (docDef d.name d.params d.body d.scope pm cd doc)->g.heap.CodeRec cd d.name->mg d.name=Z (.ref z) ->
g.heap.get? a=Z (~~~vs.toArray)->IntsAre vs ns->ns.length<=n->g.gens=#[] ->
codeAny (model l.prog w) callerA (.call (.ref z) ([.ref a],[])) (λr s'=>r=.ok (.ret (.bool O))/\OldK g.heap s'.heap/\s'.os=g.os/\AllBare s'.gens) g):
  WalkO q loose XP YP l.row.toRowW d [] (λf vs=>PySem.call f vs):=by
 intro w s₀ g mg mb G ύ z o pm cd doc dV kV ho hd Q V hmg hg args vals as hpre Yk ak K ar;obtain rfl:=Dflts.none V P;obtain rfl:=Dflts.noKw V;let(a,vs,ns,U,U,TN,hints,hlen):=Gb hn hpre K;refine enter_call (codeAny_mono (call w s₀ g mg mb z o pm cd doc a vs ns G ύ ho (fd_plain hd) Q hmg TN hints hlen hg) λr s' hq=>?_);let(U,h2,h3,h4):=hq;exact(.inl (.bool O,.bool O,[],U,λ_=>rfl,.bool O,GB l _,λ_=>(List.Pairwise.nil,λ_ hm=>(nomatch hm))),h2,h3,h4)
section
def ledger(h:Do)(L d:J):Ξ:=(Fs h.objs.size).filterMap λa=>if a=L\/a=d then Y else(h.get? a).map λo=>(a,o)
end
end Att
namespace L2
open PySem PySem.Spec PyProof.Rows
variable{ns:Ψ}
def wB(h:IntsAre vs ns):Vals (ns.map V.int) vs:=by induction h with|nil=>exact .nil|cons n t _ g=>exact .cons (t,U) g
def PY(H:Hp):Prop:=∀b,H b=Y\/∃o xs,H b=Z (.frz o (.lst xs))
variable{mg:Υ}{a:J}{x:Str}
theorem K0{P:Da}{w:Cl}{K:BT}{mb:Υ}{CX:CXT}{k:Nat}{fa:J}{fd:Ch}{sp:Sp}{g:ϋ}{vs:Δ}
  (KX:K.In g.heap) (ar:g.heap.Ns mainGlobals mg) (Q:g.heap.Ns builtinsNs mb) (aQ:∀x:Str,x ≠ "__name__"->mb x=bootBuiltins x) (XH:g.heap.NoLimit) (hg:g.gens=#[])
  (ha:g.heap.get? a=Z (~~~vs.toArray)) (hi:IntsAre vs ns) (hl:ns.length<=mu) (hr:e7 k callerA)
  (F:∀base:Do,K.In base->base.Ns mainGlobals mg->bg P w K mg base CX k fa fd [x] sp) (Wg:∀(s:ϋ)(u:B),BindsTo s fd ([u],[]) [(x,u)])
  (aP:∀H:Hp,PY H->SqL K H a (ns.map V.int)->sp [.ref a] H (λv _=>v=.bl O) λ_ _ _=>False)
  (aW:∀H e s',CX [] H g (λ_ _ _=>False) e s'->False):
  codeAny (model P w) callerA (.call (.ref fa) ([.ref a],[])) (λr s'=>r=.ok (.ret (.bool O))/\OldK g.heap s'.heap/\s'.os=g.os/\AllBare s'.gens) g:=by
 have rv:=wB hi;have Xl:=hi.length;have core:∀H,PY H->SqL K H a (ns.map V.int)->HOk P w H g.heap->(∀b,H b≠Y->b=a)->(H a≠Y->K.lookup a=Y) ->
   codeAny (model P w) callerA (.call (.ref fa) ([.ref a],[])) (λr s'=>r=.ok (.ret (.bool O))/\OldK g.heap s'.heap/\s'.os=g.os/\AllBare s'.gens) g:=by
  intro H hO hS hok hA hK;have Fj:∀{b:J}{o:Obj},g.heap.get? b=Z o->H b=Y->(AZ g.heap H).get? b=Z o:=λe n=>Lu e n;have ay:∀{b:J}{o:Obj}{es:Array DictEntry}{ep:Nat},g.heap.get? b=Z o->o.data=.dict es ep->H b=none:=λ{b o es ep} e d=>by
   cases q:H b with|none=>rfl|some u =>have e':=hA b (by rw[q];simp);subst e';rw[ha]at e;cases e;have d':=d;cases d'
  have ak:∀{b:J}{m:Υ},g.heap.Ns b m->(AZ g.heap H).Ns b m:=λ{b m} (o,es,ep,e,d,r)=>(o,es,ep,Fj e (ay e d),d,r);have av:=λb o e=>Fj (KX b o e) (by
   cases q:H b with
   |none=>rfl|some u =>
    have e':=hA b (by rw[q];simp);subst e';rw[hK (by rw[q];simp)]at e;cases e)
  have hM:Mod K mg (AZ g.heap H):=(av,ak ar,(mb,ak Q,aQ),let(mc,h1,h2):=XH;(mc,ak h1,h2));have e0:DH P w K mg (AZ g.heap H) callerA [] g H:=(U,hM,λb o e=>OM e,Nat.le_of_eq (Hc _ _),trivial,λb Q=>absurd (show b∈([])from Q) ad,hok,.of_eq hg);refine codeAny_mono ((F _ av (ak ar)).run callerA [] g H ([.ref a],[]) [.ref a] [.ref a] _ _ hr e0 (Wg g (.ref a)) (.cons U .nil) (aP H hO hS)) λr s' h=>?_;cases r with
  |error e=>exact(aW H e s' h).elim|ok fl =>
   cases fl with
   |next=>exact False.elim h|brk=>exact False.elim h|cont=>exact False.elim h|ret u =>
    let(v,H',os,bare,un,XA,r',q):=h;have q':=q;subst q';obtain rfl:=r';refine(U,OldK.of_keep λb o e=>?_,os,bare);cases q:H b with
    |none=>exact un.keep b o e q (by intro z;exact absurd (show b∈([])from z) ad) ad|some u =>
     obtain z |⟨ob,xs,z⟩:=hO b
     ·rw[q]at z;cases z
     have z2:=un.k9 b ob _ z;let(e1,_):=hok b _ z;let(e2,_):=XA b _ z2;rw[e]at e1;cases e1;exact e2
 cases hk:K.lookup a with
 |some o =>
  have e:=KX a o hk;rw[ha]at e;cases e;refine core (λ_=>Y) (λ_=>.inl U) (.inr (_,vs.toArray,_,hk,U,U,U,by rw[qg,Xl];exact hl,(rv:))) (λb u z=>by have z':=z;cases z') (λb z=>absurd U z) λz=>absurd U z
 |none =>
  refine core (λb=>if b=a then Z (.frz (~~~vs.toArray) (.lst (ns.map V.int)))else Y) (λb=>?_) (.inl (.inr ((~~~vs.toArray),if_pos U))) (λb u z=>?_) (λb z=>?_) λ_=>hk
  ·by_cases Q:b=a
   ·exact .inr (_,_,if_pos Q)
   exact .inl (if_neg Q)
  ·by_cases Q:b=a
   ·have z':=(if_pos Q).symm.trans z;cases z';subst Q;exact(ha,by rw[cU];exact hl,vs,_,rv,ha)
   have z':=(if_neg Q).symm.trans z;cases z'
  by_cases Q:b=a
  ·exact Q
  exact absurd (if_neg Q) z
variable{n:Nat}
theorem MN{l:W.OpenLaw}{k:Nat}{q:Da}{loose:Γ}{XP:(Υ)->Do->Prop}{YP:Cl->Do->Prop}{d:DefRec}{K:Params->BT}{CX:Cl->CXT}{sp:Cl->Sp}
  (hn:l.most=Z n) (ak:n<=mu) (ar:d.params.defaults=[]) (hr:e7 k callerA)
  (hY:∀(w:Cl)(h:Do),YP w h->(K w.params).In h)
  (F:∀(w:Cl)(mg:Υ)(P:J)(h:Do),(K w.params).In h->h.Ns mainGlobals mg->mg d.name=Z (.ref P) ->
∃fd:Ch,(∀(s:ϋ)(u:B),BindsTo s fd ([u],[]) [(x,u)]) /\
∀base:Do,(K w.params).In base->base.Ns mainGlobals mg->bg l.prog w (K w.params) mg base (CX w) k P fd [x] (sp w))
  (Q:∀(w:Cl)(H:Hp)(a:J)(ns:Ψ),ns.length<=n->PY H->SqL (K w.params) H a (ns.map V.int)->sp w [.ref a] H (λv _=>v=.bl O) λ_ _ _=>False)
  (av:∀(w:Cl)(H:Hp)(s:ϋ)(e:B)(s':ϋ),CX w [] H s (λ_ _ _=>False) e s'->False):
  W.WalkO q loose XP YP l.row.toRowW d [] (λf vs=>PySem.call f vs):=by
 refine Att.Br hn ar λw s₀ z mg mb P o pm cd doc a vs ns G ύ ho hd ay hmg TN hints hlen hg=>?_;have KX:=hY w _ ύ;let(fd,hb,hF):=F w mg P _ KX G.T.g hmg;exact K0 KX G.T.g G.T.b G.T.builtins G.T.nolimit hg TN hints (sF hlen ak) hr hF hb (λH hO hS=>Q w H a ns hlen hO hS) λH e s'=>av w H z e s'
def inClass(s:EQ)(j:Nat):EQ:=match s with|.ClassDef _ _ _ body _ _ _ _ _ _ _=>body.getD j (.Pass (0,0,0,0))|_=>.Pass (0,0,0,0)
def dJ(s:EQ):Arguments:=match s with|.FunctionDef _ a _ _ _ _ _ _ _ _=>a|_=>{posonlyargs:=[],args:=[],vararg:=Y,kwonlyargs:=[],kw_defaults:=[],kwarg:=Y,defaults:=[]}
def cy(s:EQ):List EQ:=match s with|.FunctionDef _ _ b _ _ _ _ _ _ _=>b|_=>[]
def ax(s:EQ):Scope:=match s with|.FunctionDef _ _ _ _ _ _ sc _ _ _=>sc|_=>{kind:=.function,names:=[],isGenerator:=ϊ,isCoroutine:=ϊ}
abbrev CX0:CXT:=λ_ _ _ _ _ _=>False
abbrev E0:XK:=λ_ _ _=>False
variable{X:Cx}
def Km:Passes CX0 X E0:=λ_ _ _ _ _ _ _ h=>h.elim
structure Fun(K:BT)(x qual:Str)(st:EQ)(f:J)(fd:Ch):Prop where
 ex:∃(oc:B)(od:Option J)(kV doc pm:B)(an:Option J)(cdv ct:B)(osl:Array (Option B)),
  fd=W.fnOf x qual (dJ st) (cy st) (ax st) .none kV doc pm an cdv ct/\K.lookup f=Z (oc,od,.func fd,osl)/\W.codeIn K cdv qual=O
 kp:W.keepIn K (.ref f)=O
variable{qual:Str}{st:EQ}{fd:Ch}{N:Γ}{ps:Γ}{sp:Sp}{oc:B}{od:Option J}{an:Option J}{pm:B}{ct:B}
section
variable{P:Da}{w:Cl}{K:BT}{base:Do}
theorem Fun.ok(F:Fun K x qual st f fd)(S:aH N ps (ax st))(len:∀vs H Q E,sp vs H Q E->vs.length=ps.length)
  (uO:∀(cdv:B)(A:Db)(outer:List Env)(s:ϋ)(H:Hp)(vs:Ω)(Q:VK)(E:XK),e7 k (A.deeper (envOfC qual (ax st) s.heap.objs.size f cdv))->sp vs H Q E ->
∃t,PSs (zb CX0 P w K mg base N qual (ax st) f cdv A outer s H E).nox (cy st) t/\t {nx:=λ_ H'=>Q .non H',rt:=Q} (start N vs) H):bg P w K mg base CX0 (k+1) f fd ps sp:=by
 let(oc,od,kV,doc,pm,an,cdv,ct,osl,U,lk,z):=F.ex;refine Wn lk z S len λA outer s H vs Q E hr g=>?_;let(t,h,q):=uO cdv A outer s H vs Q E hr g;exact(t,h.nox,q)
theorem Fun.binds(F:Fun K x qual st f fd)
  (h:∀(kV doc pm:B)(an:Option J)(cdv ct:B)(us:Δ),us.length=ps.length->bindArgs (W.fnOf x qual (dJ st) (cy st) (ax st) .none kV doc pm an cdv ct) (us,[])=pure (ps.zip us)):Binds K fd ps []:=by
 let(oc,od,kV,doc,pm,an,cdv,ct,osl,U,lk,g):=F.ex;exact .all (h kV doc pm an cdv ct)
theorem yT{kV doc cdv:B}(l:K.lookup f=Z (oc,od,.func (W.fnOf x qual (dJ st) (cy st) (ax st) .none kV doc pm an cdv ct),osl))
  (c:W.codeIn K cdv qual=O) (k:W.keepIn K (.ref f)=O):Fun K x qual st f (W.fnOf x qual (dJ st) (cy st) (ax st) .none kV doc pm an cdv ct):=((oc,od,kV,doc,pm,an,cdv,ct,osl,U,l,c),k)
end
variable{A:Db}
def bo(hr:e7 k A):A.units+1<cLine:=YD (Zm ac _) hr.units
def aD(h:n<=1000):n<mu:=YD h ac
section
def pv(i:Nat){pos:Pos}(q:‹X.N[i]?=Z x›)(hv:Vis X.env.scope x:=by first|exact Or.inl rfl|exact Or.inr (Or.inl U)|exact Or.inr (Or.inr U))(hd:autoParam (AS x) zdc._auto_1)
  (g:autoParam ((x ==("__classdict__":Str))=false) zdc._auto_1):PE X (.Name x pos) (cp i):=Ke q hv hd g
end
def Xs{A ώ:Prop}(h:ώ):if ϊ=O then A else ώ:=by exact h
def aI{c A ώ:Prop}[Decidable c](h1:c->A)(h2:¬ c->ώ):if c then A else ώ:=by
 by_cases h:c
 ·rw[if_pos h];exact h1 h
 rw[if_neg h];exact h2 h
def aa{c A Zg:Prop}[Decidable c](h2:Zg)(h:¬ c:=by decide +kernel):if c then A else Zg:=aI (λz=>absurd z h) λ_=>h2
def mH(H H':Hp):Prop:=∀b o,H b=Z o->H' b=Z o
def mH.refl(H:Hp):mH H H:=λ_ _ h=>h
variable{H:Hp}{H':Hp}{l:J}
def mH.free(e:mH H H')(h:H' l=Option.none):H l=Option.none:=by cases q:H l with|none=>rfl|some o =>rw[e l o q]at h;cases h
variable{y:V}{u:B}
section
variable{κ:Type}[DecidableEq κ]
def bV(kvs:List (κ×V))(k:κ):Option V:=(kvs.find? λkv=>decide (kv.1=k)).map (·.2)
def putK(kvs:List (κ×V))(k:κ)(v:V):List (κ×V):=
 if(kvs.any λkv=>decide (kv.1=k))=O then kvs.map (λkv=>if kv.1=k then(kv.1,v)else kv)else kvs++[(k,v)]
def c7{k:κ}(e:p.1=k):bV (p::r) k=Z p.2:=by simp[bV,e]
def c8{k:κ}(e:¬ p.1=k):bV (p::r) k=bV r k:=by simp[bV,e]
theorem mQ(k:κ):∀kvs:List (κ×V),(kvs.any λkv=>decide (kv.1=k))=(bV kvs k).isSome
 |[]=>rfl|p::r=>by
  rw[YI];by_cases e:p.1=k
  ·simp only[c7 e,decide_eq_true e,Bool.true_or,Z2]
  rw[c8 e,decide_eq_false e];exact mQ k r
theorem zK(k j:κ)(y:V):∀kvs:List (κ×V),bV (kvs.map λkv=>if kv.1=k then(kv.1,y)else kv) j=(bV kvs j).map λx=>if j=k then y else x
 |[]=>rfl|p::r=>by
  have g:=zK k j y r;rw[ro];by_cases h:p.1=k
  ·rw[if_pos h];by_cases e:p.1=j
   ·rw[c7 (p:=(p.1,y)) e,c7 e,Zj,if_pos (e.symm.trans h)]
   rw[c8 (p:=(p.1,y)) e,c8 e,g]
  rw[if_neg h];by_cases e:p.1=j
  ·rw[c7 (p:=p) e,c7 e,Zj,if_neg (λz=>h (e.trans z))]
  rw[c8 (p:=p) e,c8 e,g]
theorem wC(k j:κ)(y:V):∀kvs:List (κ×V),bV kvs k=Y->bV (kvs++[(k,y)]) j=if j=k then Z y else bV kvs j
 |[],_=>by
  by_cases e:k=j
  ·rw[if_pos e.symm];exact c7 (p:=(k,y)) e
  rw[if_neg (λz=>e z.symm)];exact c8 (p:=(k,y)) e
 |p::r,hn=>by
  rw[Zd];have hk:¬ p.1=k:=λz=>by rw[c7 z]at hn;cases hn
  rw[c8 hk]at hn;have g:=wC k j y r hn;by_cases e:p.1=j
  ·rw[c7 e,c7 e,if_neg (λz=>hk (e.trans z))]
  rw[c8 e,c8 e,g]
def sM(kvs:List (κ×V))(k j:κ)(y:V):bV (putK kvs k y) j=if j=k then Z y else bV kvs j:=by
 unfold putK;by_cases a:(kvs.any λkv=>decide (kv.1=k))=O
 ·rw[if_pos a,zK];rw[mQ]at a;by_cases e:j=k
  ·let(x,hx):=Mj.mp a;rw[if_pos e,e,hx,Zj,if_pos rfl]
  rw[if_neg e];cases bV kvs j with|none=>rfl|some x=>rw[Zj,if_neg e]
 rw[if_neg a];refine wC k j y kvs ?_;rw[mQ]at a;cases q:bV kvs k with|none=>rfl|some x=>rw[q]at a;exact(a U).elim
def gM(kvs:List (κ×V))(k:κ)(v:V):(putK kvs k v).length<=kvs.length+1:=by
 unfold putK;split
 ·rw[cU];lia
 rw[j3,qf,Yg];lia
def ku.iC{u:Option B}(r:ku o u):o.isSome=u.isSome:=by
 cases o with
 |none=>cases u with|none=>rfl|some _=>exact(r).elim
 |some _=>cases u with|none=>exact(r).elim|some _=>rfl
theorem ku.getD{u:Option B}(r:ku o u)(rd:RelV d g):RelV (o.getD d) (u.getD g):=by
 cases o with
 |none=>cases u with|none=>exact rd|some _=>exact(r).elim
 |some _=>cases u with|none=>exact(r).elim|some _=>exact r
def KV.val(r:KV kvs vs)(k:κ):ku (bV kvs k) (valueAt vs k):=by
 induction r with
 |nil=>exact True.intro|@cons p q ps qs h t K =>
  let(h1,h2):=h;by_cases e:p.1=k
  ·have g:=h1.symm.trans e;have b:valueAt (q::qs) k=Z q.2:=by simp[valueAt,g]
   rw[c7 e,b];exact h2
  have g:¬ q.1=k:=λz=>e (h1.trans z);have b:valueAt (q::qs) k=valueAt qs k:=by simp[valueAt,g]
  rw[c8 e,b];exact K
theorem KV.any(r:KV kvs vs)(k:κ):(kvs.any λkv=>decide (kv.1=k))=vs.any λkv=>decide (kv.1=k):=by induction r with|nil=>rfl|cons h t g=>rw[YI,YI,g,h.1]
def KV.RH(r:KV kvs vs)(k:κ)(g:RelV y u):
  KV (kvs.map λkv=>if kv.1=k then(kv.1,y)else kv) (vs.map λkv=>if kv.1=k then(kv.1,u)else kv):=by
 induction r with
 |nil=>exact .nil|@cons p q ps qs h t K =>
  rw[ro,ro];refine .cons ?_ K;let(h1,h2):=h;by_cases e:p.1=k
  ·rw[if_pos e,if_pos (h1.symm.trans e)];exact(h1,g)
  rw[if_neg e,if_neg (λz=>e (h1.trans z))];exact(h1,h2)
def KV.put(r:KV kvs vs)(k:κ)(g:RelV y u):KV (putK kvs k y) (stored vs k u):=by
 unfold putK stored;rw[r.any k];by_cases e:(vs.any λkv=>decide (kv.1=k))=O
 ·rw[if_pos e,if_pos e];exact r.RH k g
 rw[if_neg e,if_neg e];exact Paired.snoc r (U,g)
theorem KV.length(r:KV kvs vs):kvs.length=vs.length:=Paired.length r
end
variable{P:Da}
def lG(r:RelV (kV k) u):(a8 P w).is k u=true:=by cases k with|inl i=>let(t,e):=(r);subst e;exact AJ P w i t|inr x=>let(t,e):=(r);subst e;exact AI P w x t
theorem wX:∀{ks:List Key}{us:Δ},Vals (ks.map kV) us->ItemsAre (a8 P w) ks us
 |[],_,r=>by cases r;exact .nil
 |k::ks,_,r=>by
  cases r with|cons h t=>exact .cons (lG h) (wX t)
abbrev KT(H:Hp):ϑ->List (List Key×J×B)->Prop:=Paired λp q=>p.1=q.1/\H q.2.1=Z (.tup (p.1.map kV))/\RelV p.2 q.2.2
variable{kvs:ϑ}
def KT.val{xs:List (List Key×J×B)}(r:KT H kvs xs)(k:List Key):ku (bV kvs k) ((atKey xs k).map (·.2)):=by
 induction r with
 |nil=>exact True.intro|@cons p q ps qs h t K =>
  let(h1,_,h2):=h;by_cases e:p.1=k
  ·have g:=h1.symm.trans e;have b:atKey (q::qs) k=Z q.2:=by simp[atKey,g]
   rw[c7 e,b];exact h2
  have g:¬ q.1=k:=λz=>e (h1.trans z);have b:atKey (q::qs) k=atKey qs k:=by simp[atKey,g]
  rw[c8 e,b];exact K
def KT.RH{xs:List (List Key×J×B)}(r:KT H kvs xs)(k:List Key)(g:RelV y u):
  KT H (kvs.map λkv=>if kv.1=k then(kv.1,y)else kv) (xs.map (putAt k u)):=by
 induction r with
 |nil=>exact .nil|@cons p q ps qs h t K =>
  rw[ro];refine .cons ?_ K;let(h1,h2,h3):=h;unfold putAt;by_cases e:p.1=k
  ·rw[if_pos e,if_pos (h1.symm.trans e)];exact(h1,h2,g)
  rw[if_neg e,if_neg (λz=>e (h1.trans z))];exact(h1,h2,h3)
def KT.put{xs:List (List Key×J×B)}(r:KT H kvs xs)(k:List Key){b:J}(z:H b=Z (.tup (k.map kV)))(g:RelV y u):
  KT H (putK kvs k y) (storedH xs k b u):=by
 have e:(kvs.any λkv=>decide (kv.1=k))=(atKey xs k).isSome:=by rw[mQ,(r.val k).iC,Xf]
 unfold putK storedH;rw[e];by_cases q:(atKey xs k).isSome=O
 ·rw[if_pos q,if_pos q];exact r.RH k g
 rw[if_neg q,if_neg q];exact Paired.snoc r (U,z,g)
def KT.keeps{xs:List (List Key×J×B)}(r:KT H kvs xs)(g:∀b ys,H b=Z (.tup ys)->H' b=Z (.tup ys)):KT H' kvs xs:=
 Paired.VN r λ_ _ z=>(z.1,g _ _ z.2.1,z.2.2)
section
variable{w:Cl}{h:Do}
def Qf{u:HO}(ok:HOk P w H h)(e:Rd H a u):di P w H h a u:=e.ok ok
def gU{kvs:ϐ}(ok:HOk P w H h)(e:Rd H a (.dK kvs)):kvs.length<=mu/\(a==sysModules)=ϊ/\∃vs,KV kvs vs/\h.DictOf (a8 P w) a vs:=
 Qf ok e
def LF{kvs:ϐ}(ok:HOk P w H h)(e:H a=Z (.dK kvs)):kvs.length<=mu/\(a==sysModules)=ϊ/\∃vs,KV kvs vs/\h.DictOf (a8 P w) a vs:=gU ok (.inl e)
def ke(ok:HOk P w H h)(e:H a=Z (.tup (ks.map kV))):(tupleKind (a8 P w)).is h ks a:=by let(_,its,r,(o,h1,h2,n,h3),_):=(ok a _ e);exact(o,its.toArray,n,h1,h2,h3,(wX r:))
def uT(ok:HOk P w H h)(e:Rd H a (.dT kvs)):kvs.length<=mu/\(a==sysModules)=ϊ /\
  ∃xs,KT H kvs xs/\h.DictOfH (tupleKind (a8 P w)) a xs:=by
 let(z,y,xs,r,o,es,ep,h1,h2,h3,h4,h5):=(Qf ok e);refine(z,y,xs,r,o,es,ep,h1,h2,h3,h4,λx hx=>?_,h5);have all:∀{l:ϑ}{m:List (List Key×J×B)},KT H l m->∀x∈m,(tupleKind (a8 P w)).is h x.1 x.2.1:=by
  intro l m q;induction q with
  |nil=>intro x hx;exact nomatch hx
  |@cons p q ps qs hq t g =>
   intro x hx;obtain e|hx:=kC.mp hx
   ·subst e;exact ke ok (by rw[<- hq.1];exact hq.2.1)
   exact g x hx
 exact all r x hx
def Wr(ok:HOk P w H h)(e:H a=Z (.dT kvs)):kvs.length<=mu/\(a==sysModules)=ϊ /\
  ∃xs,KT H kvs xs/\h.DictOfH (tupleKind (a8 P w)) a xs:=uT ok (.inl e)
end
def gG(H:Hp)(a:J)(y:V)(r:Option V):Prop:=
 (∃kvs k,Rd H a (.dK kvs)/\y=kV k/\r=bV kvs k)\/∃kvs k b,Rd H a (.dT kvs)/\y=.ref b/\H b=Z (.tup (k.map kV))/\r=bV kvs k
def zC(H:Hp)(a:J)(y v:V)(H':Hp):Prop:=
 (∃kvs k,H a=Z (.dK kvs)/\y=kV k/\kvs.length<mu/\H'=upd H a (.dK (putK kvs k v))) \/
 ∃kvs k b,H a=Z (.dT kvs)/\y=.ref b/\H b=Z (.tup (k.map kV))/\kvs.length<mu/\H'=upd H a (.dT (putK kvs k v))
theorem gG.k{a:J}{kvs:ϐ}{k:Key}(e:H a=Z (.dK kvs)):gG H a (kV k) (bV kvs k):=.inl (kvs,k,.inl e,U,U)
theorem zC.k{a:J}{kvs:ϐ}{k:Key}{v:V}(e:H a=Z (.dK kvs))(hl:kvs.length<mu):zC H a (kV k) v (upd H a (.dK (putK kvs k v))):=.inl (kvs,k,e,U,hl,U)
variable{Q:Φ}{h':Do}{t':Nat}
section
variable{gd:Ξ}{σ:St}{s:ϋ}{v:V}{r:B}{o:Option V}{E:Φ}
def Inv.big(I:Inv X gd σ H s):sysModules<s.heap.objs.size:=by have h:=(I.mod.glob.keeps I.bk).lt;exact YX ac h
def Hl(hu:A.units+1<cLine)(I:Inv X gd σ H s)(g:gG H a y (Z v))(ry:RelV y u)(h:∀K s',Inv X gd σ H s'->RelV v K->Q K s'):
  wpAny (model X.prog X.w) A (getItem (.ref a) u) Q E s:=by
 obtain⟨kvs,k,e,V,l⟩|⟨kvs,k,b,e,V,eb,l⟩:=g
 ·subst V;let(z,hd,vs,rel,dd):=gU I.hok e;let(K,hw,q):=ku.some_of (by rw[l];exact rel.val k);exact wpAny_getItem_of (lG ry) dd.mapOf hw (h K _ (I.tok _) q)
 subst V;cases(ry);let(z,hd,xs,rel,dd):=uT I.hok e;let(K,hw,q):=ku.some_of (by rw[l];exact rel.val k);let(p,hp,P):=gV.mp hw;refine wpAny_getItem_heap (tupleKind_room_in1 hu) (ke I.hok eb) dd hp ?_;rw[P];exact h K _ (I.tok _) q
def XZ(V:A.units+1<cLine)(I:Inv X gd σ H s)(g:gG H a y o)(P:RelV y u)(h:∀s',Inv X gd σ H s'->Q (.bool o.isSome) s'):
  wpAny (model X.prog X.w) A (compareOp .In u (.ref a)) Q E s:=by
 obtain⟨kvs,k,e,K,l⟩|⟨kvs,k,b,e,K,eb,l⟩:=g
 ·subst K;let(z,hd,vs,rel,dd):=gU I.hok e;refine wpAny_in_of (lG P) hd dd.mapOf ?_;rw[<- (rel.val k).iC,<- l];exact h _ (I.tok _)
 subst K;cases(P);let(z,hd,xs,rel,dd):=uT I.hok e;refine wpAny_in_heap (tupleKind_room_in1 V) (ke I.hok eb) hd dd ?_;have q:=(rel.val k).iC;rw[Xf]at q;rw[<- q,<- l];exact h _ (I.tok _)
def Po(V:A.units+1<cLine)(I:Inv X gd σ H s)(g:gG H a y o)(P:RelV y u)(h:∀s',Inv X gd σ H s'->Q (.bool (!o.isSome)) s'):
  wpAny (model X.prog X.w) A (compareOp .NotIn u (.ref a)) Q E s:=by
 obtain⟨kvs,k,e,K,l⟩|⟨kvs,k,b,e,K,eb,l⟩:=g
 ·subst K;let(z,hd,vs,rel,dd):=gU I.hok e;refine wpAny_notIn_of (lG P) hd dd.mapOf ?_;rw[<- (rel.val k).iC,<- l];exact h _ (I.tok _)
 subst K;cases(P);let(z,hd,xs,rel,dd):=uT I.hok e;refine wpAny_notIn_heap (tupleKind_room_in1 V) (ke I.hok eb) hd dd ?_;have q:=(rel.val k).iC;rw[Xf]at q;rw[<- q,<- l];exact h _ (I.tok _)
def za(I:Inv X gd σ H s)(g:Mut (H a))(hs:YQ a s.heap h')(he:∃q,h'.get? a=Z q)(new:di X.prog X.w (upd H a ob) h' a ob):
  Inv X gd σ (upd H a ob) {s with heap:=h',toks:=t'}:=
 I.write g (.inl U) (λb q K z=>(hs.2 b K).trans z) he new
def uU{w:Cl}{kvs:ϐ}{vs:List (Key×B)}(z:kvs.length<=mu)(hd:(a==sysModules)=ϊ)(rel:KV kvs vs)(dd:h'.DictOf (a8 P w) a vs):
  di P w H' h' a (.dK kvs):=(z,hd,vs,rel,dd)
def Hk{Q:Unit->ϋ->Prop}(hu:A.units+1<cLine)(I:Inv X gd σ H s)(g:zC H a y v H')(ry:RelV y u)(rv:RelV v r)(h:∀s',Inv X gd σ H' s'->Q () s'):
  wpAny (model X.prog X.w) A (setItem (.ref a) u r) Q E s:=by
 obtain⟨kvs,k,e,P,l,V⟩|⟨kvs,k,b,e,P,eb,l,V⟩:=g
 ·subst P V;let(z,hd,vs,rel,dd):=LF I.hok e;have hz:vs.length<=mu:=by rw[<- rel.length];exact z
  have hl:(putK kvs k v).length<=mu:=by have:=gM kvs k v;omega
  refine wpAny_setItem_pairs (lG ry) dd λh' K hs=>h _ ?_;have he:∃q,h'.get? a=Z q:=let(q,_,_,hq,_):=K;(q,hq);exact za I (by rw[e];exact True.intro) hs he (uU hl hd (rel.put k rv) K)
 subst P V;cases(ry);let(z,hd,xs,rel,dd):=Wr I.hok e;have hz:xs.length<=mu:=by rw[<- Paired.length rel];exact z
 have hl:(putK kvs k v).length<=mu:=by have:=gM kvs k v;lia
 refine wpAny_setItem_heap (hsz:=hz) (tupleKind_room_in1 hu) (ke I.hok eb) dd λh' K hs=>h _ ?_;let(q,es,ep,hq,h2,h3,h4,_,h5):=K;refine za I (by rw[e];exact True.intro) hs (q,hq) (hl,hd,_,(rel.put k eb rv).keeps λc ys ec=>?_,q,es,ep,hq,h2,h3,h4,h5);rw[au (j7 ec e (λz=>nomatch z))];exact ec
end
section
variable{gd:Ξ}{σ:St}{s:ϋ}{kvs:ϐ}{E:Φ}
def Wu(I:Inv X gd σ H s)(e:Rd H a (.dK kvs))(h:∀t s',Inv X gd σ H s'->Q (.int kvs.length t) s'):wpAny (model X.prog X.w) A (call (.builtin "len") [.ref a]) Q E s:=by let(z,hd,vs,rel,dd):=gU I.hok e;refine call_len_dict hd dd (by rw[<- rel.length];rw[YW]at z;lia) ?_;rw[<- rel.length];exact h _ _ (I.tok _)
end
def Ut(i:Ev):Prop:=∀g iv,subscripted i ϊ g iv=operate [g,iv] (getItem g iv)
variable{E:Φ}{env:Env}{value:Ev}
def MZ{prog:Da}{w:Cl}{s:ϋ}{slice:Ev}{pos:Pos}{T id:String}
  (hl:typeLookup (.type T) "__getitem__"=pure (Z (.builtin id))) (hs:Ut slice)
  (h:wpAny (model prog w) A (eval value env) (λo z=>wpAny (model prog w) A (eval slice env) (λi s₂=>s₂.TypeIs o T/\wpAny (model prog w) A (getItem o i) Q E s₂) E z) E s):
  wpAny (model prog w) A (eval (.Subscript value slice pos) env) Q E s:=by
 refine Subscript_ (Ux h (λo z h₁=>Ux h₁ (λi s₂ g=>?_) λ_ _ x=>x) λ_ _ x=>x);let(hT,g):=g;refine dN ?_;refine dN (Rj hT hl ?_);have fin:wpAny (model prog w) A (subscripted slice ϊ o i) (λr q=>wpAny (model prog w) A (letTemporaryGo value o r >>= λ_=>pure r) Q E q) E s₂:=by rw[hs o i];exact wpAny_operating (Ux g (λr q K=>dN (wpAny_letTemporaryGo (kA K))) λ_ _ x=>x)
 exact kA (dN fin)
variable{gd:Ξ}
def Bc{σ:St}{s:ϋ}{o:Option V}(I:Inv X gd σ H s)(g:gG H a y o):s.TypeIs (.ref a) "dict":=by
 obtain⟨kvs,k,e,_,_⟩|⟨kvs,k,b,e,_,_,_⟩:=g
 ·let(_,_,vs,_,dd):=gU I.hok e;exact dd.typeIs
 let(_,_,xs,_,dd):=uT I.hok e;exact dd.typeIs
def Qd(td ty:TE):TE:=λσ H Q=>td σ H λx H1=>ty σ H1 λy H2=>∃a v,x=.ref a/\gG H2 a y (Z v)/\Q v H2
def IY(td ty tv:TE):TS:=λD σ H=>tv σ H λv H1=>td σ H1 λx H2=>ty σ H2 λy q=>∃a g,x=.ref a/\zC q a y v g/\D.nx σ g
section
variable{o i:Ev}{pos pos':Pos}{td ty tv:TE}
def gK(hu:X.A.units+1<cLine)(ho:PE X o td)(hi:PE X i ty)(hs:Ut i):PE X (.Subscript o i pos) (Qd td ty):=by left;refine MZ PySem.F.slot_dict_getitem.lookup hs (thn (ho gd s σ H _ I h) λu s1 (x,H1,I1,V,q1)=>thn (hi gd s1 σ H1 _ I1 q1) λiv s2 z=>?_);let(y,H2,K,P,a,v,ex,g,q2):=z;subst ex;obtain rfl:=V;exact(Bc K g,Hl hu K g P λw' s3 I3 q=>(v,H2,I3,q,q2))
def rT(hu:X.A.units+1<cLine)(ho:PE X o td)(hi:PE X i ty)(hv:PE X value tv)(hs:swapsWith value (Z (.Subscript o i pos')) pos.line X.env=pure ϊ):
  PS X (.Assign [.Subscript o i pos'] value pos) (IY td ty tv):=by
 right;refine wpAny_Assign_Subscript (thn (hv gd s σ H _ I h) λr s1 (v,H1,I1,rv,V)=>thn (ho gd s1 σ H1 _ I1 V) λu s2 (x,H2,I2,K,Q)=>thn (hi gd s2 σ H2 _ I2 Q) λiv s3 q=>?_) hs;let(y,H3,I3,z,a,H4,ex,g,P):=q;subst ex;obtain rfl:=K;exact Hk hu I3 g z rv λs4 I4=>(σ,H4,I4,P)
end
def Bb{w:Cl}(h:Do)(g:sysModules<h.objs.size):di P w H (h.push {cls:=.type "dict",data:=.dict #[]}) h.objs.size (.dK []):=
 (zt _,beq_eq_false_iff_ne.mpr (Ne.symm (rl g)),[],.nil,Heap.DictOf.new h)
def Iq:TE:=λ_ H Q=>∀p,H p=Y->Q (.ref p) (upd H p (.dK []))
section
variable{pos:Pos}
def Kk:PE X (.Dict [] [] pos) Iq:=λgd s σ H Q I h =>
 wpAny_Dict_empty (.ref s.heap.objs.size,_,I.laid (λ_ _ q=>gs _ q) (kB _) (Bb s.heap I.big),U,h _ (I.hok.fresh (kB _)))
end
def B8:List (TE×TE)->St->Hp->(List (V×V)->Hp->Prop)->Prop
 |[],_,H,Q=>Q [] H| (tk,tv)::r,σ,H,Q=>tk σ H λx H1=>tv σ H1 λy H2=>B8 r σ H2 λps g=>Q ((x,y)::ps) g
abbrev VV:List (V×V)->List (B×B)->Prop:=Paired λp q=>RelV p.1 q.1/\RelV p.2 q.2
def PPs(X:Cx)(pos:Pos)(keys:List (Option Ev))(values:List Ev)(g:List (TE×TE)):Prop:=
 ∀(gd:Ξ)(s:ϋ)(σ:St)(H:Hp)(Q:List (V×V)->Hp->Prop),Inv X gd σ H s->B8 g σ H Q ->
  XV X (evalPairs (pairTrees keys values X.env pos)) (λvs s'=>∃ps H',Inv X gd σ H' s'/\VV ps vs/\Q ps H') X.xe s
def En{pos:Pos}:PPs X pos [] [] []:=λgd s σ H Q I h=>pairTrees_nil_walk ([],H,I,.nil,h)
variable{tk:TE}{tv:TE}
def nc(hk:PE X k tk)(hv:PE X v tv)(hr:PPs X pos ks vs g):
  PPs X pos (Z k::ks) (v::vs) ((tk,tv)::g):=λgd s σ H Q I h =>
 pairTrees_cons_walk (thn (hk gd s σ H _ I h) λu s1 (x,H1,I1,z,V)=>thn (hv gd s1 σ H1 _ I1 V) λw2 s2 (y,H2,I2,q,P) =>
thn (hr gd s2 σ H2 _ I2 P) λws s3 (ps,H3,I3,rel,K)=>((x,y)::ps,H3,I3,.cons (z,q) rel,K))
def ja(kvs more:ϐ):ϐ:=more.foldl (λacc kv=>putK acc kv.1 kv.2) kvs
def KV.merge:∀{more:ϐ}{rs:List (Key×B)}{kvs:ϐ}{vs:List (Key×B)},KV more rs->KV kvs vs->KV (ja kvs more) (merged vs rs):=by
 intro more rs kvs vs r;induction r generalizing kvs vs with
 |nil=>intro q;exact q
 |@cons p q ps qs h t z =>
  intro g;have e:KV (putK kvs p.1 p.2) (stored vs q.1 q.2):=by have:=g.put p.1 h.2;rw[<- h.1];exact this
  exact z e
theorem fw:∀(more kvs:ϐ),(ja kvs more).length<=kvs.length+more.length
 |[],kvs=>by show kvs.length<=kvs.length+0;lia|p::r,kvs=>by
  have h1:=fw r (putK kvs p.1 p.2);have h2:=gM kvs p.1 p.2;show(ja (putK kvs p.1 p.2) r).length<=_;rw[qf];lia
theorem vd:∀{kvs:ϐ}{ws:List (B×B)},VV (kvs.map λkv=>(kV kv.1,kv.2)) ws->∃rs,Carries (a8 P w) ws rs/\KV kvs rs
 |[],_,r=>by cases r;exact([],True.intro,.nil)
 |p::kvs,_,r=>by
  cases r with|@cons a b as bs h t =>let(rs,c,q):=vd t;let(b1,b2):=b;exact((p.1,b2)::rs,(lG h.1,U,c),.cons (U,h.2) q)
def Qc(g:List (TE×TE)):TE:=λσ H Q=>∀p,H p=Y->B8 g σ (upd H p (.dK [])) λps H2=>H2 p=Z (.dK [])/\∃kvs:ϐ,ps=kvs.map (λkv=>(kV kv.1,kv.2))/\kvs.length<=15/\Q (.ref p) (upd H2 p (.dK (ja [] kvs)))
def Eo{keys:List (Option Ev)}{values:List Ev}{g:List (TE×TE)}(h:PPs X pos keys values g)(TX:keys.all (·.isSome)=O)(hl:keys.length=values.length)(h0:keys ≠ [])
  (V:keys.length<=15):PE X (.Dict keys values pos) (Qc g):=by
 intro gd s σ H Q I q;have hn:=I.hok.fresh (kB s.heap.objs.size);have I1:=I.laid (t':=s.toks) (λ_ _ q=>gs _ q) (kB _) (Bb s.heap I.big);refine wpAny_Dict_walk (knd:=a8 X.prog X.w) TX hl h0 V (thn (h gd _ σ _ _ I1 (q _ hn)) λws s2 P=>?_);let(ps,H2,I2,rel,e,kvs,ep,lk,q2):=P;subst ep;let(rs,c,rk):=vd rel;let(z,hd,ak,r0,dd):=LF I2.hok e;cases r0;refine(rs,c,dd,λh' K hs=>(.ref s.heap.objs.size,_,?_,U,q2));have hz:(ja [] kvs).length<=mu:=by have h1:=fw kvs [];rw[Yg]at h1;rw[YW];lia
 have he:∃q,h'.get? s.heap.objs.size=Z q:=let(q,_,_,hq,_):=K;(q,hq);exact za I2 (by rw[e];exact True.intro) hs he (uU hz hd (rk.merge .nil) K)
structure M2(X:Cx)(o:Ev)(m:Str)(apos:Pos)(e f:Ev)(aY:Pos):Prop where
 base:attributeBase o m X.env (eval o X.env)=eval o X.env
 few:((backTo aY (mJ [e,f] X.env)).all (λx=>!x.1)&&(backToKw aY (keywordEach [] X.env)).all (λx=>x.1.isSome)
&& decide (([e,f]:List Ev).length+([]:List Keyword).length+(if([]:List Keyword).isEmpty then 0 else 1)<30))=O
 line:(apos.endLine==aY.line)=O
 trees:backTo aY (mJ [e,f] X.env)=[(ϊ,eval e X.env),(ϊ,eval f X.env)]
def IsD(H:Hp)(a:J):Prop:=(∃kvs,Rd H a (.dK kvs))\/∃kvs,Rd H a (.dT kvs)
def Tw{σ:St}(I:Inv X gd σ H s)(d:IsD H a):
  s.TypeIs (.ref a) "dict" /\ (∀b,B.ref a=.ref b->∃ob,s.heap.get? b=Z ob/\ob.dict=Y)/\(a==sysModules)=false:=by
 obtain⟨kvs,e⟩|⟨kvs,e⟩:=d
 ·let(_,hd,vs,_,dd):=gU I.hok e;refine(dd.typeIs,λb q=>?_,hd);cases q;let(ob,_,_,h1,h2,_):=dd;exact(ob,h1,h2.2.1)
 let(_,hd,xs,_,dd):=uT I.hok e;refine(dd.typeIs,λb q=>?_,hd);cases q;let(ob,_,_,h1,h2,_):=dd;exact(ob,h1,h2.2.1)
section
variable{σ:St}{s:ϋ}{d:V}{r:B}{o:Option V}
def T4(V:A.units+1<cLine)(I:Inv X gd σ H s)(g:gG H a y o)(P:RelV y u)(rd:RelV d r)(h:∀K s',Inv X gd σ H s'->RelV (o.getD d) K->Q K s'):
  wpAny (model X.prog X.w) A (call (.builtin "dict.get") [.ref a,u,r]) Q E s:=by
 obtain⟨kvs,k,e,q,l⟩|⟨kvs,k,b,e,q,eb,l⟩:=g
 ·subst q;let(z,hd,vs,rel,dd):=gU I.hok e;refine call_meetsIn PySem.F.slot_dict_get dd.typeIs PySem.F.entry_dict_get (PySem.F.args_dict_get_3 _ _ _) (meets_dict_get_default (a8 X.prog X.w) a (lG P) hd r) (_,dd.mapOf,h _ _ (I.tok _) ?_);rw[l];exact(rel.val k).getD rd
 subst q;cases(P);let(z,hd,xs,rel,dd):=uT I.hok e;refine call_meetsIn PySem.F.slot_dict_get dd.typeIs PySem.F.entry_dict_get (PySem.F.args_dict_get_3 _ _ _) (meetsH_dict_get_default (tupleKind (a8 X.prog X.w)) a b hd r) (tupleKind_room_in1 V,k,xs,ke I.hok eb,dd,h _ _ (I.tok _) ?_);rw[l];exact(rel.val k).getD rd
end
def B9(td ty tx:TE):TE:=λσ H Q=>td σ H λx H1=>∃a,x=.ref a/\IsD H1 a/\ty σ H1 λy H2=>tx σ H2 λz g=>∃o,gG g a y o/\Q (o.getD z) g
section
variable{o e f:Ev}{apos aY:Pos}{td ty tx:TE}
def Aq(hu:X.A.units+1<cLine)(ho:PE X o td)(he:PE X e ty)(hf:PE X f tx)(m:M2 X o "get" apos e f aY):PE X (.Call (.Attribute o "get" apos) [e,f] [] aY) (B9 td ty tx):=by
 left;refine wpAny_Call_method m.base m.few m.line PySem.F.plainAttrs_dict PySem.F.slot_dict_get PySem.F.type_dict_get (thn (ho gd s σ H _ I h) λu s1 K=>?_);let(x,H1,P,rx,a,ex,d,q1):=K;subst ex;obtain rfl:=rx;let(t1,t2,_):=Tw P d;refine(t1,t2,?_);rw[m.trees];refine Calls.callWith_builtin U (Calls.evalArgs_plain (Calls.spliced_cons (thn (he gd s1 σ H1 _ P q1) λiv s2 (y,H2,I2,ry,q2) =>
Calls.spliced_cons (thn (hf gd s2 σ H2 _ I2 q2) λfv s3 (z,H3,I3,V,ov,g,q3)=>Calls.spliced_nil ?_))))
 exact T4 hu I3 g ry V λw' s4 I4 q=>(_,H3,I4,q,q3)
end
section
def Hu:cL X (.builtin "len") (λxs H Q=>∃a kvs,xs=[V.ref a]/\H a=Z (.dK kvs)/\Q (.int kvs.length) H):=by intro gd s σ H xs us Q I r h;let(a,kvs,U,g,q):=h;let(u,U,ru):=vals1 r;cases ru;exact Wu I (.inl g) λt s' z=>(.int kvs.length,H,z,(t,U),q)
end
end L2
set_option maxHeartbeats 4000000
namespace L2
open PySem PySem.Spec PyProof.Rows
def Qq{h:Do}{a:Nat}{o:Obj}(e:h.get? a=Z o):@LT.lt Nat _ a h.objs.size:=kz e
def Fi{h:Do}{a:Nat}{v:Option B}(e:h.IsCell a v):@LT.lt Nat _ a h.objs.size:=e.lt
def nE{a b:Nat}(h:a<b):@Ne J a b:=rl h
def VM{a b:Nat}(h:b<a):@Ne J a b:=D7 h
variable{env:Env}
def Bn{body:Str×NameKind->List (Str×J)->Sem (ForInStep (List (Str×J)))}
  (V:∀n k c,body (n,k) c=if(k==NameKind.free)=O then(cellOf env n >>= λa=>pure (.yield ((n,a)::c)))else pure (.yield c))
  (l:List (Str×NameKind)):∀(cs:List (Str×J)),(∀p∈l,p.2=NameKind.free->∃c,env.cells.lookup p.1=Z c) ->
   ∃cl,forIn l cs body=pure cl/\(∀x c,cl.lookup x=Z c->env.cells.lookup x=Z c\/cs.lookup x=Z c)/\(∀x,(x,NameKind.free)∈l->∃c,cl.lookup x=Z c)/\∀x c,cs.lookup x=Z c->∃q,cl.lookup x=Z q:=by
 induction l with
 |nil=>exact λcs _=>(cs,U,λ_ _ h=>.inr h,λ_ h=>(nomatch h),λ_ c h=>(c,h))|cons p r P =>
  let(n,k):=p;intro cs h;have hr:=λp hp=>h p (j5 _ hp);rw[Y1,V];by_cases hk:(k==NameKind.free)=O
  ·rw[if_pos hk];have K:=(hk:);let(c,Q):=h (n,k) j0 K;have e1:cellOf env n=pure c:=by unfold cellOf;rw[Q]
   rw[e1];let(cl,e,h1,h2,h3):=P ((n,c)::cs) hr;refine(cl,e,λx q hx=>?_,λx hx=>?_,λx q hx=>?_)
   ·obtain z|z:=h1 x q hx
    ·exact .inl z
    by_cases g:(x==n)=O
    ·have e3:=(g:);subst e3;rw[wh,g]at z;cases z;exact .inl Q
    rw[wh,Bool.eq_false_iff.mpr g]at z;exact .inr z
   ·obtain z|z:=kC.mp hx
    ·have g:x=n:=congrArg Prod.fst z;exact h3 x c (by rw[wh,g,beq_self_eq_true])
    exact h2 x z
   by_cases g:(x==n)=O
   ·exact h3 x c (by rw[wh,g])
   exact h3 x q (by rw[wh,Bool.eq_false_iff.mpr g];exact hx)
  rw[if_neg hk];let(cl,e,h1,h2,h3):=P cs hr;refine(cl,e,h1,λx hx=>?_,h3);obtain z|z:=kC.mp hx
  ·cases z;exact absurd U hk
  exact h2 x z
variable{scope:Scope}
def Dr(h:∀p∈scope.names,p.2=NameKind.free->∃c,env.cells.lookup p.1=Z c):
  ∃cl:List (Str×J),closureFor scope env=pure cl/\(∀x c,cl.lookup x=Z c->env.cells.lookup x=Z c)/\∀x,(x,NameKind.free)∈scope.names->∃c,cl.lookup x=Z c:=by
 let(cl,e,h1,h2,_):=Bn (body:=λx c=>if(x.2==NameKind.free)=O then(cellOf env x.1 >>= λa=>pure (.yield ((x.1,a)::c)))else pure (.yield c)) (λ_ _ _=>rfl) scope.names [] h;refine(cl,?_,λx c hx=>(h1 x c hx).elim id λz=>by simp at z,h2);have g:closureFor scope env=(forIn scope.names ([]) (λx c=>if(x.2==NameKind.free)=O then(cellOf env x.1 >>= λa=>pure (.yield ((x.1,a)::c)))else pure (.yield c)) >>= λr=>pure r):=by simp only[closureFor]
 rw[g,e];rfl
theorem g9{env:Env}:∀{names:List (Str×NameKind)}{x:Str}{k:NameKind},
  (names.map λ(n,k)=>if(k==NameKind.free&&env.scope.kind == .function&&env.kindOf n==Z .cell)then(n,NameKind.cell)else(n,k)).lookup x=Z k ->
   names.lookup x=Z k\/(names.lookup x=Z .free/\k=.cell)
 |[],_,_,h=>by simp at h| (n,k0)::r,x,k,h=>by
  have q:=@g9 env r x k;replace h:YH x ((if(k0==NameKind.free&&env.scope.kind == .function&&env.kindOf n==Z .cell)=O then(n,NameKind.cell)else(n,k0)) ::(r.map λ(n,k)=>if(k==NameKind.free&&env.scope.kind == .function&&env.kindOf n==Z .cell)then(n,NameKind.cell)else(n,k)))=Z k:=h;cases hx:x==n with
  |true =>
   by_cases g:(k0==NameKind.free&&env.scope.kind == .function&&env.kindOf n==Z .cell)=O
   ·rw[if_pos g]at h;simp only[wh,hx]at h;cases h;have:=by simp only[uj]at g;simpa using g.1.1
    subst this;exact .inr (by simp only[wh,hx],U)
   rw[if_neg g]at h;simp only[wh,hx]at h;exact .inl (by simp only[wh,hx];exact h)
  |false =>
   have h':(r.map λ(n,k)=>if(k==NameKind.free&&env.scope.kind == .function&&env.kindOf n==Z .cell)then(n,NameKind.cell)else(n,k)).lookup x=Z k:=by
    by_cases g:(k0==NameKind.free&&env.scope.kind == .function&&env.kindOf n==Z .cell)=O
    ·rw[if_pos g]at h;simpa only[wh,hx]using h
    rw[if_neg g]at h;simpa only[wh,hx]using h
   obtain z|z:=q h'
   ·exact .inl (by simp only[wh,hx];exact z)
   exact .inr (by simp only[wh,hx];exact z)
theorem m7{env:Env}:∀{names:List (Str×NameKind)}{x:Str},names.lookup x=Z .free ->
  (names.map λ(n,k)=>if(k==NameKind.free&&env.scope.kind == .function&&env.kindOf n==Z .cell)then(n,NameKind.cell)else(n,k)).lookup x=Z .free \/
  (names.map λ(n,k)=>if(k==NameKind.free&&env.scope.kind == .function&&env.kindOf n==Z .cell)then(n,NameKind.cell)else(n,k)).lookup x=Z .cell
 |[],_,h=>by simp at h| (n,k0)::r,x,h=>by
  have q:=@m7 env r x;show YH x ((if(k0==NameKind.free&&env.scope.kind == .function&&env.kindOf n==Z .cell)=O then(n,NameKind.cell)else(n,k0))::_)=_\/YH x ((if(k0==NameKind.free&&env.scope.kind == .function&&env.kindOf n==Z .cell)=O then(n,NameKind.cell)else(n,k0))::_)=_;cases hx:x==n with
  |true =>
   simp only[wh,hx]at h;cases h;by_cases g:(NameKind.free==NameKind.free&&env.scope.kind == .function&&env.kindOf n==Z .cell)=O
   ·rw[if_pos g];simp only[wh,hx];exact .inr trivial
   rw[if_neg g];simp only[wh,hx];exact .inl trivial
  |false =>
   simp only[wh,hx]at h;by_cases g:(k0==NameKind.free&&env.scope.kind == .function&&env.kindOf n==Z .cell)=O
   ·rw[if_pos g];simp only[wh,hx];exact q h
   rw[if_neg g];simp only[wh,hx];exact q h
inductive mO(X:Cx)(sc:Scope):Γ->List (Option Nat)->Prop
 |nil:mO X sc [] []|own{x:Str}{N:Γ}{c:List (Option Nat)}:sc.names.lookup x=Z .local->mO X sc N c->mO X sc (x::N) (Y::c)|got{x:Str}{i:Nat}{N:Γ}{c:List (Option Nat)}:X.N[i]?=Z x->sc.names.lookup x=Z .free->(X.env.kindOf x=Z .cell\/X.env.kindOf x=Z .free)->mO X sc N c->mO X sc (x::N) (Z i::c)
def oh(c:List (Option Nat))(σ:St):St:=c.map λo=>o.bind λ(i:Nat)=>(σ[i]?).join
variable{X:Cx}{sc:Scope}{N:Γ}
def mO.len(h:mO X sc N c):(oh c σ).length=N.length:=by unfold oh;rw[cU];induction h with|nil=>rfl|own _ _ g=>simp[g]|got _ _ _ _ g=>simp[g]
theorem mO.at(h:mO X sc N c):∀{j:Nat}{x:Str}{v:V},N[j]?=Z x->(oh c σ)[j]?=Z (Z v) ->
  ∃i:Nat,X.N[i]?=Z x/\σ[i]?=Z (Z v)/\sc.names.lookup x=Z .free/\(X.env.kindOf x=Z .cell\/X.env.kindOf x=Z .free):=by
 induction h with
 |nil=>intro j x v h1;simp at h1
 |own _ _ z =>
  intro j x v h1 h2;cases j with|zero=>simp[oh]at h2|succ j=>exact z (h1:) (by simpa [oh]using h2)
 |@got y i N c g1 g2 g3 _ z =>
  intro j x v h1 h2;cases j with
  |zero =>
   have e:=(h1:);subst e;refine(i,g1,?_,g2,g3);have g:=by simpa [oh]using h2
   cases q:σ[i]? with
   |none=>rw[q]at g;cases g
   |some o =>rw[q]at g;have:o=Z v:=g;rw[this]
  |succ j=>exact z (h1:) (by simpa [oh]using h2)
def blk(X:Cx)(N':Γ)(sc:Scope)(cl:List (Str×J))(C:J)(s₂:ϋ)(H₂:Hp)(fp:Θ):Cx:=
 {X with N:=N',s₀:=s₂,be:=H₂,env:=compEnvC sc cl C X.env,outer:=X.stack,ex:=fp,fn:=λ_=>ϊ,pn:=[],xe:=λ_ _=>False}
def PTs(X:Cx)(ifs:List Ev)(t:TT):Prop:=
 ∀(gd:Ξ)(s:ϋ)(σ:St)(H:Hp)(Q:Bool->Hp->Prop),Inv X gd σ H s->t σ H Q ->
  XV X (forIn ifs O λc r=>if r=O then do let ok <- isTrue c X.env (eval c X.env);pure (ForInStep.yield ok)else pure (ForInStep.yield r)) (TP X gd σ Q) X.xe s
def DU:TT:=λ_ H Q=>Q O H
def El:PTs X [] DU:=λ_ _ _ H _ I h=>wpAny_tests_nil (H,I,h)
def Ek{c:Ev}{t:TT}(h:PT X c t):PTs X [c] t:=λgd s σ H Q I q=>wpAny_tests_one (h gd s σ H Q I q)
def Q6(g:TG)(tst:TT)(te:TE)(P:St)(Q:VK)(Ϗ:It)(H1:Hp):Prop:=
 ∃W:Nat->Nat->Ω->St->Hp->Prop,(∃m,W 0 m [] P H1)/\∀i m ys z H',W i m ys z H' ->
  (Ϗ.stop i H'/\ys.length<=mu/\∀D,H' D=Y->Q (.ref D) (upd H' D (.lst ys))) \/
  (Ϗ.go i H'/\ys.length<mu/\∃N:Ω->St->Hp->Prop,(∀K q H2,N K q H2->∃m',m'<m/\W (i+1) m' K q H2)/\∀x H2,Ϗ.yld i H' x H2->g x z H2 λq H3=>tst q H3 λb H4 =>
if b=O then te q H4 λy H5=>N (ys++[y]) q H5 else N ys q H4)
def sU(cap:List (Option Nat))(wi:TI)(g:TG)(tst:TT)(te:TE):TE:=λσ H Q=>wi σ H (Q6 g tst te (oh cap σ) Q)
variable{A:Db}{R:Result->ϋ->Prop}{elt:Ev}{iter:Ev}{ifs:List Ev}
def Ho{prog:Da}{w:Cl}{s:ϋ}{target:Ev}{pos:Pos}{it acc:B}(I:Nat->ϋ->Prop)
  (turn:∀n s,I n s->wpAny (model prog w) A (pyNext it) (λr z=>match r with
|none=>R (.ok .next) z
|some v=>wpAny (model prog w) A (letOwnedTupleGo target it v) (λ_ q=>wpAny (model prog w) A (assign target env v) (λ_ s₂ =>
wpAny (model prog w) A (forIn ifs O λc r=>if r=O then do let ok <- isTrue c env (eval c env);pure (ForInStep.yield ok)else pure (ForInStep.yield r)) (λok g =>
if ok=O then wpAny (model prog w) A (eval elt env) (λx P =>
wpAny (model prog w) A (call (.builtin "list.append") [acc,x]) (λ_ K=>∃m,m<n/\I m K) (λ_ _=>False) P) (λ_ _=>False) g
else ∃m,m<n/\I m g) (λ_ _=>False) s₂) (λ_ _=>False) q) (λ_ _=>False) z) (λ_ _=>False) s)
  (n:Nat) (h:I n s):
  codeAny (model prog w) A (.compLoop (.ListComp elt [(target,iter,ifs,0)] scope pos) 0 it acc env) R s:=by
 refine codeAny_loop U I (λn s hI=>?_) n h;show wpAny _ A ((compTurn (.ListComp elt [(target,iter,ifs,0)] scope pos) 0 it acc env).onRaise (λx=>do noteFrame x env;theTreesLotGoes x)) _ _ s;refine wpAny_noted ?_;rw[compTurn_list];refine dN (wpAny_standAt (dN (Ux (turn n s hI) (λr z h₁=>?_) λ_ _ h'=>h'.elim)));cases r with|none=>exact kA h₁|some v =>refine dN (Ux h₁ (λ_ q V=>(dN (Ux V (λ_ s₂ av=>dN (Ux av (λok g Q=>?_) λ_ _ h'=>h'.elim)) λ_ _ h'=>h'.elim))) λ_ _ h'=>h'.elim);cases ok with|false=>exact kA (U,Q)|true =>exact dN (dN (Ux Q (λx P ar=>dN (Ux ar (λ_ K ak=>kA (kA (U,ak))) λ_ _ h'=>h'.elim)) λ_ _ h'=>h'.elim))
variable{gd:Ξ}{H:Hp}{tg:Ev}{N':Γ}{cap:List (Option Nat)}{tst:TT}{te:TE}
def Bl{σ:St}{s:ϋ}{Q:VK}{p pos:Pos}{wi:TI}{g:TG}{use:Option (B->Sem Unit)}{Q':Φ}
  (hc:X.calm=O) (hi:PI X tg iter wi) (gv:sc.kind=.function) (fF:∀y∈sc.names,y.2 ≠ .cell) (gu:∀y∈sc.names,y.2=.local->sc.names.lookup y.1=Z .local)
  (gN:∀y∈sc.names,y.2=.free->X.env.kindOf y.1=Z .cell\/X.env.kindOf y.1=Z .free) (rg:mO X sc N' cap)
  (P:∀cl C s₂ H₂ fp,PG (blk X N' sc cl C s₂ H₂ fp) tg g/\PTs (blk X N' sc cl C s₂ H₂ fp) ifs tst/\PE (blk X N' sc cl C s₂ H₂ fp) elt te)
  (I:Inv X gd σ H s) (h:sU cap wi g tst te σ H Q)
  (fin:∀D C m H' s',Inv X gd σ H' s'->rH X gd H' C->s'.heap.Ns C m->Q (.ref D) H'->compPost (model X.prog X.w) X.A X.xe use Q' (.ref D) C (.ok .next) s')
  (hs:∀x,foldedSetIterable iter X.env x=pure x):
  XV X (comprehension (.ListComp elt [(tg,iter,ifs,0)] sc pos) sc X.env p (newList []) ϊ (eval iter X.env) use) Q' X.xe s:=by
 let(cl,Wd,A2,Wf):=Dr (scope:=sc) (env:=X.env) λq hq e=>I.ok.has q.1 (gN q hq e);refine wpAny_comprehension_free U hs Wd gv gu (thn (hi gd s σ H _ I h) λv s1 h1=>thn h1 λdt s2 h2=>?_);let(it,fp,tn,Ϗ,H2,e,I2,T,aQ,f2,W,(m0,w0),turn):=h2;subst e;refine Xx (wpAny_newFunctionEnv fF (by intro y hy;simp at hy) (λh₁ O9 Ln=>?_) gv);dsimp only at O9 Ln ⊢;generalize a6:s2.heap.push {cls:=.type "list",dict:=Y,data:=.seq ([]:Δ).toArray}=HP at O9 Ln ⊢;have hC:HP.objs.size=s2.heap.objs.size+1:=by rw[<- a6,BB]
 obtain⟨D,ak⟩:∃D:Nat,s2.heap.objs.size=D:=(_,U);obtain⟨C,dj⟩:∃C:Nat,HP.objs.size=C:=(_,U);rw[ak]at hC;rw[dj]at hC O9 Ln ⊢;rw[ak];have DC:D<C:=hC▸YB D;have aW:∀{b:Nat}{o:Obj},s2.heap.get? b=Z o->b<D:=λe=>ak▸Qq e;have a5:∀{b:Nat}{o:Obj},s2.heap.get? b=Z o->b<C:=λe=>YX (aW e) DC;have a0:@Ne J D C:=nE DC;have old:∀b o,s2.heap.get? b=Z o->h₁.get? b=Z o:=λb o e =>
  Ln.extBut b o (nE (a5 e)) (gs _ (a6▸gs _ e))
 have ib:h₁.get? D=Z (([]:Δ).toArray^^^0):=
  Ln.extBut _ _ a0 (gs _ (by rw[<- a6,<- ak];exact kD _ U))
 have cz:(blk X N' sc cl C s2 H2 fp).Ok:=by
  refine(I.ok.mod,gv,I.ok.glob,I.ok.blt,(by show s2.heap.objs.size<=C;rw[ak];exact wz DC),λx y c h1 h2=>I.ok.inj x y c (A2 x c h1) (A2 y c h2),λx hx=>?_,λx c hx=>(nomatch hx),I.ok.hd,I.ok.frames,.inl U,λb P=>?_,
λb o e=>I2.bs b o e,sF I2.ok.bsz I2.sz,λb o e P=>?_,λb P=>?_,I2.stack,I2.D6)
  ·have c2:sc.names.lookup x=Z .free:=by
    obtain hx|hx:=hx
    ·obtain z|z:=g9 hx
     ·exact absurd U (fF _ (PySem.mem_of_lookup z))
     exact z.1
    obtain z|z:=g9 hx
    ·exact z
    exact z.1
   exact Wf x (PySem.mem_of_lookup c2)
  ·let(o,ho,_):=T.obj _ _ aQ b P;refine(?_,λx c e=>(f2 b P).2.2.2.2.1 x c (A2 x c e));show @Ne J b C;exact nE (a5 ho)
  ·let(_,_,_,z,_):=f2 b P;obtain z|z:=z
   ·exact I2.ok.KH b o e z
   exact absurd (ui (Qq (show X.base.get? b=Z o from e)) (sF I2.ok.bsz z)) (Wo _)
  intro dd;obtain z|z:=kC.mp (I2.xF b dd)
  ·exact(f2 b P).2.1 z
  exact(f2 b P).2.2.1 z
 have nD:H2 D=none:=I2.hok.fresh (by rw[ak];exact kB _);have cQ:=P cl C s2 H2 fp;generalize V:blk X N' sc cl C s2 H2 fp=XB at cz cQ;have eP:XB.prog=X.prog:=by rw[<- V];rfl
 have eW:XB.w=X.w:=by rw[<- V];rfl
 have eK:XB.K=X.K:=by rw[<- V];rfl
 have eA:XB.A=X.A:=by rw[<- V];rfl
 have eE:XB.env=compEnvC sc cl C X.env:=by rw[<- V];rfl
 have eX:XB.xe=λ_ _=>False:=by rw[<- V];rfl
 have a3:XB.fs=frs X.stack:=by rw[<- V];rfl
 have bD:XB.ex=fp:=by rw[<- V];rfl
 have eS:XB.s₀=s2:=by rw[<- V];rfl
 have eH:XB.be=H2:=by rw[<- V];rfl
 have bt:XB.pn=[]:=by rw[<- V];rfl
 have cX:XB.calm=true:=by rw[<- V];exact hc
 have eN:XB.N=N':=by rw[<- V];rfl
 have eL:XB.env.locals=C:=by rw[eE];rfl
 have ay:XB.env.cells=cl:=by rw[eE];rfl
 have X1:∀(x:Str)(c:Nat),cl.lookup x=Z c->c<D:=λx c e=>by
  let(v,z):=I2.cell x c (A2 x c e);exact ak▸Fi z
 have c0:∀(b:Nat),D<=b->b ∉ XB.fs:=λb P z=>by
  rw[a3]at z;let(_,o,ho,_):=I2.stack.mem z;exact Wo _ (ui (aW ho) P)
 have bp:∀(b:Nat),b∈fp->b<D:=λb P=>by
  let(o,ho,_):=T.obj _ _ aQ b P;exact aW ho
 have loop:∀s3:ϋ,s3={s2 with heap:=h₁,toks:=s2.toks+([]:List (Str×B)).length} ->
   codeAny (model X.prog X.w) X.A (.compLoop (.ListComp elt [(tg,iter,ifs,0)] sc pos) 0 (.ref it) (.ref D) (compEnvC sc cl C X.env)) (compPost (model X.prog X.w) X.A X.xe use Q' (.ref D) C) s3:=by
  rintro s3 rfl;refine Ho (λn s'=>∃i ys cq H' its k,Inv XB [] cq H' s'/\tn i s'.heap/\(∀b∈fp,H' b=Y)/\H' D=Y/\s'.heap.get? D=Z ((its:Δ).toArray^^^k)/\Vals ys its/\W i n ys cq H') ?_ m0
   (0,[],oh cap σ,H2,[],0,?_,T.keep _ _ _ aQ λb P o e=>old b o e,λb P=>(f2 b P).1,nD,ib,.nil,w0)
  ·rintro n s4 ⟨i,ys,av,H4,its,k,I4,ct,cV,d4,o4,v4,w4⟩;have bh:∀{H':Hp}{pl:Ξ},(∀b∈fp,H' b=Y)->(∀q∈pl,q.1 ∉ fp)->∀b∈fp,rH XB pl H' b:=λ{H' pl} hn c4 b P=>by
    refine(hn b P,?_,?_,.inl (by rw[bD];exact P),λx c e=>?_,λq hq=>?_)
    ·rw[eL];exact nE (YX (bp b P) DC)
    ·rw[a3];intro z;obtain z|z:=kC.mp (I2.xF b z)
     ·exact(f2 b P).2.1 z
     exact(f2 b P).2.2.1 z
    ·rw[ay]at e;exact(f2 b P).2.2.2.2.1 x c (A2 x c e)
    rw[bt]at hq;intro z;exact c4 q (hq:) (z▸P)
   have pD:∀q ∈ [(Prod.mk D ((its.toArray^^^k):Obj))],q.1 ∉ fp:=λq hq=>by
    have e:q=_:=fy.mp hq;subst e;intro z;exact Wo _ (bp _ z)
   have bT:Inv XB [(D,(its.toArray^^^k))] av H4 s4:=I4.ng λq hq=>by
    have e:q=_:=fy.mp hq;subst e;refine(o4,d4,?_,c0 _ (kB _),λv=>ad);rw[eL];exact a0
   have Yq:=bT;rw[<- eA,<- eP,<- eW];obtain⟨stop,hz,qn⟩|⟨go,hz,N,hN,step⟩:=turn i n ys av H4 w4
   ·rw[<- eP,<- eW,<- eK]at T;refine Ux (T.done XB U U U cX i _ s4 av H4 (λ_ _=>False) bT (bh cV pD) ct stop) (λr s5 (hr,I5)=>?_) λ_ _ z=>z;subst hr;rw[eP,eW,eA];let(o5,n5,_):=I5.pin (D,(its.toArray^^^k)) (pq _ (fy.mpr U));have u5:Un (frs X.stack) fp H2 H4 s2.heap s5.heap:=by have z:=I5.base;rw[a3,bD,eH,eS]at z;exact z
    have c1:∀b o,s2.heap.get? b=Z o->@Ne J b D:=λb o e=>nE (aW e);have ne5:∀b u,H4 b=Z u->b≠D:=λb u e z=>by rw[z,d4]at e;cases e
    have c5:HOk X.prog X.w H4 s5.heap:=by have z:=I5.hok;rw[eP,eW]at z;exact z
    have XY:=fin D C;let(mC,cR,_):=id I5.loc;rw[eL]at cR;have IX:Inv X gd σ (upd H4 D (.lst ys)) s5:=by
     refine I2.Wy (s':=s5) (ch:=fp) ?_ (u5.keep,u5.slot,λb o e n hx=>?_,u5.there,λb xs e=>?_,λb o u e=>?_,λb ps e=>?_) ?_ I5.bare λb P=>((f2 b P).2.2.2.1,(f2 b P).2.1,(f2 b P).2.2.2.2.1,(f2 b P).2.2.2.2.2)
     ·have z:=I5.os;rw[eS]at z;exact z
     ·rw[au (c1 b o e)];exact u5.free b o e n hx
     ·have z:=u5.sO b xs e;rw[au (ne5 b _ z)];exact z
     ·have z:=u5.k9 b o u e;rw[au (ne5 b _ z)];exact z
     ·let(more,z):=u5.sQ b ps e;exact(more,by rw[au (ne5 b _ z)];exact z)
     intro a o e;by_cases ha:a=D
     ·subst ha;rw[aA]at e;cases e;exact(hz,its,k,v4,o5)
     rw[au ha]at e;exact(c5 a o e).d5 (λ_ _ _ q=>q) (λb q=>by rw[au (ne5 b _ q)];exact q) λb xs q=>by rw[au (ne5 b _ q)];exact q
    refine XY mC _ s5 IX ?_ cR (qn D d4);have dn:H4 C=none:=by have z:=I5.free;rw[eL]at z;exact z
    refine(by rw[au (Ne.symm a0)];exact dn,?_,?_,.inr ?_,λx c e=>?_,λq hq=>?_)
    ·have:@LT.lt Nat _ X.env.locals s2.heap.objs.size:=I2.lt;exact VM (YX (ak▸this) DC)
    ·exact I2.VL (by rw[ak];exact wz DC)
    ·exact sF I2.sz (by rw[ak];exact wz DC)
    ·let(v,z):=I2.cell x c e;exact nE (YX (ak▸Fi z) DC)
    exact nE (a5 (I2.pin q hq).1)
   have T':=T;rw[<- eP,<- eW,<- eK]at T';refine Ux (T'.item XB U U U cX i _ s4 av H4 (λ_ _=>False) bT (bh cV pD) ct go) (λr s5 (u,hr,h5)=>?_) λ_ _ z=>z;subst hr;refine thn h5 λ_ s6 ar=>?_;let(x,H6,I6,r6,y6,a4,dp):=ar;have dr:=I6.pinned (bh dp pD) (T.obj _ _ a4);let(da,c3,dc):=cQ;rw[<- eE];have cK:=da _ s6 av H6 x u _ dr r6 (step x H6 y6);rw[eX]at cK;refine thn cK λ_ s7 ar=>?_;let(aP,H7,I7,q7):=ar;have cA:=c3 _ s7 aP H7 _ I7 q7;rw[eX]at cA;refine thn cA λb s8 ar=>?_;let(H8,I8,q8):=ar;have back:∀{b0:St}{H9:Hp}{s9:ϋ},Inv XB ([(D,(its.toArray^^^k))]++ub fp s6.heap) b0 H9 s9->tn (i+1) s9.heap/\(∀b∈fp,H9 b=Y)/\H9 D=Y/\s9.heap.get? D=Z (its.toArray^^^k):=λ{b0 H9 s9} I9=>by
    have z:=I9.pin (D,(its.toArray^^^k)) (pq _ (qh _ (fy.mpr U)));refine(T.keep _ _ _ a4 λb P o e=>(I9.pin (b,o) (pq _ (pq _ (gj P e)))).1,λb P=>?_,z.2.1,z.1);let(o,e,_):=T.obj _ _ a4 b P;exact(I9.pin (b,o) (pq _ (pq _ (gj P e)))).2.1
   cases b with
   |false =>rw[if_neg rF]at q8 ⊢;let(m',hm,w8):=hN _ _ _ q8;let(t1,t2,t3,t4):=back I8;exact(m',hm,i+1,ys,aP,H8,its,k,I8.ng (λq hq=>nomatch hq),t1,t2,t3,t4,v4,w8)|true =>
    rw[if_pos rfl]at q8 ⊢;have cP:=dc _ s8 aP H8 _ I8 q8;rw[eX]at cP;refine thn cP λyv s9 ar=>?_;let(y,H9,I9,r9,n9):=ar;let(m',hm,w9):=hN _ _ _ n9;let(t1,t2,t3,t4):=back I9;have hsz:its.toArray.size<=mu:=by
     have e:=v4.length;have e2:its.toArray.size=its.length:=by simp
     omega
    refine append_at (hsz:=hsz) t4 λh' cE df=>?_;refine(m',hm,i+1,ys++[y],aP,H9,its++[yv],k+1,?_,T.keep _ _ _ t1 λb P o e=>cE.extBut b o (nE (bp b P)) e,t2,t3,?_,v4.append (.cons r9 .nil),w9)
    ·refine(I9.ng (pins':=[]) (λq hq=>nomatch hq)).turned (t':=s9.toks) (it:=D) (λb o P e=>cE.extBut b o P e) t3 ?_ (.inr ?_) (λx c e=>?_) λq hq=>?_
     ·rw[eL];exact a0
     ·rw[eS,ak];exact kB _
     ·rw[ay]at e;exact nE (X1 x c e)
     rw[bt]at hq;exact nomatch hq
    rw[df];simp
  
  refine(cz,by rw[eS],I2.bare,by rw[a3,bD,eH,eS];exact Un.kept old,(_,by rw[eL];exact O9,λj x v h1 h2 h3=>?_),λx c e=>?_,?_,λx c e=>?_,λq hq=>?_,by rw[eP,eW];exact I2.hok.kept old,by rw[eN];exact rg.len)
  ·rw[eN]at h1;let(i,g1,g2,g3,g4):=rg.at h1 h2;let(m,hn,hl):=I2.loc;have hv:Vis X.env.scope x:=by
    obtain z|z:=g4
    ·exact .inr (.inl z)
    exact .inr (.inr z)
   let(u,r,l):=hl i x v g1 g2 hv;refine(u,r,.inr (?_,?_))
   ·rw[eE];exact(m7 g3).symm
   obtain⟨hk,_⟩|⟨_,c,e,z⟩:=l
   ·obtain y|y:=g4
    ·rw[y]at hk;cases hk
    rw[y]at hk;cases hk
   let(c',e'):=Wf x (PySem.mem_of_lookup g3);have:=A2 x c' e';rw[e]at this;cases this;let(o,ho,hd):=z;exact(c,by rw[ay];exact e',o,old c o ho,hd)
  ·rw[ay]at e;let(v,o,ho,hd):=I2.cell x c (A2 x c e);exact(v,o,old c o ho,hd)
  ·rw[eL];exact I2.hok.fresh (by rw[ak];exact wz DC)
  ·rw[ay]at e;exact I2.gw x c (A2 x c e)
  rw[bt]at hq;exact nomatch hq
 exact codeAny_compStart_list (loop _ U) (T.self X.A 0 _ _ _ (T.keep _ _ _ aQ λb P o e=>old b o e) (loop _ U))
def EU(h:(sc.names.all λy=>y.2 != .free ||(X.env.kindOf y.1==Z .cell||X.env.kindOf y.1==Z .free))=O):
  ∀y∈sc.names,y.2=.free->X.env.kindOf y.1=Z .cell\/X.env.kindOf y.1=Z .free:=λy g e=>by
 have z:=PX.mp h y g;rw[e]at z;simpa using z
def Ep{pos:Pos}{wi:TI}{g:TG}
  (V:X.calm=O) (hi:PI X tg iter wi) (P:mO X sc N' cap)
  (K:∀cl C s₂ H₂ fp,PG (blk X N' sc cl C s₂ H₂ fp) tg g/\PTs (blk X N' sc cl C s₂ H₂ fp) ifs tst/\PE (blk X N' sc cl C s₂ H₂ fp) elt te)
  (gv:‹sc.kind=.function›) (fF:autoParam (∀y∈sc.names,y.2 ≠ .cell) zdc._auto_1) (gu:autoParam (∀y∈sc.names,y.2=.local->sc.names.lookup y.1=Z .local) zdc._auto_1)
  (gN:‹(sc.names.all λy=>y.2 != .free ||(X.env.kindOf y.1==Z .cell||X.env.kindOf y.1==Z .free))=true›)
  (hs:∀x,foldedSetIterable iter X.env x=pure x:=by intro _;rfl):PE X (.ListComp elt [(tg,iter,ifs,0)] sc pos) (sU cap wi g tst te):=by
 left;exact Bl V hi gv fF gu (EU gN) P K I h (λD C m H' s' I' f' hn q=>((m,hn,λh' z=>(.ref D,H',(I'.turned (λb o K e=>z.extBut b o K e) f'.1 f'.2.1.symm.symm f'.2.2.2.1 f'.2.2.2.2.1 f'.2.2.2.2.2),U,q)))) hs
variable{d6:Pos}{py:Pos}
def ym
  (hN:X.N.Nodup) (V:X.N[i]?=Z y) (hy:Loc X.env.scope y)
  (hc:X.calm=O) (hi:PI X tg iter wi) (rg:mO X sc N' cap)
  (K:∀cl C s₂ H₂ fp,PG (blk X N' sc cl C s₂ H₂ fp) tg g/\PTs (blk X N' sc cl C s₂ H₂ fp) ifs tst/\PE (blk X N' sc cl C s₂ H₂ fp) elt te)
  (P:‹swapsWith (.ListComp elt [(tg,iter,ifs,0)] sc pos) (Z (.Name y py)) d6.line X.env=pure true›)
  (hf:AT X y:=by first|exact .inl rfl|exact .inr rfl|assumption)
  (gv:‹sc.kind=.function›) (fF:autoParam (∀y∈sc.names,y.2 ≠ .cell) zdc._auto_1) (gu:autoParam (∀y∈sc.names,y.2=.local->sc.names.lookup y.1=Z .local) zdc._auto_1)
  (gN:‹(sc.names.all λy=>y.2 != .free ||(X.env.kindOf y.1==Z .cell||X.env.kindOf y.1==Z .free))=true›)
  (hs:∀x,foldedSetIterable iter X.env x=pure x:=by intro _;rfl):PS X (.Assign [.Name y py] (.ListComp elt [(tg,iter,ifs,0)] sc pos) d6) (iQ (sU cap wi g tst te) (fP i)):=by
 intro gd s σ H Dn I h;rw[exec_Assign_Name_used _ _ _ _ P];refine dN (wpAny_standAt (dN ?_));refine dN (Ux (Bl hc hi gv fF gu (EU gN) rg K I h (λD C m H' s' I' f' hn q=>?_) hs)
(λ_ s' hq=>kA (kA hq)) λ_ _ e=>e)
 let(o,es,ep,ho,hd,hr):=id hn;have I2:=I'.pinned (λb K=>by rw[fy.mp K];exact f') λb K=>by
  rw[fy.mp K];exact(o,ho,λv=>by rw[hd];simp)
 refine wpAny_assign_Name (ij I2 hN V hy (v:=.ref D) U (λs2 I3=>?_) hf);have z:=(I3.pin (C,o) (pq _ (pq _ (gj (fy.mpr U) ho)))).1;exact(m,(o,es,ep,z,hd,hr),λh' Q=>(_,H',(I3.mU.turned (λb o K e=>Q.extBut b o K e) f'.1 f'.2.1 f'.2.2.2.1 f'.2.2.2.2.1 f'.2.2.2.2.2),q))
variable{a:J}
section
theorem xh{K:BT}{xs:Ω}{g:TG}{σ:St}{Q:VK}(Pv:Nat->Ω->St->Hp->Prop)(h0:Pv 0 [] σ H)
  (hl:∀i ys σ H,i<=xs.length->Pv i ys σ H->SqL K H a xs/\ys.length<mu)
  (hs:∀i x ys σ H,xs[i]?=Z x->Pv i ys σ H->g x σ H λz H3=>tst z H3 λb H4=>if b=O then te z H4 λy H5=>Pv (i+1) (ys++[y]) z H5 else Pv (i+1) ys z H4)
  (hd:∀ys σ H,Pv xs.length ys σ H->∀D,H D=Y->Q (.ref D) (upd H D (.lst ys))):
  Q6 g tst te σ Q (Itl K a) H:=by
 refine(λi m ys σ H=>m=xs.length-i/\i<=xs.length/\Pv i ys σ H,(xs.length,ad,zt _,h0),?_);rintro i m ys σ H ⟨rfl,hi,p⟩;let(q,hz):=hl i ys σ H hi p;by_cases P:i<xs.length
 ·refine .inr ((xs,xs[i],q,by simp[P]),hz,Pv (i+1),λar ak H' p'=>(xs.length-(i+1),ap,U,P,p'),λx H' y=>?_);let(e,y):=y;subst e;exact hs i x ys σ _ (y xs q) p
 have e:i=xs.length:=ap;subst e;exact .inl ((xs,q,kB _),wz hz,hd ys σ H p)
inductive U2(x:V)(lo:Option Int)(hi:Option Int)(H:Hp)(Q:VK):Prop
 |mk(z:_)(h1:x=.str z)(h2:z.length<=mu)(h3:Q (.str (Txt.slice z lo hi)) H)
def Rz:SlR X U2:=by
 intro gd s σ H x v vl vu lo hi sl Q I V hs pl pu h;let(z,U,g,q):=h;let(t,U):=V;refine("str",_,PySem.F.slot_str_getitem.lookup,typeIs_str s z t,?_);let(o,h1,h2,h3):=hs;have fin:∀y t' k,y=Txt.slice z lo hi->EP X gd σ Q (.str y t') {s with toks:=k}:=λy t' k e=>by subst e;exact(.str _,H,I.tok k,(_,U),q)
 cases pl with
 |none =>
  cases pu with|none=>exact wpAny_getItem_str_slice (l:=Y) (u:=Y) (st:=Y) (o,h1,h2,h3) U (post_val_or_str (sF (Txt.slice_le z _ _) g,λt' k=>fin _ t' k U))|int j K=>exact wpAny_getItem_str_slice (l:=Y) (u:=Z (j,K)) (st:=Y) (o,h1,h2,h3) U (post_val_or_str (sF (Txt.slice_le z _ _) g,λt' k=>fin _ t' k U))
 |int i P =>cases pu with|none=>exact wpAny_getItem_str_slice (l:=Z (i,P)) (u:=Y) (st:=Y) (o,h1,h2,h3) U (post_val_or_str (sF (Txt.slice_le z _ _) g,λt' k=>fin _ t' k U))|int j K=>exact wpAny_getItem_str_slice (l:=Z (i,P)) (u:=Z (j,K)) (st:=Y) (o,h1,h2,h3) U (post_val_or_str (sF (Txt.slice_le z _ _) g,λt' k=>fin _ t' k U))
def Cc{ys:Γ}:∀{us:Δ},Vals (ys.map V.str) us->StrsAre us ys:=by
 induction ys with
 |nil=>intro us r;cases r;exact .nil
 |cons n ns z =>intro us r;cases r with|cons q g =>let(t,e):=q;subst e;exact .cons n t (z g)
inductive rJoin(K:BT)(x:V)(xs:Ω)(H:Hp)(Q:VK):Prop
 |mk(sep l ys:_)(h1:x=.str sep)(h2:xs=[.ref l])(h3:SqL K H l (ys.map V.str))(h4:(ys.map (·.length)).sum+ys.length*sep.length<=16777216)(h5:Q (.str (Txt.join sep ys)) H)
def ON:MtR X "str.join" (rJoin X.K):=by intro gd s σ H x xs v us Q I g rs h;let(sep,l,ys,U,U,hl,hw,q):=h;let(t,U):=g;let(u,U,ru):=Vals.one rs;cases ru;let(its,r,z,P):=I.list hl;exact join_list z.isList (Cc r:) hw λt' k=>(.str _,H,I.tok k,(_,U),q)
def MO{bs:List Bool}:∀{us:Δ}{i:Nat}{v:B},Vals (bs.map V.bl) us->us[i]?=Z v->∃b,bs[i]?=Z b/\v=.bool b:=by
 induction bs with
 |nil=>intro us i v r h;cases r;simp at h
 |cons b bs z =>intro us i v r h;cases r with|cons q g =>cases i with|zero =>simp only[List.getElem?_cons_zero,Option.some.injEq]at h;subst h;exact(b,ad,q)|succ i =>let(c,h1,h2):=z g (h:);exact(c,(h1:),h2)
def all_range(bs:List Bool):(Fs bs.length).all (λi=>bs.getD i ϊ)=bs.all id:=by
 have e:(Fs bs.length).map (λi=>bs.getD i ϊ)=bs:=by
  apply YY
  ·simp
  intro i h1 h2;simp at h1;simp[h1]
 conv=>rhs;rw[<- e]
 rw[ZI];rfl
def LZ(P:X.calm=O):cL X (.builtin "all") (λxs H Q=>∃(l:J)(bs:List Bool),xs=[.ref l]/\SqL X.K H l (bs.map V.bl)/\Q (.bl (bs.all id)) H):=by
 intro gd s σ H xs us Q I r h;let(l,bs,U,hl,q):=h;let(u,U,ru):=vals1 r;cases ru;let(its,rv,g,hz):=I.list hl;have z:l<s.heap.objs.size:=by let(_,e,_):=g.isList;exact kz e
 have hlen:its.toArray.size=bs.length:=by have e:=rv.length;rw[cU]at e;simp[e]
 refine call_all_walk (wpAny_pyIter_list g.isList ((s.heap.objs.size,[s.heap.objs.size,l],[s.heap.objs.size],its.toArray.size,_,_,λi=>bs.getD i ϊ,U,Walks.list (show X.A.in1.handled=Y from I.ok.hd P) s.heap.objs.size l (rl z) its.toArray,((_,kD _ U,U,U),g.isList.push _),?_,λh' tk hk=>?_)))
 ·intro i v s' Q' E' hP hq;let(b,h1,U):=MO rv (hP:);have e:bs.getD i ϊ=b:=by simp[h1]
  exact wpAny_truthy_bool (e▸hq)
 refine(.bl _,H,I.kept λb o e=>hk b o (rl (kz e):) (gs _ e),U,?_);rw[hlen,all_range];exact q
end
variable{I:J}{fp:Θ}{n:Nat}{ty:String}{Q:Φ}
section
variable{prog:Da}{w:Cl}{E:Φ}{s:ϋ}
def GP:typeLookup (.type "list_reverseiterator") "__len__"=pure none:=bn
def Ls:typeLookup (.type "list_reverseiterator") "__length_hint__"=pure (Z (.builtin "list_reverseiterator.__length_hint__")):=bn
def KY{Q:Bool->ϋ->Prop}(hT:s.TypeIs (.ref I) "list_reverseiterator")(z:∀b tk,s.toks<=tk->Q b {s with toks:=tk}):wpAny (model prog w) A (Builtin.List.listLengthHint (.ref I)) Q E s:=by
 refine dN (Rj hT GP (dN (Rj hT Ls ?_)));generalize g:("list_reverseiterator.__length_hint__")=q
 wp_delta
 rw[show splitId q=Z ("list_reverseiterator","__length_hint__")from by subst g;decide +kernel];subst g;exact dN (Ys (b:=O) hT bn (kA (z _ _ (kB _))))
theorem A9{R:Result->ϋ->Prop}{wr:Θ}{P:Nat->B->Prop}{St:Nat->Do->Prop}(W:Walks prog w A.in1 I fp wr n P St)(hT:∀i (s:ϋ),St i s.heap->s.TypeIs (.ref I) ty)
  (aP:(B.type ty == .type "list" || Value.type ty == .type "tuple")=ϊ) (ay:∀x ∈ ["set","frozenset","dict","dict_keys","dict_values","dict_items"],(B.type ty == .type x)=ϊ)
  (hint:∀(s:ϋ)(Q:Bool->ϋ->Prop)(E:Φ),St 0 s.heap->(∀b tk,s.toks<=tk->Q b {s with toks:=tk})->wpAny (model prog w) A.in1 (Builtin.List.listLengthHint (.ref I)) Q E s)
  (S:J) (res:B) (c₀:Nat) (q:St 0 s.heap) (ak:S ∉ fp) (hI:I∈fp) (hS:s.heap.get? S=Z (#[]^^^c₀))
  (hR:∀s' rA K,Moved (S::wr) (λg g'=>g'=g) s s'->s'.heap.get? S=Z {cls:=.type "list",dict:=Y,data:=.seq rA K,slots:=#[]}->ItemsOf P rA n->R (.ok (.ret res)) s') (hn:n<=mu):
  wpAny (model prog w) A.in1 (Builtin.List.listExtendWith (.ref S) (.ref I) res)
   (λfin s'=>match fin with|.done f=>R (.ok f) s' |.again K=>K.quiet=O/\codeAny (model prog w) A K R s') (λe s'=>R (.error e) s') s:=by
 have aQ:S≠I:=λe=>ak (e▸hI);have h1:Builtin.List.listSameRef (.ref S) (.ref I)=false:=by simp[Builtin.List.listSameRef,aQ]
 refine dN (Tz (hT 0 _ q) ?_);rw[if_neg (by rw[Bool.or_assoc,h1,aP];decide)];refine dN (W.self 0 _ _ _ q (dN (DF (hint _ _ _ q λb tk ar=>?_))));have tail:∀h' V c,s.toks<=V->(∀b o,b≠S->s.heap.get? b=Z o->h'.get? b=Z o)->h'.get? S=Z {cls:=.type "list",dict:=Y,data:=.seq #[] c,slots:=#[]} ->
   wpAny (model prog w) A.in1 (again (.builtin "list.extend.loop" ([.ref S,.ref I,res],[]))) (λfin s'=>match fin with|.done f=>R (.ok f) s' |.again K=>K.quiet=O/\codeAny (model prog w) A K R s') (λe s'=>R (.error e) s') {s with heap:=h',toks:=V}:=by
  intro h' V c ht hk a0;exact kA (HI F.plain_extend_loop _,codeAny_extend_loopS W.toS hn _ ak _ n 0 _ _ _ U (zt _) (W.frame 0 s.heap _ q λb hb o e=>hk b o (λz=>ak (z▸hb)) e) a0 (ItemsOf.nil P) λs' rA K hm wj ib=>hR s' rA K (λb o hb e=>hm.heap b o hb (hk b o (λz=>hb (by rw[z];exact j0)) e),hm.gens,hm.drawn,hm.os,sF ht hm.toks) wj ib)
 cases b with
 |false =>
  rw[if_neg ?_]
  ·exact tail _ _ _ ar (λ_ _ _ e=>e) hS
  intro z;rw[ZZ,P0]at z;let(x,hx,hz):=z;rw[ay x hx]at hz;cases hz
 |true =>refine dN (UU (dN ?_));refine dN (Uv hS U ?_);have av:=Fo (QG (·.push B.none)) hS U;refine Uv av U ?_;have aW:=Fo (QG (·.pop)) av U;exact tail _ _ _ ar (λb o hb e=>(we _ _ (Ne.symm hb)).trans ((we _ _ (Ne.symm hb)).trans e)) aW
theorem ve{P:Nat->B->Prop}{St:Nat->Do->Prop}(W:Walks prog w A.in1.in1 I fp wr n P St)(hT:∀i (s:ϋ),St i s.heap->s.TypeIs (.ref I) ty)
  (ar:(B.type ty == .type "list" || Value.type ty == .type "tuple")=ϊ) (ak:∀x ∈ ["set","frozenset","dict","dict_keys","dict_values","dict_items"],(B.type ty == .type x)=ϊ)
  (hint:∀(s:ϋ)(Q:Bool->ϋ->Prop)(E:Φ),St 0 s.heap->(∀b tk,s.toks<=tk->Q b {s with toks:=tk})->wpAny (model prog w) A.in1.in1 (Builtin.List.listLengthHint (.ref I)) Q E s)
  (av:St 0 s.heap) (ay:∀b∈fp,b<s.heap.objs.size) (hI:I∈fp)
  (hQ:∀s' rA c',Moved (s.heap.objs.size::wr) (λg g'=>g'=g) {s with heap:=s.heap.push (~~~#[])} s' ->
s'.heap.get? s.heap.objs.size=Z {cls:=.type "list",dict:=Y,data:=.seq rA c',slots:=#[]}->ItemsOf P rA n->Q (.ref s.heap.objs.size) s') (hn:n<=mu):
  wpAny (model prog w) A (call (.type "list") [.ref I]) Q E s:=by
 have V:=λhm=>Wo _ (ay _ hm);refine callType_codes (Q₁:=λobj q=>obj=.ref s.heap.objs.size/\q={s with heap:=s.heap.push (~~~#[])}) F.called_list (F.typeCall_list_1 _) F.entry_list_init (code_list_new _ (U,U)) λobj q h₁=>?_;let(U,U):=h₁;have hS:(s.heap.push (~~~#[])).get? s.heap.objs.size=Z (~~~#[]):=kD _ U;refine((_,hS,U),F.args_list_init_2 _ _,(dN (dN (wpAny_seqItems hS U (kA (dN (Uv hS U ?_)))))));have aP:=Fo (QG (λ_=>(#[]))) hS U;have oth:∀b o,b≠s.heap.objs.size->(s.heap.push (~~~#[])).get? b=Z o->((s.heap.push (~~~#[])).update s.heap.objs.size (QG (λ_=>(#[])))).get? b=Z o:=
  λb o K e=>(we _ _ (Ne.symm K)).trans e
 exact A9 (hn:=hn) W hT ar ak hint s.heap.objs.size .none _ (W.frame 0 s.heap _ av λb K o e=>oth b o (λz=>V (z▸K)) (gs _ e)) V hI aP λs' rA c' hm aQ ib=>((U,hQ s' rA c' (λb o K e=>hm.heap b o K (oth b o (λz=>K (by rw[z];exact j0)) e),hm.gens,hm.drawn,hm.os,hm.toks) aQ ib))
end
def sS(K:BT)(te:TE):TE:=λσ H Q=>te σ H λx H1=>∃l ys,x=.ref l/\SqL K H1 l ys/\∀q,H1 q=Y->Q (.ref q) (upd H1 q (.lst ys.reverse))
def zI{its:Array B}(r:Vals ys its.toList)(h:ItemsOf (λi v=>its[its.size-1-i]?=Z v) acc its.size):Vals ys.reverse acc.toList:=by
 have e:acc.toList=its.toList.reverse:=by
  apply List.ext_getElem?;intro i;by_cases hi:i<its.size
  ·have h1:i<acc.size:=by rw[h.1];exact hi
   have h2:=h.2 i acc[i] (by simp[h1]);rw[List.getElem?_reverse (hi:)];simp only[Yx,Zb];rw[h2];simp[h1]
  have h1:¬ i<acc.size:=by rw[h.1];exact hi
  rw[P2 (h1:),P2 (hi:)]
 rw[e];exact Vals.reverse r
variable{l:J}
def wV{σ:St}{s:ϋ}{Q:VK}{ob:Obj}{tk:Nat}{P:Nat->B->Prop}{St:Nat->Do->Prop}{ys:Ω}(I:Inv X gd σ H s)(av:l<s.heap.objs.size)(W:Walks X.prog X.w X.A.in1.in1 s.heap.objs.size [s.heap.objs.size,l] [s.heap.objs.size] n P St)(hT:∀i (s':ϋ),St i s'.heap->s'.TypeIs (.ref s.heap.objs.size) ty)
  (ak:(B.type ty == .type "list" || Value.type ty == .type "tuple")=ϊ) (K:∀x ∈ ["set","frozenset","dict","dict_keys","dict_values","dict_items"],(B.type ty == .type x)=ϊ)
  (hint:∀(s':ϋ)(Q:Bool->ϋ->Prop)(E:Φ),St 0 s'.heap->(∀b tk,s'.toks<=tk->Q b {s' with toks:=tk})->wpAny (model X.prog X.w) X.A.in1.in1 (Builtin.List.listLengthHint (.ref s.heap.objs.size)) Q E s')
  (ar:St 0 (s.heap.push ob)) (hv:∀acc,ItemsOf P acc n->Vals ys acc.toList) (hz:ys.length<=mu) (hn:n<=mu) (q:∀p,H p=Y->Q (.ref p) (upd H p (.lst ys))):
  XV X (call (.type "list") [.ref s.heap.objs.size]) (EP X gd σ Q) X.xe {s with heap:=s.heap.push ob,toks:=tk}:=by
 refine ve W hT ak K hint ar (λb g=>?_) ad (λs' rA c' hm ay ib=>?_) hn
 ·rw[BB];obtain z|z:=kC.mp g
  ·rw[z];exact YB _
  rw[fy.mp z];exact YU av
 rw[Moved.eq_with hm];have kp:=λb o e=>hm.heap b o (λz=>by
  have g:=kz e;obtain z|z:=kC.mp z
  ·rw[z]at g;simp only[BB]at g;lia
  rw[fy.mp z]at g;lia) (gs _ (gs _ e))
 have hf:H ((s.heap.push ob).objs.size)=none:=I.hok.fresh (by rw[BB];lia);exact(.ref _,_,I.laid (o:=.lst ys) kp (by rw[BB];lia) (hz,rA.toList,c',hv rA ib,(ay:)),U,q _ hf)
variable{e:Ev}
def ug{p1 p2 cq pos:Pos}(hc:X.calm=O)(ay:Gl X "list")(ar:X.mg "list"=Y)(av:Gl X "reversed")(ak:X.mg "reversed"=Y)(he:PE X e te)
  (g:‹AD X e›) (V:‹mJ [.Call (.Name "reversed" p2) [e] [] cq] X.env=[(ϊ,eval (.Call (.Name "reversed" p2) [e] [] cq) X.env)]›):
  PE X (.Call (.Name "list" p1) [.Call (.Name "reversed" p2) [e] [] cq] [] pos) (sS X.K te):=by
 left;refine QL (eI I ay ar boot_list (PyProof.Rows.callWith_type1 ?_ V U));show wpAny _ _ (spliced ((ϊ,eval (.Call (.Name "reversed" p2) [e] [] cq) X.env)::backTo pos (mJ [] X.env))) _ _ s;refine Calls.spliced_cons (QL (eI I av ak boot_reversed (PyProof.Rows.callWith_type1 ?_ g U)));rw[g];refine Calls.spliced_cons (thn (he gd s σ H _ I h) λu s1 aP=>?_);let(x,H1,I1,r1,l,ys,ex,hl,q):=aP;subst ex;cases r1;refine Calls.spliced_nil ?_;let(its,rv,P,hz):=I1.list hl;have z:l<s1.heap.objs.size:=by let(_,e,_):=P.isList;exact kz e
 refine call_reversed_list P.isList (Calls.spliced_nil ?_);have W:=Walks.listRev (prog:=X.prog) (w:=X.w) (A:=X.A.in1.in1) (I.ok.hd hc) s1.heap.objs.size l (rl z) its.toArray;exact wV I1 z W (λi s' st=>st.2.1.typeIs) ac ac (λs' Q' E' st hq=>KY st.2.1.typeIs hq) (zt _,(_,kD _ U,U,by simp[revObj]),P.isList.push _) (λacc h=>zI (rv:) h) (by rw[YJ];exact hz) (by rw[qg,<- rv.length];exact hz) q
variable{x:Str}
section
def Ki{y:J}{pos:Pos}(hg:Gl X x)(hm:X.mg x=Z (.ref y))(hd:autoParam (AS x) zdc._auto_1):PE X (.Name x pos) (tC (.ref y)):=Od hg hm U hd
def MA(_ j:Int):Prop:=0<j/\j<18446744073709551616
def Ax:OpR X (binaryOp .FloorDiv) (rI MA λi j=>.int (i / j)):=opI λi j _ _ _ _ _ g q=>by
 let(h1,h2):=g;have e:i.fdiv j=i / j:=Int.fdiv_eq_ediv_of_nonneg _ ap;refine floordiv_int ap (by rw[e];exact q) (.inl (PyProof.noPylong_of_log2 ?_));have h3:j.natAbs<2 ^ 64:=ap;have h4:j.natAbs≠0:=ap;exact YX ((Nat.log2_lt h4).mpr h3) ac
def F5{ys:Γ}{its:Array B}(v:Vals (ys.map V.str) its.toList)(h:autoParam (ys.length<=1000) zdc._auto_1):its.size<=mu:=by
 have e:=v.length;rw[cU]at e;have g:its.toList.length=its.size:=by simp
 have:(1000)<=mu:=ac;lia
end
def dk(s n:Int)(l:J):ϐ:=[(.inr "seed",.int s),(.inr "number",.int n),(.inr "left",.ref l)]
def Hi{s n:Int}:bV (dk s n l) (.inr "number":Key)=Z (.int n):=bn
def Pl{s n:Int}:bV (dk s n l) (.inr "left":Key)=Z (.ref l):=bn
variable{m:Int}
def CF{s n:Int}:putK (dk s n l) (.inr "number":Key) (.int m)=dk s m l:=bn
def JR{s n:Int}:putK (dk s n l) (.inr "seed":Key) (.int m)=dk m n l:=bn
structure cZ(H:Hp)(d l:J)(s n:Int)(ls:Ψ):Prop where
 hd:H d=Z (.dK (dk s n l))
 hl:H l=Z (.lst (ls.map V.int))
 s0:0<=s
 s1:s<2147483647
 n0:0<=n
 l0:∀x∈ls,0<=x
def oC(H:Hp)(d l:J):Prop:=∃s n ls,cZ H d l s n ls
def Kp(d l:J)(H H':Hp):Prop:=∀b o,H b=Z o->b≠d->b≠l->H' b=Z o
variable{d:J}
def Kp.refl:Kp d l H H:=λ_ _ h _ _=>h
variable{ls:Ψ}
def cZ.ne{s n:Int}(D:cZ H d l s n ls):d≠l:=j7 D.hd D.hl (by intro z;cases z)
def cZ.num{s n:Int}(D:cZ H d l s n ls)(h:0<=m):cZ (upd H d (.dK (putK (dk s n l) (.inr "number":Key) (.int m)))) d l s m ls:=
 (by rw[aA,CF],by rw[au D.ne.symm];exact D.hl,D.s0,D.s1,h,D.l0)
def cZ.WV{s n:Int}(D:cZ H d l s n ls)(h:0<=m)(h2:m<2147483647):cZ (upd H d (.dK (putK (dk s n l) (.inr "seed":Key) (.int m)))) d l m n ls:=
 (by rw[aA,JR],by rw[au D.ne.symm];exact D.hl,h,h2,D.n0,D.l0)
def cZ.list{s n:Int}(D:cZ H d l s n ls)(h:∀x∈ls',0<=x):cZ (upd H l (.lst (ls'.map V.int))) d l s n ls':=
 (by rw[au D.ne];exact D.hd,aA,D.s0,D.s1,D.n0,h)
variable{H1:Hp}
def Kp.Rf(a:Kp d l H H1):Kp d l H (upd H1 d o):=λc u h h1 h2=>by rw[au h1];exact a c u h h1 h2
def Kp.WS(a:Kp d l H H1):Kp d l H (upd H1 l o):=λc u h h1 h2=>by rw[au h2];exact a c u h h1 h2
def mH.new(a:mH H H1)(hp:H1 p=Y):mH H (upd H1 p o):=λc u h=>by
 have z:=a c u h;rw[au (bj z hp)];exact z
def oC.new(D:oC H d l)(hp:H p=Y):oC (upd H p o) d l:=by let(s,n,ls,D):=D;exact(s,n,ls,by rw[au (bj D.hd hp)];exact D.hd,by rw[au (bj D.hl hp)];exact D.hl,D.s0,D.s1,D.n0,D.l0)
inductive Iw(vs:Ω)(H:Hp)(Q:VK)(_:XK):Prop
 |mk(d l:J)(m:Int)(h1:vs=[.ref d,.int m])(h2:oC H d l)(h3:0<m)(h4:m<18446744073709551616)(h5:∀(r:Int)(H':Hp),0<=r->r<m->oC H' d l->Kp d l H H'->Q (.int r) H')
inductive Rw(K:BT)(vs:Ω)(H:Hp)(Q:VK)(_:XK):Prop
 |mk(a:J)(ns:Ψ)(b:Int)(h1:vs=[.ref a,.int b])(h2:SqL K H a (ns.map V.int))(h3:ns.length<=63)(h4:0<=b)(h5:b<=63)(h6:∀(d l:J)(H':Hp),H d=Y->H l=Y->oC H' d l->mH H H'->Q (.ref d) H')
variable{D:Ends}
def FQ{c:TT}{tb:TS}{σ:St}(I:Nat->St->Hp->Prop){m:Nat}(h0:I m σ H)(q:∀m σ H,I m σ H->D.nx σ H)
  (hs:∀m σ H,I m σ H->D.nx σ H->c σ H λb H1=>if b=O then ∃N:St->Hp->Prop,(∀g H',N g H'->∃m',m'<m/\I m' g H')/\tb {D with nx:=N,ct:=N,bk:=D.nx} σ H1 else D.nx σ H1):B7 c tb D σ H:=
 (I,(m,h0),λm σ H h=>hs m σ H h (q m σ H h))
def cZ.Lx{s n:Int}(D:cZ H d l s n ls):gG H d (.str "seed") (Z (.int s)):=by have z:=gG.k (k:=(Sum.inr "seed")) D.hd;exact z
def cZ.Wk{s n:Int}(D:cZ H d l s n ls):gG H d (.str "number") (Z (.int n)):=by have z:=gG.k (k:=(Sum.inr "number")) D.hd;rw[Hi]at z;exact z
def cZ.QP{s n:Int}(D:cZ H d l s n ls):gG H d (.str "left") (Z (.ref l)):=by have z:=gG.k (k:=(Sum.inr "left")) D.hd;rw[Pl]at z;exact z
def cZ.Vz{s n:Int}(D:cZ H d l s n ls):zC H d (.str "number") (.int m) (upd H d (.dK (putK (dk s n l) (.inr "number":Key) (.int m)))):=
 zC.k (k:=(Sum.inr "number")) D.hd (aD (by show 3<=1000;decide))
def cZ.Vu{s n:Int}(D:cZ H d l s n ls):zC H d (.str "seed") (.int m) (upd H d (.dK (putK (dk s n l) (.inr "seed":Key) (.int m)))):=
 zC.k (k:=(Sum.inr "seed")) D.hd (aD (by show 3<=1000;decide))
def mod_lt{x:Int}(h:0<m):0<=x % m/\x % m<m:=(Int.emod_nonneg _ ap,Int.emod_lt_of_pos _ h)
end L2
namespace L2
def LU(ns:Ψ)(lo hi:Option Int):∃cs:Ψ,og (ns.map V.int) lo hi=cs.map V.int/\cs.length<=ns.length:=by
 refine((ns.drop (HT.sIx ns.length 0 lo)).take (HT.sIx ns.length ns.length hi-HT.sIx ns.length 0 lo),?_,?_)
 ·unfold og;rw[cU,<- Zx,<- Zf]
 rw[qr,Yr];exact sF (ZA _ _) (Nat.sub_le _ _)
variable{ns:Ψ}
def int_at{i:Nat}(h:(ns.map V.int)[i]?=Z x):∃z,x=.int z:=by
 rw[fN]at h;cases e:ns[i]? with
 |none=>rw[e]at h;cases h
 |some z=>rw[e]at h;exact(z,(Option.some.inj h).symm)
def O6{i:Nat}{x:V}(h:(ns.map V.int)[i]?=Z x):∃z,x=.int z/\z∈ns:=by
 rw[fN]at h;cases e:ns[i]? with
 |none=>rw[e]at h;cases h
 |some z=>rw[e]at h;exact(z,(Option.some.inj h).symm,g5 e)
end L2
namespace L2
open PySem
def L7{α:Type}{xs:List α}{i:Int}(h0:0<=i)(h1:i<xs.length):∃v,atI xs i=Z v/\v∈xs:=by obtain⟨n,rfl⟩:∃n:Nat,i=n:=(i.toNat,ap);have h2:n<xs.length:=ap;refine(xs[n],?_,P1 h2);unfold atI ixN;simp[h2]
variable{n:Nat}
def bF(h:n<=10000):n<=mu:=by have:(10000)<=mu:=ac;lia
end L2
namespace L2
open PySem PySem.Spec PyProof.Rows
def strOf:Ev->Option Str
 |.Constant (.str x) _ _=>Z x|_=>Y
def strsOf:List Ev->Option (Γ)
 |[]=>Z []|e::r=>(strOf e).bind λx=>(strsOf r).map (x :: ·)
variable{e:Ev}{x:Str}
def FZ(h:strOf e=Z x):∃j p,e=.Constant (.str x) j p:=by
 cases e with
 |Constant c j p=>cases c with
  |str y=>cases h;exact(j,p,U)
  |_=>cases h
 |_=>cases h
variable{X:Cx}{es:List Ev}
def Ol:∀{ws:Γ},strsOf es=Z ws->PA X es (λ_ H Q=>Q (ws.map V.str) H):=by
 induction es with
 |nil=>intro ws h;cases h;exact eB
 |cons e es q =>intro ws h;let(x,h1,h2):=ZC.mp h;let(g,h3,U):=gV.mp h2;let(j,p,U):=FZ h1;exact cn dO (q h3)
end L2
namespace L2
variable{H:Hp}
def Pe{i:Nat}{x:V}{σ:St}{A ώ:St->Hp->Prop}(h:A (σ.set i (Z x)) H):fP i x σ H λg z=>DU g z λb q=>if b=O then A g q else ώ g q:=by exact h
end L2
namespace L2
open PySem PySem.Spec PyProof.Rows
section
variable{X:Cx}
def jB(z:Str)(n:Nat):Str:=⟨(rG n z.cps).foldl (·++·) #[]⟩
theorem zV(c:Array Nat):∀(n:Nat)(acc:Array Nat),((rG n c).foldl (·++·) acc).size=acc.size+n*c.size
 | 0,acc=>by simp|n+1,acc=>by
  rw[YK,Zk,zV c n,Array.size_append,Nat.add_mul];lia
def iB(z:Str)(n:Nat):(jB z n).length=n*z.length:=by have h:=zV z.cps n #[];simpa [jB,Str.length]using h
def CM:OpR X (binaryOp .Mult) (λx y H Q=>∃ z n,x=.str z/\y=.int n/\0<=n/\n<=1000/\z.length<=1000/\Q (.str (jB z n.toNat)) H):=by
 intro gd s σ H x y v u Q I V K h;let(z,n,U,U,n0,n1,hz,q):=h;let(t,U):=V;let(t',U):=K;have fin:∀(y:Str)(t' k:Nat),y=jB z n.toNat->EP X gd σ Q (.str y t') {s with toks:=k}:=λy t' k e=>by subst e;exact(.str _,H,I.tok k,(_,U),q)
 have hp:=by have h1:(z.length:Int)*n<=1000*n:=Ze ap n0;omega
 refine P.mul_str ?_ (λh1 _=>?_) (λh1 _=>?_) ?_
 ·rw[decide_eq_false ap,decide_eq_false ap];rfl
 ·have h2:(1000:Int) <=(2 ^ 63-1) / n:=by rw[Int.le_ediv_iff_mul_le ap];omega
  omega
 ·have h2:=by
   have e:((z.length*n.toNat:Nat):Int)=(z.length:Int)*n:=by rw[ZL,Xy n0]
   omega
  have:=YW;exact decide_eq_false ap
 by_cases h1:n<1
 ·rw[if_pos h1];have e:n.toNat=0:=ap;exact(ac,fin _ _ _ (by rw[e];rfl))
 rw[if_neg h1];by_cases h2:(n==1||z.length==0)=O
 ·rw[if_pos h2];refine fin z t s.toks ?_;have h3:=(h2:);obtain h3|h3:=h3
  ·subst h3;show z=⟨#[]++z.cps⟩;simp
  have e1:z.cps=#[]:=by simpa [Str.length]using h3
  have g:=iB z n.toNat;rw[h3]at g;have e3:=by simpa [Str.length]using g
  exact Str.ext' (by rw[e1,e3])
 rw[if_neg h2];refine(?_,fin _ _ _ U);have e:=iB z n.toNat;have h3:=by
  have e:((n.toNat*z.length:Nat):Int)=(z.length:Int)*n:=by rw[ZL,Xy n0,Int.mul_comm]
  omega
 have:=YW;show(jB z n.toNat).length<=mu;omega
end
end L2
namespace L2
open PySem
def uy(n:Nat):Nat:=97+n % 26
def dX(c1 c2:Str)(turn k:Nat):Str:=c1++⟨#[uy (turn+7*k)]⟩++c2++jB "x" (k % 2)++jB "y" (k / 26)
def vf(c1 c2:Str)(turn k:Nat):(dX c1 c2 turn k).cps.toList=c1.cps.toList++uy (turn+7*k) ::(c2.cps.toList++(jB "x" (k % 2)).cps.toList++(jB "y" (k / 26)).cps.toList):=by simp[dX,Str.cps_append]
def xo(c1 c2:Str)(turn k:Nat):(dX c1 c2 turn k).length=c1.length+1+c2.length+k % 2+k / 26:=by unfold dX;rw[Str.length_append,Str.length_append,Str.length_append,Str.length_append,iB,iB,show(⟨#[uy (turn+7*k)]⟩:Str).length=1 from U,show(Str.ofString "x").length=1 from by decide +kernel,show(Str.ofString "y").length=1 from by decide +kernel];lia
def WB{x y:Nat}(h:a++x::b=a++y::c):x=y:=by have:=Yv h;exact(List.cons.inj this).1
variable{turn:Nat}{j:Nat}
def GY{k:Nat}(hk:k<52)(g:j<52)(h:uy (turn+7*k)=uy (turn+7*j)):k % 26=j % 26:=by
 have h':∀a:Fin 26,∀b:Fin 26,∀c:Fin 26,(a.val+7*b.val) % 26=(a.val+7*c.val) % 26->b=c:=bi;have e:∀k,(turn % 26+7*(k % 26)) % 26=(turn+7*k) % 26:=λk=>by rw[Nat.add_mod,Nat.mod_mod,Nat.mul_mod_mod,<- Nat.add_mod]
 have h:=Nat.add_left_cancel h;rw[<- e,<- e j]at h;exact congrArg Fin.val (h' (turn % 26,Z3 _ ac) (k % 26,Z3 _ ac) (j % 26,Z3 _ ac) h)
def Ec:(jB "y" 1).cps.toList=[121]:=bi
def zU(z:Str):(jB z 0).cps.toList=[]:=by simp[jB]
variable{c1:Str}{c2:Str}
def xA(hk:k<52)(V:j<52)(P:k≠j)(he:e=Str.empty\/e="q")(hf:f=Str.empty\/f="q"):dX c1 c2 turn k++e≠dX c1 c2 turn j++f:=by
 intro h;have K:=by have:=congrArg (λz=>z.cps.toList) h;simpa [Str.cps_append]using this
 rw[vf,vf]at K;simp only[vt,Zd]at K;have hm:=GY hk V (WB K);have h1:k % 2=j % 2:=by rw[<- Z4 k (by decide:2∣26),hm,Z4 j (by decide:2∣26)]
 have hd:=(by decide +kernel:∀a b:Fin 52,a≠b->a.val % 26=b.val % 26->(a.val / 26=0/\b.val / 26=1)\/(a.val / 26=1/\b.val / 26=0)) (k,hk) (j,V) (λz=>P (congrArg Fin.val z)) hm;have tail:=(List.cons.inj (Yv K)).2;rw[h1]at tail;have g:=Yv (Yv tail);have eq:(Str.ofString "q").cps.toList=[113]:=bi;have ee:Str.empty.cps.toList=[]:=rfl;obtain⟨d1,Q⟩|⟨d1,Q⟩:=hd
 ·rw[d1,Q,zU,Ec]at g;obtain rfl|rfl:=he
  ·rw[ee]at g;simp at g
  rw[eq]at g;have:=congrArg List.head? g;simp at this
 rw[d1,Q,zU,Ec]at g;obtain rfl|rfl:=hf
 ·rw[ee]at g;simp at g
 rw[eq]at g;have:=congrArg List.head? g;simp at this
theorem nodup_range(h:∀i j,i<n->j<n->i≠j->f i≠f j):((Fs n).map f).Nodup:=by rw[Zp,Xt];refine List.Pairwise.imp_of_mem ?_ (Zp.mp List.nodup_range);intro i j hi q g;exact h i j (YL.mp hi) (YL.mp q) g
variable{ws:Γ}
def GQ{i:Nat}{w:Str}(h:ws.Nodup)(hw:w ∉ ws):(ws.set i w).Nodup:=by
 induction ws generalizing i with
 |nil=>simp|cons a r K =>
  let(h1,h2):=vp.mp h;have q:w≠a:=λz=>hw (by simp[z]);have g:=λz=>hw (j5 _ z);cases i with
  |zero=>exact vp.mpr (g,h2)|succ i =>
   refine vp.mpr (λz=>?_,K h2 g);obtain z|z:=YF z
   ·exact h1 z
   exact q z.symm
end L2
namespace L2
open PySem
variable{ws:Γ}
def O7{w:Str}(h:inV (.str w) (ws.map V.str)=ϊ):w ∉ ws:=λhm=>by
 unfold inV at h;rw[Zv]at h;exact h (.str w) (kf.mpr (w,hm,U)) (show(w==w)=O from beq_self_eq_true w)
def wordOf(kept:Γ)(c1 c2:Str)(turn k:Nat):Str:=dX c1 c2 turn k++(if inV (.str (dX c1 c2 turn k)) (kept.map V.str)=O then("q":Str)else Str.empty)
variable{c1:Str}{c2:Str}{turn:Nat}{j:Nat}
def FP{kept:Γ}{k:Nat}(hk:k<52)(q:j<52)(g:k≠j):wordOf kept c1 c2 turn k≠wordOf kept c1 c2 turn j:=by
 refine xA hk q g ?_ ?_
 ·split
  ·exact .inr U
  exact .inl U
 split
 ·exact .inr U
 exact .inl U
def BW{kept:Γ}{k:Nat}(h1:c1.length<=5)(h2:c2.length<=5)(hk:k<52):1 <=(wordOf kept c1 c2 turn k).length/\(wordOf kept c1 c2 turn k).length<=20:=by unfold wordOf;rw[Str.length_append,xo];have l0:Str.empty.length=0:=rfl;have g:(Str.ofString "q").length=1:=bi;split <;> lia
end L2
namespace L2
open PySem PySem.Spec PyProof.Rows
abbrev Mk1:=Str×Γ
abbrev Kd:=Str×List Mk1
abbrev ϖ:=List Kd
def c6(ks:List Kd)(k:Str):List Mk1:=match ks.find? (λx=>decide (x.1=k))with|some x=>x.2|none=>[]
def yE(h:ks[i]?=Z x)(hx:x.1=k)(hn:∀(j:Nat)(y:Kd),j<i->ks[j]?=Z y->y.1≠k):c6 ks k=x.2:=by induction ks generalizing i with|nil=>simp at h|cons a r g =>cases i with|zero =>simp at h;subst h;simp[c6,hx]|succ i =>have h0:=hn 0 a ap ad;have z:=g (h:) λj y K q=>hn (j+1) y ap (q:);unfold c6 at z ⊢;rw[zr,decide_eq_false h0];exact z
def OO{ks:List Kd}{k:Str}(hn:∀(j:Nat)(y:Kd),ks[j]?=Z y->y.1≠k):c6 ks k=[]:=by unfold c6;rw[Z5.mpr];intro x hx;let(j,g,U):=List.mem_iff_getElem.mp hx;have:=hn j ks[j] ad;simpa using this
variable{it:J}{items:Array B}{Q:Φ}{h':Do}{tp:Bool}{l:J}{z:J}{i1:J}{i2:J}{l1:J}{l2:J}{t1:Bool}{t2:Bool}{k1:Nat}{k2:Nat}{xs:Array B}{ys:Array B}
section
variable{prog:Da}{w:Cl}{A:Db}{E:Φ}{s:ϋ}
theorem vZ{i:Nat}{x:B}(hit:s.heap.IsTupleIter it t i)(z:s.heap.IsTuple t items)(hx:items[i]?=Z x)
  (P:∀h',h'.IsTupleIter it t (i+1)->YQ it s.heap h'->Q x {s with heap:=h'}):wpAny (model prog w) A (Builtin.SmallTypes.nextOf (.ref it)) Q E s:=by
 let(o,ho,K,hd):=id hit;let(ol,g,_,nl,q):=z;refine dN (wpAny_callSpecial?_slot hit.typeIs F.slot_tuple_iterator_next
(E3 F.slot_tuple_iterator_next hit.typeIs F.entry_tuple_iterator_next ?_ (F.args_tuple_iterator_next_1 _)))
 show wpAny _ _ (field (.ref it) 0 >>= _) _ _ s;refine dN (wpAny_field ho hd U (dN (wpAny_field ho hd U (dN (wpAny_seqItems g q ?_)))));simp only[P4,hx];refine dN (wpAny_setField ho hd ad (kA (x,U,kA (P _ ?_ (Heap.SameBut.update ..)))));exact(_,Fo _ ho (Obj.isFreed_of_fields (Z6 hd _)),(Obj.cls_mapFields ..).trans K,by
  rw[Z6 hd];simp[rawInt])
theorem yA{i:Nat}(K:A.handled=Y)(hit:s.heap.IsTupleIter it t i)(z:s.heap.IsTuple t items)(hx:items[i]?=Y)
  (hE:∀h' e,ZQ it s.heap h'->(∃o,h'.get? e=Z o/\o.cls=.type "StopIteration")->E (.ref e) {s with heap:=h'}):wpAny (model prog w) A (Builtin.SmallTypes.nextOf (.ref it)) Q E s:=by
 let(o,ho,P,hd):=id hit;let(ol,g,_,nl,q):=z;refine dN (wpAny_callSpecial?_slot hit.typeIs F.slot_tuple_iterator_next
(E3 F.slot_tuple_iterator_next hit.typeIs F.entry_tuple_iterator_next ?_ (F.args_tuple_iterator_next_1 _)))
 show wpAny _ _ (field (.ref it) 0 >>= _) _ _ s;refine dN (wpAny_field ho hd U (dN (wpAny_field ho hd U (dN (wpAny_seqItems g q ?_)))));simp only[P4,hx];refine dN (UU (dN (wpAny_setField ho hd ad (dN (dN (m:=firstArgMember _ _) (YO ba (Xx (dN (wpAny_handled ?_)) (by size_fits))))))));rw[K];exact dN (kA (wpAny_throw (hE _ _ (((Heap.SameBut.update ..).extBut.push _).push _) (_,kD _ U,U))))
def aT(h:Do)(tp:Bool)(it l:J)(k:Nat):Prop:=if tp=O then h.IsTupleIter it l k else h.IsListIter it l k
def bb(h:Do)(tp:Bool)(l:J)(items:Array B):Prop:=if tp=O then h.IsTuple l items else h.IsList l items
def aT.at(x:aT h tp it l k)(e:∀o,h.get? it=Z o->h'.get? it=Z o):aT h' tp it l k:=by cases tp with|true=>let(o,ho,r):=(x);exact((o,e o ho,r))|false=>let(o,ho,r):=(x);exact((o,e o ho,r))
def bb.at(x:bb h tp l items)(e:∀o,h.get? l=Z o->h'.get? l=Z o):bb h' tp l items:=by cases tp with|true=>let(o,ho,r):=(x);exact((o,e o ho,r))|false=>let(o,ho,r):=(x);exact((o,e o ho,r))
def aT.obj(x:aT h tp it l k):∃o,h.get? it=Z o/\∀v,o.data ≠ .cell v:=by cases tp with|true=>let(o,ho,_,hd):=(x);exact(o,ho,λv=>by rw[hd];simp)|false=>let(o,ho,_,hd):=(x);exact(o,ho,λv=>by rw[hd];simp)
def next_item(hit:aT s.heap tp it l i)(hl:bb s.heap tp l items)(hx:items[i]?=Z x)
  (g:∀h',aT h' tp it l (i+1)->YQ it s.heap h'->Q x {s with heap:=h'}):wpAny (model prog w) A (Builtin.SmallTypes.nextOf (.ref it)) Q E s:=by
 cases tp with|true=>exact vZ hit hl hx g|false=>exact wpAny_nextOf_list_item hit hl hx g
def next_end(g:A.handled=Y)(hit:aT s.heap tp it l i)(hl:bb s.heap tp l items)(hx:items[i]?=Y)
  (hE:∀h' e,ZQ it s.heap h'->(∃o,h'.get? e=Z o/\o.cls=.type "StopIteration")->E (.ref e) {s with heap:=h'}):wpAny (model prog w) A (Builtin.SmallTypes.nextOf (.ref it)) Q E s:=by
 cases tp with|true=>exact yA g hit hl hx hE|false=>exact wpAny_nextOf_list_end g hit hl hx hE
theorem zF{TI TO:J}{x y a b:B}{Q:Option B->ϋ->Prop}(D:ZipApart z TI TO i1 i2 l1 l2)
  (hz:IsZip s.heap z TI TO .none) (cA:IsPair s.heap TI (.ref i1) (.ref i2)) (cz:IsPair s.heap TO a b)
  (h1:aT s.heap t1 i1 l1 k1) (h2:aT s.heap t2 i2 l2 k2) (ct:bb s.heap t1 l1 xs) (cq:bb s.heap t2 l2 ys) (hx:xs[k1]?=Z x) (hy:ys[k2]?=Z y)
  (hQ:∀h',IsZip h' z TI TO (rawInt s.heap.objs.size)->IsPair h' TO x y->aT h' t1 i1 l1 (k1+1)->aT h' t2 i2 l2 (k2+1)->IsPair h' s.heap.objs.size x y->h'.objs.size=s.heap.objs.size+1 ->
(∀c o,c≠z->c≠TO->c≠i1->c≠i2->s.heap.get? c=Z o->h'.get? c=Z o)->Q (Z (.ref s.heap.objs.size)) {s with heap:=h'}):
  wpAny (model prog w) A (pyNext (.ref z)) Q E s:=by
 have hT:s.TypeIs (.ref z) "zip":=(_,hz,U);unfold pyNext;refine dN (Yt (wpAny_callSpecial?_slot hT F.slot_zip_next
(E3 F.slot_zip_next hT F.entry_zip_next ?_ (F.args_zip_next_1 _))))
 show wpAny _ _ (field (.ref z) 2 >>= _) _ _ _;refine dN (wpAny_field hz U (x:=.bool ϊ) U ?_);refine dN (wpAny_field hz U (x:=.ref TI) U ?_);refine dN (wpAny_seqItems cA U ?_);refine dN ?_;refine dN (wpAny_field hz U (x:=.none) U (kA ?_));simp only[if_true];refine dN (UU ?_);refine dN (wpAny_field hz U (x:=.ref TO) U ?_);refine dN (wpAny_setField_rec hz ad λh₁ a4 g=>?_);refine dN ?_;simp only[List.zipIdx_cons,List.zipIdx_nil,Y1,List.forIn_nil];refine dN (dN (wpAny_onRaise ?_));refine dN (next_item (h1.at λo e=>g.extBut _ o D.i1z e) (ct.at λo e=>g.extBut _ o D.l1z e) hx λbT bt P=>kA ?_);have Lw:IsPair bT TO a b:=P.extBut _ _ D.TOi1 (g.extBut _ _ D.TOz cz);refine dN (wpAny_seqItems Lw U ?_);refine dN (wpAny_updateSeq_pair Lw λcK Wi K=>?_);refine dN (wpAny_letGo (kA ?_));refine dN (dN (wpAny_onRaise ?_));refine dN (next_item (h2.at λo e=>K.extBut _ o D.TOi2.symm (P.extBut _ o D.i12.symm (g.extBut _ o D.i2z e)))
(cq.at λo e=>K.extBut _ o D.l2TO (P.extBut _ o D.l2i1 (g.extBut _ o D.l2z e))) hy λbD bh ak=>kA ?_)
 have Wh:IsPair bD TO x b:=ak.extBut _ _ D.TOi2 Wi;refine dN (wpAny_seqItems Wh U ?_);refine dN (wpAny_updateSeq_pair Wh λq Pd V=>?_);replace Pd:IsPair q TO x y:=Pd;refine dN (wpAny_letGo (kA (kA ?_)));refine dN (wpAny_seqItems Pd U ?_);refine dN (wpAny_newTuple ?_);have hsz:q.objs.size=s.heap.objs.size:=by rw[V.1,ak.1,K.1,P.1,g.1]
 have aQ:IsZip q z TI TO .ellipsis:=V.extBut _ _ D.TOz.symm (ak.extBut _ _ D.i2z.symm (K.extBut _ _ D.TOz.symm (P.extBut _ _ D.i1z.symm a4)));have a5:∀c o,c≠z->c≠TO->c≠i1->c≠i2->s.heap.get? c=Z o->q.get? c=Z o:=λc o c1 c2 c3 c4 e =>
  V.extBut _ _ c2 (ak.extBut _ _ c4 (K.extBut _ _ c2 (P.extBut _ _ c3 (g.extBut _ _ c1 e))))
 have bp:=bt.at λo e=>V.extBut _ o D.TOi1.symm (ak.extBut _ o D.i12 (K.extBut _ o D.TOi1.symm e));have a6:=bh.at λo e=>V.extBut _ o D.TOi2.symm e;have V0:z<q.objs.size:=kz aQ;refine dN ?_;have a3:IsZip (q.push {cls:=.type "tuple",data:=.seq #[x,y]}) z TI TO .ellipsis:=gs _ aQ;refine dN (wpAny_setField_rec a3 ad λcE a0 av=>?_);refine wpAny_setField_rec a0 ad λay aP ar=>?_;have up:∀c o,c≠z->q.get? c=Z o->ay.get? c=Z o:=λc o c1 e=>ar.extBut _ _ c1 (av.extBut _ _ c1 (gs _ e));have aW:IsPair ay q.objs.size x y:=ar.extBut _ _ (D7 V0) (av.extBut _ _ (D7 V0) (kD _ U));have b0:ay.objs.size=q.objs.size+1:=by rw[ar.1,av.1,BB]
 rw[hsz]at aP aW b0;refine kA (_,U,kA ?_);rw[hsz];exact hQ ay aP (up _ _ D.TOz Pd) (bp.at λo e=>up _ o D.i1z e) (a6.at λo e=>up _ o D.i2z e) aW b0 λc o c1 c2 c3 c4 e=>up c o c1 (a5 c o c1 c2 c3 c4 e)
theorem DL{TI TO:J}{a b:B}{Q:Option B->ϋ->Prop}(hh:A.handled=Y)(D:ZipApart z TI TO i1 i2 l1 l2)
  (hz:IsZip s.heap z TI TO .none) (bh:IsPair s.heap TI (.ref i1) (.ref i2)) (a6:IsPair s.heap TO a b)
  (h1:aT s.heap t1 i1 l1 k1) (h2:aT s.heap t2 i2 l2 k2) (a4:bb s.heap t1 l1 xs) (a5:bb s.heap t2 l2 ys) (uM:xs[k1]?=Y\/ys[k2]?=Y)
  (hQ:∀h',(∀c o,c≠z->c≠TO->c≠i1->c≠i2->s.heap.get? c=Z o->h'.get? c=Z o)->Q Y {s with heap:=h'}):wpAny (model prog w) A (pyNext (.ref z)) Q E s:=by
 have hT:s.TypeIs (.ref z) "zip":=(_,hz,U);have fin:∀h' e,(∀c o,c≠z->c≠TO->c≠i1->c≠i2->s.heap.get? c=Z o->h'.get? c=Z o)->(∃ o,h'.get? e=Z o/\o.cls=.type "StopIteration") ->
   wpAny (model prog w) A (do if <- isInstance (.ref e) (.type "StopIteration")then pure Y else throw (.ref e)) Q E {s with heap:=h'}:=λh' e hk he=>by
  let(o,ho,hc):=he;refine dN (Ys (o,ho,hc) isSubtype_stop ?_);exact kA (hQ _ hk)
 refine dN (Yt (wpAny_callSpecial?_slot hT F.slot_zip_next
(E3 F.slot_zip_next hT F.entry_zip_next ?_ (F.args_zip_next_1 _))))
 show wpAny _ _ (field (.ref z) 2 >>= _) _ _ _;refine dN (wpAny_field hz U (x:=.bool ϊ) U (dN (wpAny_field hz U U (dN (wpAny_seqItems bh U (dN (dN (wpAny_field hz U U (kA (dN (UU (dN (wpAny_field hz U (x:=.ref TO) U (dN (wpAny_setField_rec hz ad λh₁ ar g=>(dN ?_))))))))))))))));simp only[List.zipIdx_cons,List.zipIdx_nil,Y1,List.forIn_nil];refine dN (dN (wpAny_onRaise ?_));cases hx:xs[k1]? with
 |none =>
  refine dN (next_end hh (h1.at λo e=>g.extBut _ o D.i1z e) (a4.at λo e=>g.extBut _ o D.l1z e) hx λa3 e q he=>?_);let(oe,P,aP):=he;have ak:=q _ _ D.i1z.symm ar;have aW:e≠z:=λx=>by subst x;rw[ak]at P;cases P;simp at aP
  refine wpAny_setField_rec ak ad λaQ _ K=>fin aQ e (λc o c1 _ c3 _ x=>K.extBut _ _ c1 (q _ _ c3 (g.extBut _ _ c1 x))) (oe,K.extBut _ _ aW P,aP)
 |some x =>
  have hy:ys[k2]?=none:=by obtain h|h:=uM;rw[hx]at h;cases h;exact h
  refine dN (next_item (h1.at λo e=>g.extBut _ o D.i1z e) (a4.at λo e=>g.extBut _ o D.l1z e) hx λa3 bp q=>kA ?_);have Lw:=q.extBut _ _ D.TOi1 (g.extBut _ _ D.TOz a6);refine dN (wpAny_seqItems Lw U (dN (wpAny_updateSeq_pair Lw λaQ Wi K=>(dN (wpAny_letGo (kA (dN (dN (wpAny_onRaise ?_)))))))));refine dN (next_end hh (h2.at λo e=>K.extBut _ o D.TOi2.symm (q.extBut _ o D.i12.symm (g.extBut _ o D.i2z e)))
(a5.at λo e=>K.extBut _ o D.l2TO (q.extBut _ o D.l2i1 (g.extBut _ o D.l2z e))) hy λbt e ay he=>?_)
  let(oe,P,aP):=he;have V:=ay _ _ D.i2z.symm (K.extBut _ _ D.TOz.symm (q.extBut _ _ D.i1z.symm ar));have aW:e≠z:=λx=>by subst x;rw[V]at P;cases P;simp at aP
  refine wpAny_setField_rec V ad λa0 _ av=>fin a0 e (λc o c1 c2 c3 c4 x=>av.extBut _ _ c1 (ay _ _ c4 (K.extBut _ _ c2 (q.extBut _ _ c3 (g.extBut _ _ c1 x))))) (oe,av.extBut _ _ aW P,aP)
end
def mE(ks:List Kd):Γ:=ks.flatMap λk=>k.2.flatMap (·.2)
def yW(ks:List Kd)(k:Str):Γ:=(c6 ks k).flatMap (·.2)
inductive Reach(ks:List Kd)(a:Str):Str->Prop where
 |here:Reach ks a a|step{b c:Str}:Reach ks a b->c∈yW ks b->Reach ks a c
variable{ws:Γ}
def sd:inV (.str w) (ws.map V.str)=O ↔ w∈ws:=by
 constructor
 ·intro h;by_cases hm:w∈ws
  ·exact hm
  exfalso;unfold inV at h;rw[P0]at h;let(x,hx,e):=h;let(z,g,U):=kf.mp hx;have:=eq_of_beq (e);exact hm (this▸g)
 intro h;unfold inV;rw[P0];exact(.str w,kf.mpr (w,h,U),beq_self_eq_true w)
def uv:c6 ks k=[]\/∃x∈ks,c6 ks k=x.2/\x.1=k:=by unfold c6;cases e:ks.find? (λx=>decide (x.1=k))with|none=>exact .inl U|some x=>exact .inr (x,YG e,U,by have z:=ZM e;simpa using z)
def A7{ks:List Kd}{k f:Str}(h:f∈yW ks k):f∈mE ks:=by
 unfold yW at h;obtain e |⟨x,hx,e,_⟩:=uv
 ·rw[e]at h;simp at h
 rw[e]at h;exact Wc.mpr (x,hx,h)
def un(ϊ rs:Γ):Nat:=(ϊ.filter λu=>decide (u ∉ rs)).length
variable{rs:Γ}
def UL{ϊ:Γ}:un ϊ rs<=ϊ.length:=Ur _ _
theorem EY{p q:Str->Bool}(g:∀x,q x=O->p x=O):∀ys:Γ,(ys.filter q).length <=(ys.filter p).length
 |[]=>kB _|u::ys=>by
  have z:=EY g ys;cases hq:q u with|true =>rw[x2 hq,x2 (g u hq)];simp only[qf];lia|false =>rw[Es (by rw[hq];decide)];cases hp:p u with|true=>rw[x2 hp];simp only[qf];lia|false=>rw[Es (by rw[hp];decide)];exact z
theorem EX{p q:Str->Bool}{f:Str}(K:∀x,q x=O->p x=O)(hp:p f=O)(hq:q f=ϊ):∀ys:Γ,f∈ys->(ys.filter q).length+1 <=(ys.filter p).length
 |[],h=>by simp at h|u::ys,h=>by
  by_cases e:u=f
  ·subst e;have z:=EY K ys;rw[Es (by rw[hq];decide),x2 hp];simp only[qf];lia
  have z:=EX K hp hq ys (by
   obtain h|h:=kC.mp h
   ·exact absurd h.symm e
   exact h)
  cases g:q u with|true =>rw[x2 g,x2 (K u g)];simp only[qf];lia|false =>rw[Es (by rw[g];decide)];cases P:p u with|true=>rw[x2 P];simp only[qf];lia|false=>rw[Es (by rw[P];decide)];exact z
def DT{ϊ:Γ}{f:Str}(hf:f∈ϊ)(hn:f ∉ rs):un ϊ (rs++[f])+1<=un ϊ rs:=by refine EX (λx hx=>?_) (decide_eq_true hn) (decide_eq_false ad) ϊ hf;have hx:=of_decide_eq_true hx;exact decide_eq_true λz=>hx (jn.mpr (.inl z))
def marks(rs:Γ):ϐ:=rs.map λs=>(.inr s,.bl O)
structure RS(ks:List Kd)(k here:Str)(done rs W:Γ)(c:Nat):Prop where
 ki:k∈rs
 w:∀r∈W,r∈rs
 hi:here∈rs
 re:∀r∈rs,Reach ks k r
 cl:∀r∈rs,r ∉ W->r=here\/∀f∈yW ks r,f∈rs
 dn:∀f∈done,f∈rs
 sz:rs.length+un (mE ks) rs <=(mE ks).length+1
 sw:W.length<=rs.length
 m:2*un (mE ks) rs+W.length<c
variable{here:Str}{done:Γ}
def RS.old(R:RS ks k here done rs W c)(hf:f∈rs):RS ks k here (done++[f]) rs W c:=
 (R.ki,R.w,R.hi,R.re,R.cl,λg hg=>(jn.mp hg).elim (R.dn g) λh=>by rw[fy.mp h];exact hf,R.sz,R.sw,R.m)
def RS.new(R:RS ks k here done rs W c)(hn:f ∉ rs)(hf:f∈yW ks here):RS ks k here (done++[f]) (rs++[f]) (W++[f]) c where
 ki:=jn.mpr (.inl R.ki)
 w:=λr hr=>by
  obtain h|h:=jn.mp hr
  ·exact jn.mpr (.inl (R.w r h))
  exact jn.mpr (.inr h)
 hi:=jn.mpr (.inl R.hi)
 re:=λr hr=>by
  obtain h|h:=jn.mp hr
  ·exact R.re r h
  rw[fy.mp h];exact .step (R.re _ R.hi) hf
 cl:=λr hr hw=>by
  obtain h|h:=jn.mp hr
  ·obtain e|e:=R.cl r h (λz=>hw (jn.mpr (.inl z)))
   ·exact .inl e
   exact .inr λg hg=>jn.mpr (.inl (e g hg))
  exact absurd (jn.mpr (.inr h)) hw
 dn:=λg hg=>by
  obtain h|h:=jn.mp hg
  ·exact jn.mpr (.inl (R.dn g h))
  exact jn.mpr (.inr h)
 sz:=by have:=DT (A7 hf) hn;have:=R.sz;simp only[j3,zq];lia
 sw:=by have:=R.sw;simp only[j3];lia
 m:=by have:=DT (A7 hf) hn;have:=R.m;simp only[j3,zq];lia
structure RWt(ks:List Kd)(k:Str)(rs W:Γ):Prop where
 ki:k∈rs
 w:∀r∈W,r∈rs
 re:∀r∈rs,Reach ks k r
 cl:∀r∈rs,r ∉ W->∀f∈yW ks r,f∈rs
 sz:rs.length+un (mE ks) rs <=(mE ks).length+1
 sw:W.length<=rs.length
def RWt.pop(R:RWt ks k rs (W++[here])):RS ks k here [] rs W (2*un (mE ks) rs+(W++[here]).length) where
 ki:=R.ki
 w:=λr hr=>R.w r (jn.mpr (.inl hr))
 hi:=R.w _ ad
 re:=R.re
 cl:=λr hr hw=>by
  by_cases e:r=here
  ·exact .inl e
  exact .inr (R.cl r hr (by simp[hw,e]))
 dn:=λf hf=>by simp at hf
 sz:=R.sz
 sw:=by have:=R.sw;simp only[j3,zq]at this;lia
 m:=by simp
def RS.fin(R:RS ks k here done rs W c)(hd:done=yW ks here):RWt ks k rs W where
 ki:=R.ki
 w:=R.w
 re:=R.re
 sz:=R.sz
 sw:=R.sw
 cl:=λr hr hw=>by
  obtain e|e:=R.cl r hr hw
  ·subst e;subst hd;exact R.dn
  exact e
def RWt.all(R:RWt ks k rs []):s∈rs ↔ Reach ks k s:=by refine(R.re s,λh=>?_);induction h with|here=>exact R.ki|step _ q g=>exact R.cl _ g ad _ q
def RWt.start:RWt ks k [k] [k] where
 ki:=by simp
 w:=λr h=>h
 re:=λr h=>by rw[fy.mp h];exact .here
 cl:=λr h n=>absurd h n
 sz:=by have:=UL (ϊ:=mE ks) (rs:=[k]);simp;lia
 sw:=kB _
def oT{α:Type}{β:Type}{xs:List α}{f:α->List β}{c:α}(h:xs[i]?=Z c):(xs.take i).flatMap f++f c=(xs.take (i+1)).flatMap f:=by rw[p7,h];simp
open Classical in
noncomputable def cF(ks:List Kd)(k:Str)(xs:List Kd):Γ:=xs.flatMap λx=>if Reach ks k x.1 then x.2.map (·.1)else []
def HU{ks:List Kd}{k:Str}{xs:List Kd}{i:Nat}{x:Kd}(h:xs[i]?=Z x)(hr:Reach ks k x.1):cF ks k (xs.take (i+1))=cF ks k (xs.take i)++x.2.map (·.1):=by unfold cF;rw[<- oT h,if_pos hr]
def ML{ks:List Kd}{k:Str}{xs:List Kd}{i:Nat}{x:Kd}(h:xs[i]?=Z x)(hr:¬ Reach ks k x.1):cF ks k (xs.take (i+1))=cF ks k (xs.take i):=by unfold cF;rw[<- oT h,if_neg hr,qp]
def Reach.trans(h1:Reach ks a b)(h2:Reach ks b c):Reach ks a c:=by induction h2 with|here=>exact h1|step _ h g=>exact .step g h
def GR{as:Γ}:∀{bs:Γ},as.Nodup->(∀x∈as,x∈bs)->as.length<=bs.length:=by
 induction as with
 |nil=>intro bs _ _;exact zt _
 |cons a as q =>intro bs nd sub;rw[vp]at nd;have g:=sub a ad;have z:=q nd.2 λx hx=>(ZR (λ(e:x=a)=>nd.1 (by rw[<- e];exact hx))).mpr (sub x (by simp[hx]));rw[Zy g]at z;have:=ZJ g;simp only[qf];lia
variable{X:Cx}{gd:Ξ}{H:Hp}{t':Nat}{fp:Θ}
def Inv.kL{σ:St}(I:Inv X gd σ H s)(k:∀b o,b ∉ fp->s.heap.get? b=Z o->h'.get? b=Z o)(hf:∀b∈fp,rH X gd H b):
  Inv X gd σ H {s with heap:=h',toks:=t'}:=by
 have K:∀b u,H b=Z u->b ∉ fp:=λb u e z=>by
  have:=(hf b z).1;rw[e]at this;cases this
 refine I.step (λb P=>?_) (λb o _ _ g e _=>k b o g e) (λb o _ _ g e _=>(o.slots,k b o g e)) (λ_ _ _ _ n=>n)
  (λb o g e=>(o,k b o g e)) (λ_ _ e=>e) (λ_ _ _ e=>e) (λb ps e=>(#[],by rw[e];simp)) (λm hm=>?_) (λb u e=>?_) I.bare
 ·let(f0,f1,f2,V,f4,Q):=hf b P;exact(V,f1,f4,Q)
 ·let(o,es,ep,ho,r):=hm;exact(o,es,ep,k _ o (λz=>(hf _ z).2.1 U) ho,r)
 refine(I.hok b u e).d5 (λc v g q=>k c v ?_ q) (λ_ q=>q) λ_ _ q=>q;obtain z|z:=g
 ·rw[z];exact K b u e
 exact K c _ z
def SqB(K:BT)(tp:Bool)(H:Hp)(a:J)(xs:Ω):Prop:=if tp=O then SqT K H a xs else SqL K H a xs
variable{a:J}
def Inv.oW{σ:St}{xs:Ω}(I:Inv X gd σ H s)(h:SqB X.K tp H a xs):∃its:Δ,Vals xs its/\bb s.heap tp a its.toArray/\xs.length<=mu:=by cases tp with|true =>let(its,r,p,z):=I.tuple (h);exact(its,r,(p),z)|false =>let(its,r,p,z):=I.list (h);exact(its,r,p.isList,z)
def Inv.tG{σ:St}{xs ys:Ω}(I:Inv X gd σ H s)(h:SqB X.K tp H a xs)(h2:SqB X.K tp H a ys):xs=ys:=by cases tp with|true=>exact I.wF (h) (h2)|false=>exact I.AN (h) (h2)
def Itz(K:BT)(t1 t2:Bool)(l1 l2:J):It:=
 (λi H=>∃xs ys x y,SqB K t1 H l1 xs/\SqB K t2 H l2 ys/\xs[i]?=Z x/\ys[i]?=Z y,
λi H v H'=>∃(p:J)(x y:V),H p=Y/\v=.ref p/\H'=upd H p (.tup [x,y])/\(∀xs,SqB K t1 H l1 xs->xs[i]?=Z x)/\∀ys,SqB K t2 H l2 ys->ys[i]?=Z y,
λi H=>∃xs ys,SqB K t1 H l1 xs/\SqB K t2 H l2 ys/\(xs.length<=i\/ys.length<=i))
variable{P:Da}{elts:List Ev}
theorem Ig{w:Cl}{K:BT}{x1}{pos:Pos}(z TI TO i1 i2 l1 l2:J)(D:ZipApart z TI TO i1 i2 l1 l2):
  Turn P w K (.Tuple elts x1 pos) (Itz K t1 t2 l1 l2) [z,TI,TO,i1,i2] z (λi h=>IsZip h z TI TO .none/\IsPair h TI (.ref i1) (.ref i2)/\(∃a b,IsPair h TO a b)/\aT h t1 i1 l1 i/\aT h t2 i2 l2 i) where
 mem:=by simp
 obj:=by
  rintro i h ⟨h1,h2,⟨a,b,h3⟩,h4,h5⟩ c V;simp only[kC,v5,or_false]at V;obtain rfl|rfl|rfl|rfl|rfl:=V
  ·exact(_,h1,λv e=>by cases e)
  ·exact(_,h2,λv e=>by cases e)
  ·exact(_,h3,λv e=>by cases e)
  ·exact h4.obj
  exact h5.obj
 keep:=by rintro i h h' ⟨h1,h2,⟨a,b,h3⟩,h4,h5⟩ k;exact(k z ad _ h1,k TI ad _ h2,(a,b,k TO ad _ h3),h4.at λo e=>k i1 ad o e,h5.at λo e=>k i2 ad o e)
 item:=by
  intro X hP hw hK V i gd s σ H E I hf st hg;subst hP hw hK;let(h1,h2,(a,b,h3),h4,h5):=st;let(xs,ys,x,y,q1,q2,e1,e2):=hg;let(G9,Q,o1,z1):=I.oW q1;let(fE,q,o2,z2):=I.oW q2;let(u1,a6,aP):=Q.get e1;let(u2,a5,ay):=q.get e2;refine zF D h1 h2 h3 h4 h5 o1 o2 (x:=u1) (y:=u2) (a6:) (a5:) λh' a4 Wj XO XN bh V3 ak=>(_,U,(wpAny_letOwnedTupleGo_zip a4 λav Xu Lo=>?_));have hn:=I.hok.fresh (kB s.heap.objs.size);have lz:=kz h1;have a3:=kz h2;have a0:=kz h3;let(bt,XX,_):=h4.obj;let(bp,XW,_):=h5.obj;have aW:=kz XX;have aQ:=kz XW;have S4:∀b ∈ [z,TI,TO,i1,i2],b≠s.heap.objs.size:=λb g=>by
   simp only[kC,v5,or_false]at g;obtain rfl|rfl|rfl|rfl|rfl:=g
   ·exact rl lz
   ·exact rl a3
   ·exact rl a0
   ·exact rl aW
   exact rl aQ
  have up:∀c o,c≠z->h'.get? c=Z o->av.get? c=Z o:=λc o V e=>Lo.extBut _ _ V e;have I1:Inv X gd σ (upd H s.heap.objs.size (.tup [x,y])) {s with heap:=s.heap.push {cls:=.type "tuple",data:=.seq #[u1,u2]}}:=
   I.laid (λb u e=>gs _ e) (kB _) (by show 2<=mu;decide,[u1,u2],.cons aP (.cons ay .nil),((_,kD _ U,U,_,U),_,kD _ U,U))
  have ar:∀b ∈ [z,TI,TO,i1,i2],rH X gd (upd H s.heap.objs.size (.tup [x,y])) b:=λb g=>by
   let(f0,r):=hf b g;exact(by rw[au (S4 b g)];exact f0,r)
  have I2:=by
   refine I1.kL (h':=av) (t':=s.toks) (λb o g e=>?_) ar;simp only[kC,v5,or_false,not_or]at g;let(b1,b2,b3,b4,b5):=g;obtain⟨rfl,rfl⟩|e':=Zg e
   ·exact up _ _ b1 bh
   exact up _ _ b1 (ak b o b1 b3 b4 b5 e')
  exact(.ref s.heap.objs.size,upd H s.heap.objs.size (.tup [x,y]),I2,U,(_,x,y,hn,U,U,λzs hz=>by rw[I.tG hz q1];exact e1,λzs hz=>by rw[I.tG hz q2];exact e2),((Xu,up _ _ D.TIz (ak TI _ D.TIz D.TITO D.TIi1 D.TIi2 h2),(_,_,up _ _ D.TOz Wj),XO.at λo e=>up _ _ D.i1z e,XN.at λo e=>up _ _ D.i2z e)),λb g=>(ar b g).1)
 done:=by
  intro X hP hw hK V i gd s σ H E I hf st hg;subst hP hw hK;let(h1,h2,(a,b,h3),h4,h5):=st;let(xs,ys,q1,q2,uM):=hg;let(G9,Q,o1,z1):=I.oW q1;let(fE,q,o2,z2):=I.oW q2;have g1:=Q.length;have g2:=q.length;refine DL (I.ok.hd V) D h1 h2 h3 h4 h5 o1 o2 ?_ λh' k=>(U,I.kL (λb o g e=>?_) hf)
  ·obtain e|e:=uM
   ·simp;lia
   simp;lia
  simp only[kC,v5,or_false,not_or]at g;exact k b o g.1 g.2.2.1 g.2.2.2.1 g.2.2.2.2 e
 self:=λ_ _ _ _ _ st h=>wpAny_pyIter_zip st.1 h
def itc(tp:Bool):String:=if tp=O then "tuple_iterator" else "list_iterator"
variable{A:Db}{E:Φ}
def kg{s:ϋ}(h:bb s.heap tp l xs)
  (g:Q (.ref s.heap.objs.size) {s with heap:=s.heap.push {cls:=.type (itc tp),data:=.fields #[.ref l,.int 0 0]}}):wpAny (model prog w) A (pyIter (.ref l)) Q E s:=by
 cases tp with|true=>exact wpAny_pyIter_tuple (h) g|false=>exact wpAny_pyIter_list (h) g
abbrev zH1(t1:Bool)(h:Do)(l1:J):Do:=h.push {cls:=.type (itc t1),data:=.fields #[.ref l1,.int 0 0]}
abbrev zH2(t1 t2:Bool)(h:Do)(l1 l2:J):Do:=(zH1 t1 h l1).push {cls:=.type (itc t2),data:=.fields #[.ref l2,.int 0 0]}
abbrev zH3(t1 t2:Bool)(h:Do)(l1 l2:J):Do:=(zH2 t1 t2 h l1 l2).push {cls:=.type "tuple",data:=.seq #[.ref h.objs.size,.ref (zH1 t1 h l1).objs.size]}
abbrev zH4(t1 t2:Bool)(h:Do)(l1 l2:J):Do:=(zH3 t1 t2 h l1 l2).push {cls:=.type "tuple",data:=.seq #[.none,.none]}
abbrev zH5(t1 t2:Bool)(h:Do)(l1 l2:J):Do:=(zH4 t1 t2 h l1 l2).push {cls:=.type "zip",data:=.fields #[.none,.bool ϊ,.bool ϊ,.ref (zH2 t1 t2 h l1 l2).objs.size,.ref (zH3 t1 t2 h l1 l2).objs.size]}
def v8(t1 t2:Bool)(l1 l2:J)(xs ys:Array B):
  Meets (Builtin.«zip.__new__» ([.type "zip",.ref l1,.ref l2],[])) (λ_ R s=>bb s.heap t1 l1 xs/\bb s.heap t2 l2 ys /\
R (.ok (.ret (.ref (zH4 t1 t2 s.heap l1 l2).objs.size))) {s with heap:=zH5 t1 t2 s.heap l1 l2}):=
 .of_wp λprog w A R s h=>by
  let(hp,g,d,tk,os):=s;let(z,q,h):=h;have Q:=sub_zip;have P:=z;have K:bb (ϋ.heap (hp.push {cls:=.type (itc t1),data:=.fields #[.ref l1,.int 0 0]},g,d,tk,os)) t2 l2 ys:=q.at λo e=>gs _ e
  wp_walk using kg P,kg K
  exact(_,U,h)
def jK(e:h.get? it=Z {cls:=.type (itc tp),data:=.fields #[.ref l,.int 0 0]}):aT h tp it l 0:=by cases tp with|true=>exact((_,e,U,U))|false=>exact((_,e,U,U))
theorem ji{A:Db}{E:Φ}{s:ϋ}(P:bb s.heap t1 l1 xs)(K:bb s.heap t2 l2 ys)
  (h:∀h',IsZip h' (s.heap.objs.size+4) (s.heap.objs.size+2) (s.heap.objs.size+3) .none->IsPair h' (s.heap.objs.size+2) (.ref s.heap.objs.size) (.ref (s.heap.objs.size+1)) ->
IsPair h' (s.heap.objs.size+3) .none .none->aT h' t1 s.heap.objs.size l1 0->aT h' t2 (s.heap.objs.size+1) l2 0 ->
(∀c o,s.heap.get? c=Z o->h'.get? c=Z o)->Q (.ref (s.heap.objs.size+4)) {s with heap:=h'}):
  wpAny (model prog w) A (call (.type "zip") [.ref l1,.ref l2]) Q E s:=by
 refine callType_new F.called_zip ac (F.typeCall_zip_2 _ _) (F.newCall_zip_2 _ _) (λobj=>F.args_object_init_3 obj _ _) F.entry_zip_new
  (v8 t1 t2 l1 l2 xs ys) (P,K,?_)
 have z:(zH1 t1 s.heap l1).objs.size=s.heap.objs.size+1:=BB ..;have q:(zH2 t1 t2 s.heap l1 l2).objs.size=s.heap.objs.size+2:=by rw[BB,z]
 have g:(zH3 t1 t2 s.heap l1 l2).objs.size=s.heap.objs.size+3:=by rw[BB,q]
 have z4:(zH4 t1 t2 s.heap l1 l2).objs.size=s.heap.objs.size+4:=by rw[BB,g]
 have V:(zH5 t1 t2 s.heap l1 l2).get? (zH4 t1 t2 s.heap l1 l2).objs.size=Z _:=kD _ U;have g4:(zH5 t1 t2 s.heap l1 l2).get? (zH3 t1 t2 s.heap l1 l2).objs.size=Z _:=gs _ (kD _ U);have g3:(zH5 t1 t2 s.heap l1 l2).get? (zH2 t1 t2 s.heap l1 l2).objs.size=Z _:=gs _ (gs _ (kD _ U));have g2:(zH5 t1 t2 s.heap l1 l2).get? (zH1 t1 s.heap l1).objs.size=Z _:=gs _ (gs _ (gs _ (kD _ U)));have g1:(zH5 t1 t2 s.heap l1 l2).get? s.heap.objs.size=Z _:=gs _ (gs _ (gs _ (gs _ (kD _ U))));rw[q,g,z4]at V;rw[z,q]at g3;rw[g]at g4;rw[z]at g2;rw[z4];exact((_,V,U),h _ V g3 g4 (jK g1) (jK g2) λc o x =>
gs _ (gs _ (gs _ (gs _ (gs _ x)))))
def TJ(K:BT)(t1 t2:Bool)(ta:TA):TI:=λσ H R=>ta σ H λvs H1=>∃l1 l2,vs=[.ref l1,.ref l2]/\(∃xs,SqB K t1 H1 l1 xs)/\(∃ys,SqB K t2 H1 l2 ys)/\R (Itz K t1 t2 l1 l2) H1
def bb.obj(x:bb h tp l xs):∃o,h.get? l=Z o:=by cases tp with|true=>let(o,ho,_):=(x);exact(o,ho)|false=>let(o,ho,_):=(x);exact(o,ho)
variable{n:Nat}
def jG{l1 l2:Nat}(h1:l1<n)(h2:l2<n):ZipApart (n+4) (n+2) (n+3) n (n+1) l1 l2:=by constructor <;>(lia)
variable{pos':Pos}{b:Ev}
def SD{x1}{a:Ev}{p pos:Pos}(hg:Gl X "zip")(hm:X.mg "zip"=Y)(eQ:bootBuiltins "zip"=Z (.type "zip"))(ha:PA X [a,b] ta)(hs:‹mJ [a,b] X.env=[(ϊ,eval a X.env),(ϊ,eval b X.env)]›)(g:‹AD X b›):
  PI X (.Tuple elts x1 pos') (.Call (.Name "zip" p) [a,b] [] pos) (TJ X.K t1 t2 ta):=by
 intro gd s σ H R I h;refine Call_ (eI I hg hm eQ (PyProof.Rows.callWith_type1 (thn (ha pos gd s σ H _ I h) λus s1 (vs,H1,P,r1,q1)=>?_) (by rw[hs,g]) (by rw[g];rfl)));let(l1,l2,e,(xs,q2),(ys,q3),q):=q1;subst e;let(u1,u2,U,V,Q):=vals2 r1;cases V;cases Q;let(G9,aQ,o1,z1):=P.oW q2;let(fE,aP,o2,z2):=P.oW q3;let(a0,e1):=o1.obj;let(aW,e2):=o2.obj;have g1:=kz e1;have g2:=kz e2;refine ji o1 o2 λh' hz ay av ar ak hk=>wpAny_pyIter_zip hz ?_;refine(_,[s1.heap.objs.size+4,s1.heap.objs.size+2,s1.heap.objs.size+3,s1.heap.objs.size,s1.heap.objs.size+1],_,_,H1,U,P.kept hk,Ig _ _ _ _ _ l1 l2 ?_,(hz,ay,(_,_,av),ar,ak),λc hc=>?_,q)
 ·exact jG g1 g2
 have z:s1.heap.objs.size<=c:=by simp only[kC,v5,or_false]at hc;obtain rfl|rfl|rfl|rfl|rfl:=hc <;> first|exact Nat.le_add_right _ _|exact kB _
 exact P.Dh z (P.hok.fresh z)
def Gg{t:Nat}(h:ws.Nodup):(ws.drop t++ws.take t).Nodup:=
 (List.perm_append_comm).nodup_iff.mp (by rw[List.take_append_drop];exact h)
variable{d:J}
def oC.other(D:oC H d l)(h1:q≠d)(h2:q≠l):oC (upd H q o) d l:=by let(s,n,ls,D):=D;exact(s,n,ls,by rw[au h1.symm];exact D.hd,by rw[au h2.symm];exact D.hl,D.s0,D.s1,D.n0,D.l0)
def names(ks:List Kd):Γ:=ks.flatMap λk=>k.2.map (·.1)
variable{x:Str}
def take_one{xs:Γ}(h:xs[i]?=Z x):xs.take i++[x]=xs.take (i+1):=by rw[p7,h];rfl
variable{es:List Ev}
theorem i6{K:BT}{k:Nat}{pos:Pos}(z:X.K=K)(q:X.calm=O)(h:PGs X es t)
  (hn:‹(assignEach es X.env).length=n›) (g:‹(assignEach es X.env).findIdx? (·.1)=none›):PG X (.Tuple es k pos) (Ph K n t):=z▸SF q h hn g
abbrev p9(h:Do)(z TI TO:J)(a:J)(f:Bool):Prop:=
 h.get? z=Z {cls:=.type "zip",dict:=Y,data:=.fields #[rawInt a,.bool f,.bool ϊ,.ref TI,.ref TO],slots:=#[]}
variable{oa:Obj}
section
variable{prog:Da}{w:Cl}{s:ϋ}
theorem AE{TI TO:J}{f:Bool}{Q:Bool->ϋ->Prop}(K:p9 s.heap z TI TO a f)(ha:s.heap.get? a=Z oa)
  (V:∀h',p9 h' z TI TO a O->YQ z s.heap h'->Q ϊ {s with heap:=h'}):wpAny (model prog w) A (Builtin.SmallTypes.ownedTupleIsFree (.ref z)) Q E s:=by
 refine dN (wpAny_field K U U ?_);refine dN (W.kdx_alive ha (dN (wpAny_field K U (x:=.bool f) U ?_)));cases f with|true =>exact kA (V _ K (Heap.SameBut.refl _ _))|false =>exact dN (wpAny_setField_rec K ad λP q g=>(kA (V _ q g)))
theorem MH{TI TO:J}{f:Bool}{x y:B}{Q:Option B->ϋ->Prop}(D:ZipApart z TI TO i1 i2 l1 l2)
  (hz:p9 s.heap z TI TO a f) (ha:s.heap.get? a=Z oa) (aP:IsPair s.heap TI (.ref i1) (.ref i2))
  (h1:aT s.heap t1 i1 l1 k1) (h2:aT s.heap t2 i2 l2 k2) (ay:bb s.heap t1 l1 xs) (av:bb s.heap t2 l2 ys) (hx:xs[k1]?=Z x) (hy:ys[k2]?=Z y)
  (hQ:∀h',p9 h' z TI TO a O->aT h' t1 i1 l1 (k1+1)->aT h' t2 i2 l2 (k2+1)->IsPair h' s.heap.objs.size x y->h'.objs.size=s.heap.objs.size+1 ->
(∀c o,c≠z->c≠i1->c≠i2->s.heap.get? c=Z o->h'.get? c=Z o)->Q (Z (.ref s.heap.objs.size)) {s with heap:=h'}):
  wpAny (model prog w) A (pyNext (.ref z)) Q E s:=by
 have hT:s.TypeIs (.ref z) "zip":=(_,hz,U);refine dN (Yt (wpAny_callSpecial?_slot hT F.slot_zip_next
(E3 F.slot_zip_next hT F.entry_zip_next ?_ (F.args_zip_next_1 _))))
 show wpAny _ _ (field (.ref z) 2 >>= _) _ _ _;refine dN (wpAny_field hz U (x:=.bool ϊ) U (dN (wpAny_field hz U U (dN (wpAny_seqItems aP U (dN (AE hz ha λh₁ V g=>?_)))))));simp only[Y2,if_false];rw[<- Z7];simp only[Y1];refine dN (dN (dN (DF (dN (next_item (h1.at λo e=>g.extBut _ o D.i1z e) (ay.at λo e=>g.extBut _ o D.l1z e) hx λaQ ar q=>kA (kA (dN (dN (DF (dN (next_item (h2.at λo e=>q.extBut _ o D.i12.symm (g.extBut _ o D.i2z e)) (av.at λo e=>q.extBut _ o D.l2i1 (g.extBut _ o D.l2z e)) hy λP ak K=>kA (kA (kA ?_)))))))))))));show wpAny _ _ (newTuple [x,y] >>= _) _ _ _;refine dN (wpAny_newTuple ?_);have hsz:P.objs.size=s.heap.objs.size:=by rw[K.1,q.1,g.1]
 have up:∀c o,c≠z->c≠i1->c≠i2->s.heap.get? c=Z o->(P.push {cls:=.type "tuple",data:=.seq #[x,y]}).get? c=Z o:=λc o c1 c2 c3 e =>
  gs _ (K.extBut _ _ c3 (q.extBut _ _ c2 (g.extBut _ _ c1 e)))
 refine kA (_,U,kA ?_);rw[hsz];refine hQ _ (gs _ (K.extBut _ _ D.i2z.symm (q.extBut _ _ D.i1z.symm V))) ?_ ?_ ?_ ?_ up
 ·exact ar.at λo e=>gs _ (K.extBut _ o D.i12 e)
 ·exact ak.at λo e=>gs _ e
 ·rw[<- hsz];exact kD _ U
 rw[BB,hsz]
theorem zD{TI TO:J}{f:Bool}{Q:Option B->ϋ->Prop}(hh:A.handled=Y)(D:ZipApart z TI TO i1 i2 l1 l2)
  (hz:p9 s.heap z TI TO a f) (ha:s.heap.get? a=Z oa) (ay:IsPair s.heap TI (.ref i1) (.ref i2))
  (h1:aT s.heap t1 i1 l1 k1) (h2:aT s.heap t2 i2 l2 k2) (ak:bb s.heap t1 l1 xs) (av:bb s.heap t2 l2 ys) (uM:xs[k1]?=Y\/ys[k2]?=Y)
  (hQ:∀h',(∀c o,c≠z->c≠i1->c≠i2->s.heap.get? c=Z o->h'.get? c=Z o)->Q Y {s with heap:=h'}):
  wpAny (model prog w) A (pyNext (.ref z)) Q E s:=by
 have hT:s.TypeIs (.ref z) "zip":=(_,hz,U);have fin:∀h' e,(∀c o,c≠z->c≠i1->c≠i2->s.heap.get? c=Z o->h'.get? c=Z o)->(∃ o,h'.get? e=Z o/\o.cls=.type "StopIteration") ->
   wpAny (model prog w) A (do if <- isInstance (.ref e) (.type "StopIteration")then pure Y else throw (.ref e)) Q E {s with heap:=h'}:=λh' e hk he=>by
  let(o,ho,hc):=he;exact dN (Ys (o,ho,hc) isSubtype_stop (kA (hQ _ hk)))
 refine dN (Yt (wpAny_callSpecial?_slot hT F.slot_zip_next
(E3 F.slot_zip_next hT F.entry_zip_next ?_ (F.args_zip_next_1 _))))
 show wpAny _ _ (field (.ref z) 2 >>= _) _ _ _;refine dN (wpAny_field hz U (x:=.bool ϊ) U (dN (wpAny_field hz U U (dN (wpAny_seqItems ay U (dN (AE hz ha λh₁ ar g=>?_)))))));simp only[Y2,if_false];rw[<- Z7];simp only[Y1];refine dN (dN (dN (DF ?_)));cases hx:xs[k1]? with
 |none =>exact dN (next_end hh (h1.at λo e=>g.extBut _ o D.i1z e) (ak.at λo e=>g.extBut _ o D.l1z e) hx λK e q he=>(fin K e (λc o c1 c2 _ x=>q _ _ c2 (g.extBut _ _ c1 x)) he))|some x =>
  have hy:ys[k2]?=none:=by obtain h|h:=uM;rw[hx]at h;cases h;exact h
  exact dN (next_item (h1.at λo e=>g.extBut _ o D.i1z e) (ak.at λo e=>g.extBut _ o D.l1z e) hx λK aP q=>kA (kA (dN (dN (DF (dN (next_end hh (h2.at λo e=>q.extBut _ o D.i12.symm (g.extBut _ o D.i2z e)) (av.at λo e=>q.extBut _ o D.l2i1 (g.extBut _ o D.l2z e)) hy λV e P he=>(fin V e (λc o c1 c2 c3 x=>P _ _ c3 (q.extBut _ _ c2 (g.extBut _ _ c1 x))) he))))))))
end
structure ZSt(h:Do)(z TI TO i1 i2 l1 l2 S:J)(t1 t2:Bool)(i:Nat):Prop where
 ti:IsPair h TI (.ref i1) (.ref i2)
 s1:aT h t1 i1 l1 i
 s2:aT h t2 i2 l2 i
 st:(IsZip h z TI TO .none/\∃a b,IsPair h TO a b)\/∃(a:J)(f:Bool)(oa:Obj),p9 h z TI TO a f/\h.get? a=Z oa/\a≠z/\a≠S/\a≠i1/\a≠i2
variable{S:J}
def ZSt.keep{TI TO:J}(x:ZSt h z TI TO i1 i2 l1 l2 S t1 t2 i)(k:∀b o,b≠S->h.get? b=Z o->h'.get? b=Z o)(Q:z≠S)(q:TI≠S)(g:TO≠S)(h1:i1≠S)(h2:i2≠S):ZSt h' z TI TO i1 i2 l1 l2 S t1 t2 i:=
 (k _ _ q x.ti,x.s1.at λo e=>k _ o h1 e,x.s2.at λo e=>k _ o h2 e,by
  obtain⟨e,a,b,K⟩|⟨a,f,oa,e,K,n1,P,V⟩:=x.st
  ·exact .inl (k _ _ Q e,a,b,k _ _ g K)
  exact .inr (a,f,oa,k _ _ Q e,k _ _ P K,n1,P,V))
structure ZG(xs ys:Array B)(lo:Nat)(h:Do)(as:Θ):Prop where
 rise:as.Pairwise (· < ·)
 above:∀a∈as,lo<=a
 pairs:∀(j:Nat)(a:J),as[j]?=Z a->∃x y,xs[j]?=Z x/\ys[j]?=Z y/\IsPair h a x y
def ZG.there{lo:Nat}(g:ZG xs ys lo h as)(z:a∈as):a<h.objs.size:=by let(j,q):=List.mem_iff_getElem?.mp z;let(_,_,_,_,e):=g.pairs j a q;exact kz e
section
variable{prog:Da}{w:Cl}{s:ϋ}
def DI{E:Φ}{TI TO:J}{k:Nat}{x y:B}{Q:Option B->ϋ->Prop}(D:ZipApart z TI TO i1 i2 l1 l2)
  (st:ZSt s.heap z TI TO i1 i2 l1 l2 S t1 t2 k) (hS:S<s.heap.objs.size) (K:bb s.heap t1 l1 xs) (q:bb s.heap t2 l2 ys) (hx:xs[k]?=Z x) (hy:ys[k]?=Z y)
  (hQ:∀h',ZSt h' z TI TO i1 i2 l1 l2 S t1 t2 (k+1)->IsPair h' s.heap.objs.size x y->h'.objs.size=s.heap.objs.size+1 ->
(∀c o,c≠z->c≠TO->c≠i1->c≠i2->s.heap.get? c=Z o->h'.get? c=Z o)->Q (Z (.ref s.heap.objs.size)) {s with heap:=h'}):
  wpAny (model prog w) A (pyNext (.ref z)) Q E s:=by
 let(o1,g1,_):=st.s1.obj;let(o2,g2,_):=st.s2.obj;obtain⟨P,a,b,V⟩|⟨a,f,oa,P,ha,n1,n2,n3,n4⟩:=st.st
 ·refine zF D P st.ti V st.s1 st.s2 K q hx hy λh' g Wj e1 e2 hp hsz hk=>hQ h' (hk _ _ D.TIz D.TITO D.TIi1 D.TIi2 st.ti,e1,e2,.inr (s.heap.objs.size,ϊ,_,g,hp,?_,?_,?_,?_)) hp hsz hk
  ·exact D7 (kz P)
  ·exact D7 hS
  ·exact D7 (kz g1)
  exact D7 (kz g2)
 exact MH D P ha st.ti st.s1 st.s2 K q hx hy λh' g e1 e2 hp hsz hk=>hQ h' (hk _ _ D.TIz D.TIi1 D.TIi2 st.ti,e1,e2,.inr (a,O,oa,g,hk a oa n1 n3 n4 ha,n1,n2,n3,n4)) hp hsz λc o c1 _ c3 c4 e=>hk c o c1 c3 c4 e
def DJ{TI TO:J}{k:Nat}{Q:Option B->ϋ->Prop}(hh:A.handled=Y)(D:ZipApart z TI TO i1 i2 l1 l2)
  (st:ZSt s.heap z TI TO i1 i2 l1 l2 S t1 t2 k) (q:bb s.heap t1 l1 xs) (g:bb s.heap t2 l2 ys) (V:xs[k]?=Y\/ys[k]?=Y)
  (hQ:∀h',(∀c o,c≠z->c≠TO->c≠i1->c≠i2->s.heap.get? c=Z o->h'.get? c=Z o)->Q Y {s with heap:=h'}):wpAny (model prog w) A (pyNext (.ref z)) Q E s:=by
 obtain⟨K,a,b,P⟩|⟨a,f,oa,K,ha,n1,n2,n3,n4⟩:=st.st
 ·exact DL hh D K st.ti P st.s1 st.s2 q g V hQ
 exact zD hh D K ha st.ti st.s1 st.s2 q g V λh' hk=>hQ h' λc o c1 _ c3 c4 e=>hk c o c1 c3 c4 e
def ME{R:Result->ϋ->Prop}{TI TO:J}{t1 t2:Bool}{lo:Nat}(hh:A.handled=Y)(D:ZipApart z TI TO i1 i2 l1 l2)(ar:z≠S)(yR:TI≠S)(pU:TO≠S)(aQ:i1≠S)(aP:i2≠S)(yP:l1≠S)(yO:l2≠S)
  (oS:S<lo) (oz:z<lo) (aW:TO<lo) (o1:i1<lo) (o2:i2<lo) (en:n=min xs.size ys.size) (hn:n<=mu) (res:B) {h₁:Do}
  (hR:∀h' tk acc c as,(∀b o,b≠S->b≠z->b≠TO->b≠i1->b≠i2->h₁.get? b=Z o->h'.get? b=Z o)->h'.get? S=Z {cls:=.type "list",dict:=Y,data:=.seq acc c,slots:=#[]}->as.length=n->ZG xs ys lo h' as ->
acc.toList=as.map B.ref->R (.ok (.ret res)) {s with heap:=h',toks:=tk}):
  ∀(k i:Nat)(h:Do)(tk c:Nat)(acc:Array B)(as:Θ),n-i=k->i<=n->ZSt h z TI TO i1 i2 l1 l2 S t1 t2 i->bb h t1 l1 xs->bb h t2 l2 ys->(∀b o,b≠S->b≠z->b≠TO->b≠i1->b≠i2->h₁.get? b=Z o->h.get? b=Z o) ->
   h.get? S=Z {cls:=.type "list",dict:=Y,data:=.seq acc c,slots:=#[]}->acc.toList=as.map B.ref->as.length=i->ZG xs ys lo h as->lo<=h.objs.size ->
   codeAny (model prog w) A (.builtin "list.extend.loop" ([.ref S,.ref z,res],[])) R {s with heap:=h,toks:=tk}:=by
 have ne:∀{a b:Nat},a<lo->lo<=b->b≠a:=λh1 h2=>ap;intro k;induction k with
 |zero =>
  intro i h tk c acc as hk hi av ak V qG hS ib K P ay;refine HJ PySem.F.entry_extend_loop ?_;refine dN (DJ (A:=A.in1) hh D av ak V ?_ λh' he=>?_)
  ·by_cases q:xs.size<=i
   ·exact .inl (Yy q)
   exact .inr (Yy ap)
  refine kA (hR h' tk acc c as (λb o b1 b2 b3 b4 b5 e=>he b o b2 b3 b4 b5 (qG b o b1 b2 b3 b4 b5 e)) (he S _ ar.symm pU.symm aQ.symm aP.symm hS) ap (P.rise,P.above,λj a Q=>?_) ib);let(x,y,e1,e2,e3):=P.pairs j a Q;have ab:=P.above a (g5 Q);exact(x,y,e1,e2,he a _ (ne oz ab) (ne aW ab) (ne o1 ab) (ne o2 ab) e3)
 |succ k ih =>
  intro i h tk c acc as hk hi av ak V qG hS ib K P ay;have a0:=YE hk;have hm:=Nat.lt_min.mp (en▸a0);have hx:=Yj hm.1;have hy:=Yj hm.2;have hsz:acc.size=i:=by rw[<- Yx,ib,cU,K]
  refine HJ PySem.F.entry_extend_loop ?_;refine dN (DI (S:=S) D av (kz hS) ak V hx hy λh' q9 ht hz g=>?_);have a4:=g S _ ar.symm pU.symm aQ.symm aP.symm hS;have up:∀b o,b≠S->h'.get? b=Z o->(h'.update S (QG (·.push (B.ref h.objs.size)))).get? b=Z o:=λb o hb e=>(we _ _ (Ne.symm hb)).trans e;have a3:=kz hS;refine dN ?_;refine Uv a4 U (kA (HI PySem.F.plain_extend_loop _,ih (i+1) _ tk _ (acc.push (B.ref h.objs.size)) (as++[h.objs.size]) (by rw[Y6,hk];rfl) a0 (q9.keep up ar yR pU aQ aP)
(ak.at λo e=>up _ o yP (g _ o D.l1z D.l1TO D.l1i1 D.l1i2 e)) (V.at λo e=>up _ o yO (g _ o D.l2z D.l2TO D.l2i1 D.l2i2 e))
(λb o b1 b2 b3 b4 b5 e=>up b o b1 (g b o b2 b3 b4 b5 (qG b o b1 b2 b3 b4 b5 e))) (Fo _ a4 U) (by rw[Array.toList_push,ib,ky];rfl) (by rw[j3,K];rfl) (?_,?_,?_) ?_)) (by rw[hsz];lia) (by rw[Array.size_push,hsz];lia)
  ·refine List.pairwise_append.mpr (P.rise,List.pairwise_singleton _ _,λa ha b hb=>?_);rw[fy.mp hb];exact P.there ha
  ·intro a ha;obtain ha|ha:=jn.mp ha
   ·exact P.above a ha
   rw[fy.mp ha];exact ay
  ·intro j b Q;obtain h1|h1|h1:=Nat.lt_trichotomy j as.length
   ·rw[u6 h1]at Q;let(x',y',e1,e2,e3):=P.pairs j b Q;have ab:=P.above b (g5 Q);exact(x',y',e1,e2,up b _ (ne oS ab) (g b _ (ne oz ab) (ne aW ab) (ne o1 ab) (ne o2 ab) e3))
   ·subst h1;have hb:=(Q:);subst hb;exact(_,_,by rw[K];exact hx,by rw[K];exact hy,up _ _ (D7 a3) ht)
   have V4:(as++[h.objs.size])[j]?=none:=P2 (by rw[j3,zq];lia);rw[V4]at Q;cases Q
  have e:=up _ _ (D7 a3) ht;have:=kz e;have XU:=ay;exact sF XU (wz this)
end
def BM:typeLookup (.type "zip") "__len__"=pure none:=bn
def zE:typeLookup (.type "zip") "__length_hint__"=pure none:=bn
section
variable{prog:Da}{w:Cl}{s:ϋ}
theorem FO{R:Result->ϋ->Prop}{TI TO:J}(hh:A.handled=Y)(D:ZipApart z TI TO i1 i2 l1 l2)(q:z≠S)(yR:TI≠S)(pU:TO≠S)(ar:i1≠S)(ak:i2≠S)(yP:l1≠S)(yO:l2≠S)
  (hz:IsZip s.heap z TI TO .none) {ta tb:B} (V:IsPair s.heap TO ta tb) (av:IsPair s.heap TI (.ref i1) (.ref i2)) (Q:aT s.heap t1 i1 l1 0) (P:aT s.heap t2 i2 l2 0) (aP:bb s.heap t1 l1 xs) (ay:bb s.heap t2 l2 ys)
  (en:n=min xs.size ys.size) (hn:n<=mu) (res:B) (c₀:Nat) (hS:s.heap.get? S=Z (#[]^^^c₀))
  (hR:∀h' tk acc c as,(∀b o,b≠S->b≠z->b≠TO->b≠i1->b≠i2->s.heap.get? b=Z o->h'.get? b=Z o)->h'.get? S=Z {cls:=.type "list",dict:=Y,data:=.seq acc c,slots:=#[]}->as.length=n->ZG xs ys s.heap.objs.size h' as ->
acc.toList=as.map B.ref->R (.ok (.ret res)) {s with heap:=h',toks:=tk}):
  wpAny (model prog w) A.in1 (Builtin.List.listExtendWith (.ref S) (.ref z) res)
   (λfin s'=>match fin with|.done f=>R (.ok f) s' |.again c'=>c'.quiet=O/\codeAny (model prog w) A c' R s') (λe s'=>R (.error e) s') s:=by
 have hT:s.TypeIs (.ref z) "zip":=(_,hz,U);let(aW,g1,_):=Q.obj;let(aQ,g2,_):=P.obj;refine dN (Tz hT ?_);have e1:Builtin.List.listSameRef (.ref S) (.ref z)=false:=by simp[Builtin.List.listSameRef,q.symm]
 have e2:(B.type "zip" == B.type "list")=false:=ac;have e3:(B.type "zip" == B.type "tuple")=false:=ac;simp only[e1,e2,e3,if_false];refine dN (wpAny_pyIter_zip hz (dN (DF ?_)));refine dN (Rj hT BM ?_);refine dN (Rj hT zE (kA ?_));refine dN (UU (dN ?_));refine dN (Uv hS U ?_);have g:=Fo (QG (·.push B.none)) hS U;refine Uv g U ?_;have K:=Fo (QG (·.pop)) g U;have oth:∀b o,b≠S->s.heap.get? b=Z o->((s.heap.update S (QG (·.push B.none))).update S (QG (·.pop))).get? b=Z o:=
  λb o hb e=>(we _ _ (Ne.symm hb)).trans ((we _ _ (Ne.symm hb)).trans e)
 have hsz:((s.heap.update S (QG (·.push B.none))).update S (QG (·.pop))).objs.size=s.heap.objs.size:=by rw[(Heap.SameBut.update (a:=S) ..).1,(Heap.SameBut.update (a:=S) ..).1]
 refine kA (HI F.plain_extend_loop _,ME (s:=s) (n:=n) hh D q yR pU ar ak yP yO (kz hS) (kz hz) (kz V) (kz g1) (kz g2) en hn res hR n 0 _ _ _ _ [] ap (zt _)
(oth _ _ yR av,Q.at λo e=>oth _ o ar e,P.at λo e=>oth _ o ak e,.inl (oth _ _ q hz,ta,tb,oth _ _ pU V)) (aP.at λo e=>oth _ o yP e) (ay.at λo e=>oth _ o yO e) (λb o b1 _ _ _ _ e=>oth b o b1 e) K U U (List.Pairwise.nil,λ_ z=>(nomatch z),λj a hj=>by simp at hj) (by rw[hsz];exact kB _))
def MF{TI TO:J}(hh:A.handled=Y)(D:ZipApart z TI TO i1 i2 l1 l2)(q:z≠S)(yR:TI≠S)(pU:TO≠S)(P:i1≠S)(K:i2≠S)(yP:l1≠S)(yO:l2≠S)
  (hz:IsZip s.heap z TI TO .none) {ta tb:B} (ak:IsPair s.heap TO ta tb) (ar:IsPair s.heap TI (.ref i1) (.ref i2)) (V:aT s.heap t1 i1 l1 0) (Q:aT s.heap t2 i2 l2 0) (aP:bb s.heap t1 l1 xs) (ay:bb s.heap t2 l2 ys)
  (en:n=min xs.size ys.size) (hn:n<=mu) (hS:s.heap.get? S=Z (~~~#[]))
  (hR:∀h' tk acc c as,(∀b o,b≠S->b≠z->b≠TO->b≠i1->b≠i2->s.heap.get? b=Z o->h'.get? b=Z o)->h'.get? S=Z {cls:=.type "list",dict:=Y,data:=.seq acc c,slots:=#[]}->as.length=n->ZG xs ys s.heap.objs.size h' as ->
acc.toList=as.map B.ref->R (.ok (.ret .none)) {s with heap:=h',toks:=tk}):
  wpAny (model prog w) A.in1 (Builtin.«list.__init__» ([.ref S,.ref z],[]))
   (λfin s'=>match fin with|.done f=>R (.ok f) s' |.again c'=>c'.quiet=O/\codeAny (model prog w) A c' R s') (λe s'=>R (.error e) s') s:=by
 refine dN ?_;refine dN (wpAny_seqItems hS U (kA ?_));refine dN (Uv hS U ?_);have g:=Fo (QG (λ_=>(#[]))) hS U;have oth:∀b o,b≠S->s.heap.get? b=Z o->(s.heap.update S (QG (λ_=>(#[])))).get? b=Z o:=
  λb o hb e=>(we _ _ (Ne.symm hb)).trans e
 have hsz:(s.heap.update S (QG (λ_=>(#[])))).objs.size=s.heap.objs.size:=(Heap.SameBut.update (a:=S) ..).1;refine FO (xs:=xs) (ys:=ys) (n:=n) hh D q yR pU P K yP yO (oth _ _ q hz) (oth _ _ pU ak) (oth _ _ yR ar) (V.at λo e=>oth _ o P e) (Q.at λo e=>oth _ o K e) (aP.at λo e=>oth _ o yP e) (ay.at λo e=>oth _ o yO e) en hn .none _ g (λh' tk acc c as hk av hl hG ib=>?_);rw[hsz]at hG;exact hR h' tk acc c as (λb o b1 b2 b3 b4 b5 e=>hk b o b1 b2 b3 b4 b5 (oth b o b1 e)) av hl hG ib
def MG{E:Φ}{Q:Φ}{TI TO:J}(hh:A.handled=Y)(D:ZipApart z TI TO i1 i2 l1 l2)
  (hz:IsZip s.heap z TI TO .none) {ta tb:B} (P:IsPair s.heap TO ta tb) (V:IsPair s.heap TI (.ref i1) (.ref i2)) (K:aT s.heap t1 i1 l1 0) (q:aT s.heap t2 i2 l2 0) (ar:bb s.heap t1 l1 xs) (ak:bb s.heap t2 l2 ys)
  (en:n=min xs.size ys.size) (hn:n<=mu)
  (hQ:∀h' tk acc c as,(∀b o,b≠z->b≠TO->b≠i1->b≠i2->s.heap.get? b=Z o->h'.get? b=Z o)->h'.get? s.heap.objs.size=Z {cls:=.type "list",dict:=Y,data:=.seq acc c,slots:=#[]}->as.length=n->ZG xs ys (s.heap.objs.size+1) h' as ->
acc.toList=as.map B.ref->Q (.ref s.heap.objs.size) {s with heap:=h',toks:=tk}):
  wpAny (model prog w) A (call (.type "list") [.ref z]) Q E s:=by
 refine callType_codes (Q₁:=λobj g=>obj=.ref s.heap.objs.size/\g={s with heap:=s.heap.push (~~~#[])}) PySem.F.called_list (PySem.F.typeCall_list_1 _) PySem.F.entry_list_init
  (code_list_new _ (U,U)) λobj g h₁=>?_
 let(U,U):=h₁;have hS:(s.heap.push (~~~#[])).get? s.heap.objs.size=Z (~~~#[]):=kD _ U;let(aW,g1,_):=K.obj;let(aQ,g2,_):=q.obj;let(aP,g3):=ar.obj;let(ay,g4):=ak.obj;have up:∀b o,s.heap.get? b=Z o->(s.heap.push (~~~#[])).get? b=Z o:=λb o e=>gs _ e;refine((_,hS,U),PySem.F.args_list_init_2 _ _,MF hh D (rl (kz hz)) (rl (kz V)) (rl (kz P)) (rl (kz g1)) (rl (kz g2)) (rl (kz g3)) (rl (kz g4))
(up _ _ hz) (up _ _ P) (up _ _ V) (K.at λo e=>up _ o e) (q.at λo e=>up _ o e) (ar.at λo e=>up _ o e) (ak.at λo e=>up _ o e) en hn hS (λh' tk acc c as hk av hl hG ib=>?_))
 rw[BB]at hG;exact(U,hQ h' tk acc c as (λb o b2 b3 b4 b5 e=>hk b o (rl (kz e)) b2 b3 b4 b5 (up b o e)) av hl hG ib)
end
def Hn(h:Do)(m:Nat):Do:={h with objs:=h.objs.extract 0 m}
def n8{m b:Nat}(g:b<m):(Hn h m).get? b=h.get? b:=by
 unfold Hn Heap.get?;have e:(h.objs.extract 0 m)[b]?=h.objs[b]?:=by
  rw[Array.getElem?_extract];by_cases q:b<h.objs.size
  ·rw[if_pos ap,Ft]
  rw[if_neg ap,Yy ap]
 simp only[e]
def u9(hm:m<=h.objs.size):(Hn h m).objs.size=m:=by unfold Hn;rw[Array.size_extract];lia
def Pp{h:Do}{m:Nat}{b:J}{u:Obj}(hm:m<=h.objs.size)(e:(Hn h m).get? b=Z u):h.get? b=Z u:=by have:=kz e;rw[u9 hm]at this;rw[<- n8 this];exact e
def oM(H:Hp):List (J×HO)->Hp
 |[]=>H|p::r=>oM (upd H p.1 p.2) r
theorem oJ:∀{os:List (J×HO)}{H:Hp}{c:J},c ∉ os.map (·.1)->oM H os c=H c
 |[],_,_,_=>rfl|p::r,H,c,h=>by
  show oM (upd H p.1 p.2) r c=H c;rw[oJ (λz=>h (j5 _ z)),au λz=>h (by rw[z];exact j0)]
theorem oK:∀{os:List (J×HO)}{H:Hp}{p:J×HO},(os.map (·.1)).Nodup->p∈os->oM H os p.1=Z p.2
 |q::r,H,p,hn,hp=>by
  have h':=vp.mp hn;show oM (upd H q.1 q.2) r p.1=Z p.2;obtain rfl|hp:=kC.mp hp
  ·rw[oJ h'.1,aA]
  exact oK h'.2 hp
theorem zJ:∀as:Θ,Vals (as.map V.ref) (as.map B.ref)
 |[]=>.nil|a::r=>.cons U (zJ r)
theorem Inv.KZ{X:Cx}{gd:Ξ}{σ:St}{s:ϋ}{h':Do}:∀{os:List (J×HO)}{H:Hp}{m:Nat},Inv X gd σ H {s with heap:=Hn h' m}->m<=h'.objs.size->(os.map (·.1)).Pairwise (· < ·)->(∀p∈os,m<=p.1/\p.1<h'.objs.size) ->
  (∀p∈os,∀(H2:Hp)(P:Do),P.get? p.1=h'.get? p.1->di X.prog X.w H2 P p.1 p.2)->Inv X gd σ (oM H os) {s with heap:=h'}
 |[],H,m,I,hm,_,_,_=>I.kept λb u e=>Pp hm e|p::r,H,m,I,hm,hp,Q,ho=>by
  have g:=Z8.mp hp;let(b1,b2):=Q p j0;have K:=b2;have V:=by
   refine I.laid (t':=s.toks) (λb u e=>?_) ?_ (ho p j0 _ _ (n8 (YB _)))
   ·have lt:=kz e;rw[u9 hm]at lt;have z:=ui lt (sF b1 (Nat.le_succ _));rw[n8 z,<- n8 lt];exact e
   rw[u9 hm];exact b1
  exact Inv.KZ (os:=r) V K g.2 (λq hq=>(g.1 q.1 (kf.mpr (q,hq,U)),(Q q (j5 _ hq)).2)) λq hq=>ho q (j5 _ hq)
def sR(K:BT)(tl:TA):TE:=λσ H R=>tl σ H λvs H1=>Ea4 λl1 l2 xs ys=>vs=[.ref l1,.ref l2]/\SqT K H1 l1 xs/\SqT K H1 l2 ys/\∀(H2:Hp)(L:J)(ps:Θ),H1 L=Y->ps.length=min xs.length ys.length->ps.Nodup->(∀p∈ps,H1 p=Y/\p≠L)->(∀c,c ∉ ps->c≠L->H2 c=H1 c)->H2 L=Z (.lst (ps.map V.ref))->(∀(j:Nat) p x y,ps[j]?=Z p->xs[j]?=Z x->ys[j]?=Z y->H2 p=Z (.tup [x,y]))->R (.ref L) H2
section
variable{a:Ev}{tl:TA}{pos p cq p2:Pos}
def CK(hg:Gl X "list")(hm:X.mg "list"=Y)(bt:Gl X "zip")(a5:X.mg "zip"=Y)(ha:PA X [a,b] tl)(hs:mJ [a,b] X.env=[(ϊ,eval a X.env),(ϊ,eval b X.env)])(aP:AD X b)
  (ay:mJ [.Call (.Name "zip" p2) [a,b] [] cq] X.env=(ϊ,eval (.Call (.Name "zip" p2) [a,b] [] cq) X.env)::mJ [] X.env) (hc:X.calm=O):
  PE X (.Call (.Name "list" p) [.Call (.Name "zip" p2) [a,b] [] cq] [] pos) (sR X.K tl):=by
 intro gd s σ H R I h;refine Call_ (eI I hg hm bn (PyProof.Rows.callWith_type1 (T:="list") ?_ ay ba));rw[ay];refine Calls.spliced_cons ?_;refine Call_ (eI I bt a5 bn (PyProof.Rows.callWith_type1 (T:="zip") (thn (ha cq gd s σ H _ I h) λus s1 (vs,H1,P,r1,q1)=>?_) (by rw[hs,aP]) (by rw[aP];rfl)));let(l1,l2,xs,ys,e,q2,q3,q):=q1;subst e;let(u1,u2,U,aW,aQ):=vals2 r1;cases aW;cases aQ;let(G9,ak,o1,z1):=P.oW (tp:=O) q2;let(fE,Q,o2,z2):=P.oW (tp:=O) q3;let(ct,e1):=o1.obj;let(b0,e2):=o2.obj;have g1:l1<s1.heap.objs.size:=kz e1;have g2:l2<s1.heap.objs.size:=kz e2;refine ji o1 o2 λh1 hz bT bD bp bh hk=>?_;refine Calls.spliced_nil ?_;have nz:s1.heap.objs.size+4<h1.objs.size:=kz hz;have a4:=ak.length;have a0:=Q.length;refine MG (t1:=O) (t2:=O) (xs:=G9.toArray) (ys:=fE.toArray) (n:=min xs.length ys.length) (P.ok.hd hc) (jG g1 g2) hz bD bT bp bh (o1.at λo e=>hk _ o e) (o2.at λo e=>hk _ o e) (by simp[a4,a0]) ap λh' tk acc c as a6 hS hl g ib=>?_;have fr:∀b u,s1.heap.get? b=Z u->h'.get? b=Z u:=λb u e=>by
  have lt:b<s1.heap.objs.size:=kz e;have ne:∀m:Nat,s1.heap.objs.size<=m->b≠m:=λm hm z=>absurd (z▸lt:m<s1.heap.objs.size) ap;exact a6 b u (ne _ ap) (ne _ ap) (ne _ (kB _)) (ne _ ap) (hk b u e)
 have I2:=P.kept (t':=tk) λb u e=>by rw[n8 (kz e)];exact fr b u e
 have lS:h1.objs.size<h'.objs.size:=kz hS;have keys:(((Prod.mk h1.objs.size (HO.lst (as.map V.ref))) ::(as.zip (xs.zip ys)).map λp=>(Prod.mk p.1 (HO.tup [p.2.1,p.2.2]))).map (·.1))=h1.objs.size::as:=by rw[ro,tr];congr 1;have:((λx:J×HO=>x.1) ∘ λp:J×V×V=>(p.1,HO.tup [p.2.1,p.2.2]))=Prod.fst:=rfl;rw[this,ZD (by rw[QX];lia)]
 have pw:(h1.objs.size::as).Pairwise (· < ·):=Z8.mpr (λa ha=>g.above a ha,g.rise);have at':∀(j:Nat)(p:J×V×V),(as.zip (xs.zip ys))[j]?=Z p->as[j]?=Z p.1/\xs[j]?=Z p.2.1/\ys[j]?=Z p.2.2:=λj p hp=>by
  have h1:=Fq.mp hp;have h2:=Fq.mp h1.2;exact(h1.1,h2.1,h2.2)
 have I3:=Inv.KZ (X:=X) (s:={s1 with toks:=tk}) (m:=s1.heap.objs.size) (h':=h') I2 ap (by rw[keys];exact pw) (λp hp=>?_) (λp hp H2 hh e=>?_)
 ·have nd:(h1.objs.size::as).Nodup:=pw.imp λh=>rl h;have av:=vp.mp nd;refine(.ref h1.objs.size,_,I3,U,q _ h1.objs.size as (P.hok.fresh ap) hl av.2 (λp hp=>(P.hok.fresh ?_,λz=>av.1 (z▸hp))) (λc c1 c2=>?_) ?_ (λj p x y hp hx hy=>?_))
  ·have:=g.above p hp;exact sF (show s1.heap.objs.size<=h1.objs.size+1 by lia) this
  ·exact oJ (by rw[keys];exact λz=>(kC.mp z).elim c2 c1)
  ·exact oK (by rw[keys];exact nd) j0
  have hz:(as.zip (xs.zip ys))[j]?=Z (p,x,y):=Fq.mpr (hp,Fq.mpr (hx,hy));exact oK (p:=(p,HO.tup [x,y])) (by rw[keys];exact nd) (j5 _ (kf.mpr (_,g5 hz,U)))
 ·have:p.1∈h1.objs.size::as:=by rw[<- keys];exact kf.mpr (p,hp,U)
  obtain z|z:=kC.mp this
  ·rw[z];exact(ap,lS)
  have ab:=g.above p.1 z;exact(sF (show s1.heap.objs.size<=h1.objs.size+1 by lia) ab,g.there z)
 obtain rfl|hp:=kC.mp hp
 ·refine(by rw[cU];lia,acc.toList,c,by rw[ib];exact zJ as,?_);rw[e];exact hS
 let(t,ht,U):=kf.mp hp;let(j,hj):=List.getElem?_of_mem ht;let(a1,a2,a3):=at' j t hj;let(x,y,x1,y1,pr):=g.pairs j t.1 a1;let(u1,w1,r1):=ak.get a2;let(u2,w2,r2):=Q.get a3;rw[YT,w1]at x1;cases x1;rw[YT,w2]at y1;cases y1;have ar:hh.get? t.1=_:=e.trans pr;exact(by show 2<=mu;decide,[x,y],.cons r1 (.cons r2 .nil),((_,ar,U,_,U),_,ar,U))
end
section
variable{prog:Da}{w:Cl}{s:ϋ}
theorem Hg{e:J}{i:Nat}{x old:B}{Q:Option B->ϋ->Prop}
  (he:IsEnum s.heap e it i old) (hit:aT s.heap tp it l i) (hl:bb s.heap tp l items) (hx:items[i]?=Z x) (K:e≠it)
  (hQ:∀h',IsEnumOut h' e it ((i:Int)+1) x s.heap.objs.size->aT h' tp it l (i+1)->h'.get? s.heap.objs.size=Z {cls:=.type "tuple",data:=.seq #[.int i s.toks,x]}->h'.objs.size=s.heap.objs.size+1 ->
(∀b o,b≠e->b≠it->s.heap.get? b=Z o->h'.get? b=Z o)->Q (Z (.ref s.heap.objs.size)) {s with heap:=h',toks:=s.toks+1}):wpAny (model prog w) A (pyNext (.ref e)) Q E s:=by
 have hT:s.TypeIs (.ref e) "enumerate":=(_,he,U);let(hp,g,d,tk,os):=s;refine dN (Yt (wpAny_callSpecial?_slot hT F.slot_enumerate_next (E3 F.slot_enumerate_next hT F.entry_enumerate_next ?_ (F.args_enumerate_next_1 _))));show wpAny _ _ (field (.ref e) 2 >>= _) _ _ _;refine dN (wpAny_field he U U ?_);refine dN (next_item hit hl hx λh1 XI ar=>?_);have av:=(ar.2 e K).trans he;refine dN (wpAny_field av U U (dN (wpAny_field av U U (dN (wpAny_mkInt (dN (wpAny_setField_rec av ad λh2 bD ak=>(dN (wpAny_setField_rec bD ad λh3 bt V=>?_)))))))));show wpAny _ _ (newTuple [.int i tk,x] >>= _) _ _ (h3,g,d,tk+1,os);refine dN (wpAny_newTuple ?_);have P:IsEnum (h3.push {cls:=.type "tuple",data:=.seq #[.int i tk,x]}) e it ((i)+1) old:=gs _ bt;have hsz:h3.objs.size=hp.objs.size:=by rw[V.1,ak.1,ar.1]
 have a5:=kz he;have aQ:(h3.push {cls:=.type "tuple",data:=.seq #[.int i tk,x]}).get? hp.objs.size=Z {cls:=.type "tuple",data:=.seq #[.int i tk,x]}:=by rw[<- hsz];exact kD _ U
 have aP:(h3.push {cls:=.type "tuple",data:=.seq #[.int i tk,x]}).objs.size=hp.objs.size+1:=by rw[BB,hsz]
 have a4:∀b o,b≠e->b≠it->hp.get? b=Z o->(h3.push {cls:=.type "tuple",data:=.seq #[.int i tk,x]}).get? b=Z o:=λb o q ay hb=>gs _ (V.extBut b o q (ak.extBut b o q (ar.extBut b o ay hb)));have V8:aT (h3.push {cls:=.type "tuple",data:=.seq #[.int i tk,x]}) tp it l (i+1):=XI.at λo eo=>gs _ (V.extBut _ o K.symm (ak.extBut _ o K.symm eo));generalize h3.push {cls:=.type "tuple",data:=.seq #[.int i tk,x]}=h4 at P aQ aP a4 V8;rw[hsz];refine dN (dN (wpAny_field P U U (kA (dN (UU (dN (wpAny_field P U (x:=old) U (dN (wpAny_setField_rec P ad λh5 bp a3=>(dN (dN (wpAny_setField_rec bp ad λh6 bh a0=>(wpAny_setField_rec bh ad λh7 a6 aW=>?_)))))))))))));have up:∀c o,c≠e->h4.get? c=Z o->h7.get? c=Z o:=λc o hc z=>aW.extBut _ _ hc (a0.extBut _ _ hc (a3.extBut _ _ hc z));refine dN (wpAny_letGo (kA (_,U,kA (hQ h7 a6 (V8.at λo eo=>up _ o K.symm eo) (up _ _ (D7 a5) aQ) ?_ λb o q ay hb=>up b o q (a4 b o q ay hb)))));rw[aW.1,a0.1,a3.1,aP]
theorem LD{e:J}{i:Nat}{old:B}{Q:Option B->ϋ->Prop}(z:A.handled=Y)
  (he:IsEnum s.heap e it i old) (hit:aT s.heap tp it l i) (hl:bb s.heap tp l items) (hx:items[i]?=Y) (P:∀h',ZQ it s.heap h'->Q Y {s with heap:=h'}):wpAny (model prog w) A (pyNext (.ref e)) Q E s:=by
 have hT:s.TypeIs (.ref e) "enumerate":=(_,he,U);refine dN (Yt (wpAny_callSpecial?_slot hT F.slot_enumerate_next (E3 F.slot_enumerate_next hT F.entry_enumerate_next ?_ (F.args_enumerate_next_1 _))));show wpAny _ _ (field (.ref e) 2 >>= _) _ _ _;refine dN (wpAny_field he U U (dN (next_end z hit hl hx λh' x q g=>?_)));let(o,ho,K):=g;exact dN (Ys (o,ho,K) isSubtype_stop (kA (P _ q)))
abbrev eH1(tp:Bool)(h:Do)(l:J):Do:=h.push {cls:=.type (itc tp),data:=.fields #[.ref l,.int 0 0]}
abbrev eH2(tp:Bool)(h:Do)(l:J):Do:=(eH1 tp h l).push {cls:=.type "enumerate",data:=.fields #[.none,.bool ϊ,.ref h.objs.size,rawInt 0,.none,.none]}
def ux(tp:Bool)(l:J)(xs:Array B):
  Meets (Builtin.«enumerate.__new__» ([.type "enumerate",.ref l],[])) (λ_ R s=>bb s.heap tp l xs/\R (.ok (.ret (.ref (eH1 tp s.heap l).objs.size))) {s with heap:=eH2 tp s.heap l}):=
 .of_wp λprog w A R s h=>by
  let(hl,h):=h;have q:=sub_enumerate;have g:=hl
  wp_walk
  refine wpAny_stack_any λst=>kA ?_;split
  ·rename_i c _ _ _ _ _;cases(c==B.type "enumerate")
   ·wp_walk using kg g
    exact(_,U,h)
   wp_walk using kg g
   exact(_,U,h)
  wp_walk using kg g
  exact(_,U,h)
theorem wo(hl:bb s.heap tp l xs)
  (h:∀h',IsEnum h' (s.heap.objs.size+1) s.heap.objs.size 0 .none->aT h' tp s.heap.objs.size l 0->(∀b o,s.heap.get? b=Z o->h'.get? b=Z o)->Q (.ref (s.heap.objs.size+1)) {s with heap:=h'}):
  wpAny (model prog w) A (call (.type "enumerate") [.ref l]) Q E s:=by
 refine callType_new F.called_enumerate ac (F.typeCall_enumerate_1 _) (F.newCall_enumerate_1 _) (λobj=>F.args_object_init_2 obj _) F.entry_enumerate_new (ux tp l xs) (hl,?_);have g:(eH1 tp s.heap l).objs.size=s.heap.objs.size+1:=BB ..;have g2:(eH2 tp s.heap l).get? (eH1 tp s.heap l).objs.size=Z _:=kD _ U;have g1:(eH2 tp s.heap l).get? s.heap.objs.size=Z _:=gs _ (kD _ U);rw[g]at g2 ⊢;exact((_,g2,U),h _ g2 (jK g1) λc o x=>gs _ (gs _ x))
end
def Ite(K:BT)(tp:Bool)(l:J):It:=
 (λi H=>∃xs x,SqB K tp H l xs/\xs[i]?=Z x,
λi H v H'=>∃(p:J)(x:V),H p=Y/\v=.ref p/\H'=upd H p (.tup [.int i,x])/\∀xs,SqB K tp H l xs->xs[i]?=Z x,
λi H=>∃xs,SqB K tp H l xs/\xs.length<=i)
theorem FX{K:BT}{x1}{pos:Pos}(e it l:J)(Q:e≠it):
  Turn P w K (.Tuple elts x1 pos) (Ite K tp l) [e,it] e (λi h=>(∃old,IsEnum h e it i old)/\aT h tp it l i) where
 mem:=by simp
 obj:=by
  rintro i h ⟨⟨old,h1⟩,h2⟩ c q;simp only[kC,v5,or_false]at q;obtain rfl|rfl:=q
  ·exact(_,h1,λv e=>by cases e)
  exact h2.obj
 keep:=by rintro i h h' ⟨⟨old,h1⟩,h2⟩ k;exact((old,k e ad _ h1),h2.at λo z=>k it ad o z)
 item:=by
  intro X hP hw hK q i gd s σ H E I hf st hg;subst hP hw hK;let((old,h1),h2):=st;let(xs,x,q1,e1):=hg;let(its,rv,o1,z1):=I.oW q1;let(u1,av,ar):=rv.get e1;refine Hg h1 h2 o1 (x:=u1) (av:) Q λh' ay aQ aW V3 aP=>(_,U,(wpAny_letOwnedTupleGo_enum ay λak Pc Lo=>?_));have hn:=I.hok.fresh (kB s.heap.objs.size);have le:=kz h1;let(oi,a0,_):=h2.obj;have li:=kz a0;have S4:∀b ∈ [e,it],b≠s.heap.objs.size:=λb g=>by
   simp only[kC,v5,or_false]at g;obtain rfl|rfl:=g
   ·exact rl le
   exact rl li
  have up:∀c o,c≠e->h'.get? c=Z o->ak.get? c=Z o:=λc o q z=>Lo.extBut _ _ q z;have I1:Inv X gd σ (upd H s.heap.objs.size (.tup [.int i,x])) {s with heap:=s.heap.push {cls:=.type "tuple",data:=.seq #[.int i s.toks,u1]},toks:=s.toks+1}:=
   I.laid (λb u z=>gs _ z) (kB _) (by show 2<=mu;decide,[.int i s.toks,u1],.cons (_,U) (.cons ar .nil),((_,kD _ U,U,_,U),_,kD _ U,U))
  have V:∀b ∈ [e,it],rH X gd (upd H s.heap.objs.size (.tup [.int i,x])) b:=λb g=>by
   let(f0,r):=hf b g;exact(by rw[au (S4 b g)];exact f0,r)
  have I2:=by
   refine I1.kL (h':=ak) (t':=s.toks+1) (λb o g z=>?_) V;simp only[kC,v5,or_false,not_or]at g;let(b1,b2):=g;obtain⟨rfl,rfl⟩|z':=Zg z
   ·exact up _ _ b1 aW
   exact up _ _ b1 (aP b o b1 b2 z')
  exact(.ref s.heap.objs.size,upd H s.heap.objs.size (.tup [.int i,x]),I2,U,(_,x,hn,U,U,λzs hz=>by rw[I.tG hz q1];exact e1),(((_,(Pc:)),aQ.at λo z=>up _ _ Q.symm z)),λb g=>(V b g).1)
 done:=by intro X hP hw hK q i gd s σ H E I hf st hg;subst hP hw hK;let((old,h1),h2):=st;let(xs,q1,uM):=hg;let(its,rv,o1,z1):=I.oW q1;have g1:=rv.length;refine LD (I.ok.hd q) h1 h2 o1 (by simp;lia) λh' k=>(U,I.kL (λb o g z=>?_) hf);simp only[kC,v5,or_false,not_or]at g;exact k b o g.2 z
 self:=λ_ _ _ _ _ st h=>let((_,z),_):=st;wpAny_pyIter_enum z h
def qF(K:BT)(tp:Bool)(ta:TA):TI:=λσ H R=>ta σ H λvs H1=>∃l,vs=[.ref l]/\(∃xs,SqB K tp H1 l xs)/\R (Ite K tp l) H1
def Oa{x1}{a:Ev}{ta:TA}{p pos:Pos}(hg:Gl X "enumerate")(hm:X.mg "enumerate"=Y)(eQ:bootBuiltins "enumerate"=Z (.type "enumerate"))(ha:PA X [a] ta)(hs:‹AD X a›):
  PI X (.Tuple elts x1 pos') (.Call (.Name "enumerate" p) [a] [] pos) (qF X.K tp ta):=by
 intro gd s σ H R I h;refine Call_ (eI I hg hm eQ (PyProof.Rows.callWith_type1 (thn (ha pos gd s σ H _ I h) λus s1 (vs,H1,P,r1,q1)=>?_) hs U));let(l,e,(xs,q2),q):=q1;subst e;let(u1,U,Q):=vals1 r1;cases Q;let(its,rv,o1,z1):=P.oW q2;refine wo o1 λh' he hi hk=>wpAny_pyIter_enum he ?_;refine(_,[s1.heap.objs.size+1,s1.heap.objs.size],_,_,H1,U,P.kept hk,FX _ _ l (λz=>absurd (z) ap),((_,he),hi),λc V=>?_,q);have g:s1.heap.objs.size<=c:=by simp only[kC,v5,or_false]at V;obtain rfl|rfl:=V <;> first|exact Nat.le_add_right _ _|exact kB _
 exact P.Dh g (P.hok.fresh g)
end L2
namespace PySem
open Sem (wp)
def Ja:mroOf (.type "reversed")=pure [.type "reversed",.type "object"]:=bn
def RE:typeLookup (.type "reversed") "__new__"=pure (Z (.builtin "reversed.__new__")):=bn
def xZ:Slot "reversed" "__init__" "object.__init__":=
 .of (owner:="object") (n:="__init__") bn bi bi bi (.inl bi) bn
def IZ:isSubtype (.type "reversed") (.type "reversed")=pure true:=bn
def Gf:TypeCalled "reversed" "reversed.__new__" "object.__init__":=
 (bi,bi,(_,_,Ja),madeBy_type Ja RE bi,bi,bn,xZ)
def zT(a:B):checkTypeCall "reversed" ([a],[])=pure ():=bn
def Ct(a:B):checkBuiltinCall "reversed.__new__" ([.type "reversed",a],[])=pure ():=bn
def x3:entryFor table "reversed.__new__"=Z Builtin.«reversed.__new__»:=entryFor_of_tree bn
def I0:Manifest.owners.lookup (String.ofList ['d','e','s','r','e','v','e','r'].reverse)=Z Manifest.sig_reversed:=bn
def d9:Slot "reversed" "__next__" "reversed.__next__":=
 .of (owner:="reversed") (n:="__next__") bn bi bi bi (.inl bi) bn
def lB:entryFor table "reversed.__next__"=Z Builtin.«reversed.__next__»:=entryFor_of_tree bn
def m5(a:B):argsOk "reversed.__next__" ([a],[]):=by kernel_rfl
def m4:Slot "reversed" "__iter__" "reversed.__iter__":=
 .of (owner:="reversed") (n:="__iter__") bn bi bi bi (.inl bi) bn
def x4(a:B):argsOk "reversed.__iter__" ([a],[]):=by unfold argsOk;rw[signature?_of (n:=['_','_','r','e','t','i','_','_']) bn I0];kernel_rfl
def vQ:entryFor table "reversed.__iter__"=Z Builtin.«dict_keyiterator.__iter__»:=
 entryFor_alias (id':="dict_keyiterator.__iter__") bn ba bi bn
def iY:Slot "reversed" "__length_hint__" "reversed.__length_hint__":=
 .of (owner:="reversed") (n:="__length_hint__") bn bi bi bi (.inr bi) bn
def vR:entryFor table "reversed.__length_hint__"=Z Builtin.«reversed.__length_hint__»:=entryFor_of_tree bn
def x5(a:B):argsOk "reversed.__length_hint__" ([a],[]):=by kernel_rfl
def Ge:typeLookup (.type "reversed") "__len__"=pure none:=bn
def B5:typeLookup (.type "tuple") "__reversed__"=pure none:=bn
def xC:isSubtype (.type "tuple") (.type "dict")=pure false:=bn
section
variable{prog:Da}{w:Cl}{A:Db}{E:Φ}{s:ϋ}
def Qe(l:J)(i:Int):Obj:={cls:=.type "reversed",data:=.fields #[.ref l,rawInt i]}
abbrev HG(h:Do)(a l:J)(i:Int):Prop:=h.get? a=Z {cls:=.type "reversed",dict:=Y,data:=.fields #[.ref l,rawInt i],slots:=#[]}
theorem Jb(l:J)(items:Array B)(z:(items.size:Int)<2 ^ 63):
  Meets (Builtin.«reversed.__new__» ([.type "reversed",.ref l],[])) (λ_ R s=>s.heap.IsTuple l items /\
R (.ok (.ret (.ref s.heap.objs.size))) {s with heap:=s.heap.push (Qe l ((items.size:Int)-1)),toks:=s.toks+1+1}):=
 .of_wp λprog w A R s h=>by
  let(hp,g,d,tk,os):=s;let(hl,h):=h;have hT:((hp,g,d,tk,os):ϋ).TypeIs (.ref l) "tuple":=by let(o,ho,q,_):=id hl;exact(o,ho,q)
  refine dN (YO (a:=(B.type "reversed",[B.ref l])) ?_ ?_)
  ·unfold Builtin.SmallTypes.newClass;simp only[isType,IZ,pure_bind,Bool.not_true,Y2,if_false]
  refine dN (YO (a:=()) (by first|rfl|kernel_rfl) (dN (YO (a:=()) (by first|rfl|kernel_rfl) (dN (Rj hT B5 (dN (dN (Ys hT xC (dN (Rj hT F.slot_tuple_getitem.lookup ?_))))))))));refine kA (dN (PyProof.Rows.len_tuple hl ap (dN (YO U (dN ?_)))));unfold Builtin.SmallTypes.newRecord;exact Xx (kA (_,U,h))
theorem Nt{l:J}{items:Array B}{Q:Φ}(g:(items.size:Int)<2 ^ 63)(hl:s.heap.IsTuple l items)
  (h:Q (.ref s.heap.objs.size) {s with heap:=s.heap.push (Qe l ((items.size:Int)-1)),toks:=s.toks+1+1}):wpAny (model prog w) A (call (.type "reversed") [.ref l]) Q E s:=
 callType_new Gf ac (zT _) (Ct _) (λobj=>F.args_object_init_2 obj _) x3 (Jb l items g) (hl,(_,kD _ U,U),h)
theorem Nq{a l:J}{i:Nat}{items:Array B}{x:B}{Q:Option B->ϋ->Prop}(wg:(items.size:Int)<2 ^ 63)(hr:HG s.heap a l (i:Int))(hl:s.heap.IsTuple l items)(hx:items[i]?=Z x)
  (V:∀h',HG h' a l ((i:Int)-1)->YQ a s.heap h'->Q (Z x) {s with heap:=h',toks:=s.toks+1}):wpAny (model prog w) A (pyNext (.ref a)) Q E s:=by
 have hT:s.TypeIs (.ref a) "reversed":=(_,hr,U);have z:s.TypeIs (.ref l) "tuple":=by let(o,ho,P,_):=id hl;exact(o,ho,P)
 have K:=(Array.getElem?_eq_some_iff.mp hx).1;refine dN (Yt (wpAny_callSpecial?_slot hT d9 (E3 d9 hT lB ?_ (m5 _))));show wpAny _ _ (field (.ref a) 0 >>= _) _ _ _;refine dN (wpAny_field hr U U (dN (wpAny_field hr U U ?_)));refine dN (Rj z F.slot_tuple_getitem.lookup ?_);refine dN (wpAny_mkInt (dN (Yt (PyProof.Rows.getItem_tuple hl ap ap ?_ hx ?_))))
 ·unfold seqIndex?;simp;lia
 exact dN (wpAny_field hr U U (dN (wpAny_setField_rec hr ad λh' q g=>(kA (_,U,kA (V h' q g))))))
def RF{Q:Option B->ϋ->Prop}(V:A.handled=Y)(hr:HG s.heap a l (-1))(hQ:∀h',ZQ a s.heap h'->Q Y {s with heap:=h'}):wpAny (model prog w) A (pyNext (.ref a)) Q E s:=by have hT:s.TypeIs (.ref a) "reversed":=(_,hr,U);refine dN (Yt (wpAny_callSpecial?_slot hT d9 (E3 d9 hT lB ?_ (m5 _))));show wpAny _ _ (field (.ref a) 0 >>= _) _ _ _;refine dN (wpAny_field hr U (x:=.ref l) U (dN (wpAny_field hr U U ?_)));refine dN (UU (dN (dN (wpAny_setField_rec hr ad λh1 z q=>(wpAny_setField_rec z ad λh2 P g=>(dN (dN (dN (m:=firstArgMember _ _) (YO ba (Xx (dN (wpAny_handled ?_)) (by size_fits)))))))))));rw[V];refine dN (kA (wpAny_throw ?_));exact dN (Ys (_,kD _ U,U) isSubtype_stop (kA (hQ _ (λb o K e=>gs _ (gs _ (g.extBut b o K (q.extBut b o K e)))))))
def Np{a l:J}{i:Int}{Q:Φ}(hr:HG s.heap a l i)(h:Q (.ref a) s):wpAny (model prog w) A (pyIter (.ref a)) Q E s:=by have hT:s.TypeIs (.ref a) "reversed":=(_,hr,U);exact wpAny_pyIter_slot hT m4 (E3 m4 hT vQ (kA (_,U,"reversed",_,hT,d9.lookup,h)) (x4 _))
end
section
variable{prog:Da}{w:Cl}{A:Db}{E:Φ}{s:ϋ}
def Nr{I l:J}{items:Array B}{i:Nat}{Q:Bool->ϋ->Prop}(V:items.size<=mu)(P:(items.size:Int)<2 ^ 63)(hi:i<=items.size)(hr:HG s.heap I l ((i:Int)-1))(hl:s.heap.IsTuple l items)(z:∀b tk,s.toks<=tk->Q b {s with toks:=tk}):
  wpAny (model prog w) A (Builtin.List.listLengthHint (.ref I)) Q E s:=by
 have hT:s.TypeIs (.ref I) "reversed":=(_,hr,U);refine dN (Rj hT Ge ?_);refine dN (Rj hT iY.lookup ?_);generalize g:("reversed.__length_hint__")=q;subst g;refine dN (Ys hT IZ ?_);refine dN (UU (dN (YO (iY.bind _) (dN (Yt (E3 iY hT vR ?_ (x5 _)))))));show wpAny _ _ (field (.ref I) 0 >>= _) _ _ _;refine dN (wpAny_field hr U U ?_);refine dN (PyProof.Rows.len_tuple hl ap ?_);show wpAny _ _ (field (.ref I) 1 >>= _) _ _ _;refine dN (wpAny_field hr U U ?_);show wpAny _ _ (if(items.size:Int)<(i:Int)-1+1 then _ else _) _ _ _;rw[if_neg ap];refine dN (wpAny_mkInt (kA (_,U,?_)));refine dN (YO U ?_);have f1:Builtin.List.listFitsIndex ((i:Int)-1+1)=true:=by unfold Builtin.List.listFitsIndex;simp;lia
 have f2:¬((i:Int)-1+1)<0:=ap;have K:Builtin.List.listTooLong ((i:Int)-1+1).toNat=false:=by unfold Builtin.List.listTooLong;simp;lia
 dsimp only;rw[if_neg (by rw[f1];decide),if_neg f2,if_neg (by rw[K];decide)];exact kA (z _ _ ap)
def Walks.rv(hh:A.handled=Y)(I l:J)(K:l≠I)(items:Array B)(wg:(items.size:Int)<2 ^ 63):
  Walks prog w A I [I,l] [I] items.size (λi v=>items[items.size-1-i]?=Z v) (λi h=>i<=items.size/\HG h I l (((items.size-i:Nat):Int)-1)/\h.IsTuple l items) where
 sub:=λb g=>by simp at g;simp[g]
 frame:=λ_ _ _ x hk=>(x.1,hk I ad _ x.2.1,let(o,ho,r):=x.2.2;(o,hk l ad o ho,r))
 item:=λi s Q E hi x z=>by
  have e:((items.size-i:Nat):Int)-1=((items.size-1-i:Nat)):=ap;have hit:=x.2.1;rw[e]at hit;have hx:items[items.size-1-i]?=Z (items[items.size-1-i]' ap):=Yj ap;refine Nq wg hit x.2.2 hx λh' V9 q=>?_;have e2:((items.size-1-i:Nat):Int)-1=((items.size-(i+1):Nat))-1:=ap;rw[e2]at V9;exact z _ h' _ hx (hi,V9,let(o,ho,r):=x.2.2;(o,q.extBut _ _ K ho,r)) λb o g V=>q.extBut b o (λh=>g (by simp[h])) V
 done:=λs Q E x z=>by
  have hit:=x.2.1;rw[Zo]at hit;exact RF hh hit λh' P=>z h' s.toks λb o g V=>P b o (λh=>g (by simp[h])) V
 self:=λ_ _ _ _ x z=>Np x.2.1 z
end
end PySem
namespace L2
open PySem PySem.Spec PyProof.Rows
def oU(K:BT)(te:TE):TE:=λσ H Q=>te σ H λx H1=>∃l ys,x=.ref l/\SqT K H1 l ys/\∀q,H1 q=Y->Q (.ref q) (upd H1 q (.lst ys.reverse))
variable{X:Cx}{e:Ev}{te:TE}
def An{p1 p2 cq pos:Pos}(hc:X.calm=O)(aP:Gl X "list")(av:X.mg "list"=Y)(ay:Gl X "reversed")(ar:X.mg "reversed"=Y)(he:PE X e te)
  (g:‹AD X e›) (ak:‹mJ [.Call (.Name "reversed" p2) [e] [] cq] X.env=[(ϊ,eval (.Call (.Name "reversed" p2) [e] [] cq) X.env)]›):
  PE X (.Call (.Name "list" p1) [.Call (.Name "reversed" p2) [e] [] cq] [] pos) (oU X.K te):=by
 left;refine QL (eI I aP av boot_list (PyProof.Rows.callWith_type1 (Calls.spliced_cons (QL (eI I ay ar boot_reversed (PyProof.Rows.callWith_type1 ?_ g U)))) ak U));rw[g];refine Calls.spliced_cons (thn (he gd s σ H _ I h) λu s1 aQ=>?_);let(x,H1,I1,r1,l,ys,ex,hl,q):=aQ;subst ex;cases r1;refine Calls.spliced_nil ?_;let(its,rv,V,hz):=I1.tuple hl;have hlen:=rv.length;have aW:=kb;have P:(its.toArray.size:Int)<2 ^ 63:=by rw[qg];lia
 have z:l<s1.heap.objs.size:=by let(_,e,_):=id V;exact kz e
 refine Nt P V (Calls.spliced_nil ?_);have W:=Walks.rv (prog:=X.prog) (w:=X.w) (A:=X.A.in1.in1) (I.ok.hd hc) s1.heap.objs.size l (rl z) its.toArray P;exact wV I1 z W (λi s' st=>(_,st.2.1,U)) ac ac (λs' Q' E' st hq=>Nr (by rw[qg];lia) P (kB _) (st.2.1:) st.2.2 hq)
  (zt _,kD _ U,let(o,ho,r):=V;(o,gs _ ho,r)) (λacc h=>zI (rv:) h) (by rw[YJ];exact hz) (by rw[qg];lia) q
def Paired.at_{r:α->β->Prop}{xs:List α}(h:Paired r xs ys):∀{i:Nat}{y:β},ys[i]?=Z y->∃x,xs[i]?=Z x/\r x y:=by
 induction h with
 |nil=>intro i y h;simp at h
 |cons h1 _ q =>intro i y g;cases i with|zero=>simp at g;subst g;exact(_,U,h1)|succ i=>simpa using q (g:)
section
variable{gd:Ξ}{σ:St}{H:Hp}{s:ϋ}{a:J}{u u':HO}
def Inv.zW(I:Inv X gd σ H s)(g:H a=Z u)(h1:∀xs,u ≠ .tup xs)(h2:∀c,u ≠ .own c)(h3:∀ps,u ≠ .tbl ps)(P:∀o v,X.be a≠Z (.frz o v))(new:di X.prog X.w (upd H a u') s.heap a u'):Inv X gd σ (upd H a u') s:=by
 have ne:∀{b:J},H b=Y->b≠a:=λ{b} e z=>by rw[z,g]at e;cases e
 refine(I.ok,I.os,I.bare,(I.base.keep,I.base.slot,λb o e n hx=>?_,I.base.there,λb xs e=>?_,λb o v e=>?_,λb ps e=>?_),I.loc,I.cell,?_,λx c e=>?_,λp hp=>?_,λb o e=>?_,I.len)
 ·have:=I.base.free b o e n hx;rw[au (ne this)];exact this
 ·have:=I.base.sO b xs e;rw[au λz=>by rw[z,g]at this;exact h1 xs (Option.some.inj this)];exact this
 ·have:=I.base.k9 b o v e;rw[au λz=>by rw[z]at e;exact P o v e];exact this
 ·let(more,this):=I.base.sQ b ps e;refine(more,?_);rw[au λz=>by rw[z,g]at this;exact h3 _ (Option.some.inj this)];exact this
 ·rw[au (ne I.free)];exact I.free
 ·rw[au (ne (I.gw x c e))];exact I.gw x c e
 ·let(p1,p2,p3):=I.pin p hp;exact(p1,by rw[au (ne p2)];exact p2,p3)
 by_cases K:b=a
 ·subst K;rw[aA]at e;cases e;exact new
 rw[au K]at e;refine(I.hok b o e).d5 (λ_ _ _ q=>q) (λc q=>?_) λc xs q=>?_
 ·rw[au λz=>by rw[z,g]at q;exact h2 _ (Option.some.inj q)];exact q
 rw[au λz=>by rw[z,g]at q;exact h1 _ (Option.some.inj q)];exact q
def Inv.freeze{kvs:ϐ}(I:Inv X gd σ H s)(g:H a=Z (.dK kvs)):(∀o v,X.be a≠Z (.frz o v))/\∃o,Inv X gd σ (upd H a (.frz o (.dK kvs))) s:=by
 have q:∀o v,X.be a≠Z (.frz o v):=λo v e=>by
  have:=I.base.k9 a o v e;rw[g]at this;cases this
 let(z,hs,vs,r,o,es,ep,e,c):=(I.hok a _ g);exact(q,o,I.zW g nofun nofun nofun q (e,z,hs,vs,r,o,es,ep,e,c))
end
def Itd(a:J)(o:Obj)(kvs:ϐ):It:=
 (λi H=>H a=Z (.frz o (.dK kvs))/\i<kvs.length,λi H v H'=>H'=H/\∃kv,kvs[i]?=Z kv/\v=kV kv.1,λi H=>H a=Z (.frz o (.dK kvs))/\kvs.length<=i)
variable{P:Da}
def C5{w:Cl}{k:Key}{v:B}(h:(a8 P w).is k v=O):RelV (kV k) v:=by
 obtain⟨i,t,rfl,rfl⟩|⟨x,t,rfl,rfl⟩:=cg h
 ·exact(t,U)
 exact(t,U)
variable{gd:Ξ}{H:Hp}{d:J}{ep:Nat}
def mw{σ:St}{s:ϋ}{o:Obj}{kvs:ϐ}{es:Array DictEntry}(I:Inv X gd σ H s)(hd:H d=Z (.frz o (.dK kvs)))(ho:o.data=.dict es ep):
  (d==sysModules)=ϊ/\∃vs,KV kvs vs/\s.heap.DictAt (a8 X.prog X.w) d vs ep:=by
 let(e,z,hs,vs,r,o',K,P,q,c,g,rest):=(I.hok d _ hd);rw[e]at q;cases q;rw[ho]at g;cases g;exact(hs,vs,r,o,es,e,c,ho,rest)
variable{tg:Ev}
theorem B4{w:Cl}{K:BT}(d it:J)(o:Obj)(kvs:ϐ)(es:Array DictEntry)(ep:Nat)(ho:o.data=.dict es ep):Turn P w K tg (Itd d o kvs) [it] it (λi h=>h.IsKeyIter it d i kvs.length ep) where
 mem:=by simp
 obj:=λi h st b q=>by
  have e:b=it:=(q:);subst e;let(o,e,c,d):=st;exact(o,e,λv z=>by rw[d]at z;cases z)
 keep:=λi h h' st k=>let(o,e,r):=st;(o,k it ad o e,r)
 item:=by intro X Q hw hK hc i gd s σ H E I hf st hg;subst Q hw hK;let(hd,ak):=hg;let(_,vs,r,at_):=mw I hd ho;have l1:=Paired.length r;have hv:vs[i]?=Z (vs[i]' ap):=dQ ap;let(kv,ek,e1,_):=Paired.at_ r hv;let(f0,f1,f2,f3,f4,f5):=hf it ad;rw[l1]at st;refine wpAny_pyNext_dict_item st at_ hv λkey h' uL g sb=>?_;have I1:=I.turned (t':=s.toks) (λb o q e=>(sb.2 b q).trans e) f0 f1 f3 f4 f5;let(oi,e,c,dd):=id g;rw[<- l1]at g;exact(key,U,ER e c dd ac (kV kv.1,H,I1,C5 (by rw[e1];exact uL),(U,kv,ek,U),g,λb q=>(hf b q).1))
 done:=by intro X Q hw hK hc i gd s σ H E I hf st hg;subst Q hw hK;let(hd,hle):=hg;let(_,vs,r,at_):=mw I hd ho;have l1:=Paired.length r;let(f0,f1,f2,f3,f4,f5):=hf it ad;rw[l1]at st;exact wpAny_pyNext_dict_end (I.ok.hd hc) st at_ (P2 ap) λh' eb=>(U,I.turned (λb o q e=>eb b o q e) f0 f1 f3 f4 f5)
 self:=λ_ _ _ _ _ st h=>wpAny_pyIter_keyiter st h
def Lm(te:TE):TI:=λσ H R=>te σ H λx H1=>∃d o kvs,x=.ref d/\H1 d=Z (.frz o (.dK kvs))/\R (Itd d o kvs) H1
def Kb(he:PE X e te):PI X tg e (Lm te):=by intro gd s σ H R I h;refine thn (he gd s σ H _ I h) λu s1 K=>?_;let(x,H1,g,r1,d,o,kvs,ex,hd,q):=K;subst ex;cases r1;let(eo,z,ak,V,r0,o',es,ep,Q,c,P,rest):=(g.hok d _ hd);rw[eo]at Q;cases Q;let(hs,vs,r,at_):=mw g hd P;have l1:=Paired.length r;refine wpAny_pyIter_dict hs at_ ?_;refine(_,[s1.heap.objs.size],_,_,H1,U,g.kept (λb o e=>gs _ e),B4 d _ o kvs es ep P,(_,kD _ U,U,by rw[l1];rfl),λc hc=>?_,q);rw[fy.mp hc];exact g.Dh (kB _) (g.hok.fresh (kB _))
end L2
namespace PySem
open Sem (wp)
open Builtin Builtin.ObjectAttr
inductive BA(h:Do)(S:Γ)(bmB:Δ):Δ->Prop
 |base:BA h S bmB bmB|own{A:J}{c0:B}{dd:Option J}{cd:ClassData}{sl:Array (Option B)}{mA:Υ}{tl:Δ} :
   h.get? A=Z {cls:=c0,dict:=dd,data:=.cls cd,slots:=sl}->h.Ns cd.ns mA->(∀n∈S,mA n=Y)->BA h S bmB tl->BA h S bmB (.ref A::tl)
section
variable{nm q:Str}{C N x:J}{bs bm bmB:Δ}{sn:Γ}{sub:Δ}{ab TU:Bool}{col:Option Bool}{dd:Option J}{k0 k1 k2 k3 k5:Option B}{ώ newId sa owner:String}
 {mN mA:Υ} {name:Str} {v:B} {S:Γ}
end
section
variable{nm q:Str}{C N x:J}{bs bm bmB:Δ}{sn:Γ}{sub:Δ}{ab TU:Bool}{col:Option Bool}{dd:Option J}{k0 k1 k2 k3 k5:Option B}{ώ newId:String}
 {mN mA:Υ} {name:Str} {v:B} {S:Γ} {o:Obj}
end
end PySem
namespace PySem
open Sem (wp)
def Uy(h:Do)(e:J)(cls:B)(dx:Option J)(y:B):Prop:=
 ∃o vs g,h.get? e=Z o/\o.cls=cls/\o.dict=dx/\o.data=.fields vs/\vs[0]?=Z g/\vs[1]?=Z y
end PySem
namespace L2
open PySem PySem.Spec PyProof.Rows
abbrev bmV:List Value:=[.type "ValueError",.type "Exception",.type "BaseException",.type "object"]
abbrev xS(fn:Γ):Γ:="__setattr__" :: "__getattribute__" :: "__getattr__" :: "__class__" :: fn
structure Up(K:BT)(fn:Γ)(C:J)(bm:Δ)(ini:Option J):Prop where
 all:∀h:Do,K.In h->∃nm q N bs sn sub ab col dd k0 k1 k2 k3 k5 mN,h.get? C=Z (excClassObj nm q C N bs bm O sn sub ab col dd k0 k1 k2 k3 k5 "ValueError.__new__")/\h.Ns N mN /\
  (∀n∈xS fn,mN n=Y)/\mN "__init__"=ini.map B.ref/\BA h ("__init__" :: xS fn) bmV bm
 cl:∃cd,W.clsIn K C=Z cd/\cd.mro=.ref C::bm
 ty:W.typeIn K (.ref C)=Z (.type "type")
def rK(K:BT)(S:Γ)(bmB:Δ):Δ->Bool
 |[]=>bmB == []|v::r=>(v::r)==bmB||match v with
  |.ref A=>(match K.lookup A with
|some (_,_,.cls cd,_)=>W.nsOkIn K cd.ns&&S.all (λn=>W.nsIn K cd.ns n==Z Y)&&rK K S bmB r
|_=>ϊ)
  |_=>ϊ
theorem zP{K:BT}(X:K.In h):∀{l:Δ},rK K S bmB l=O->BA h S bmB l
 |[],e=>by rw[<- beq_iff_eq.mp e];exact .base|v::r,e=>by
  unfold rK at e;obtain q|q:=Bool.or_eq_true_iff.mp e
  ·rw[beq_iff_eq.mp q];exact .base
  split at q
  ·split at q
   ·rename_i ho;rw[uj,uj]at q;exact .own (X _ _ ho) (.of_isNs (W.isNs_of_in X q.1.1)) (λn hn=>W.nsMap_none_of_in X q.1.1 (beq_iff_eq.mp (PX.mp q.1.2 n hn))) (zP X q.2)
   cases q
  cases q
def Wx:Data->Option ClassData
 |.cls cd=>Z cd|_=>Y
def Hr{d:Data}{cd:ClassData}(h:Wx d=Z cd):d=.cls cd:=by cases d <;> first|exact congrArg Data.cls (Option.some.inj h)|cases h
def HR(K:BT)(fn:Γ)(C:J)(bm:Δ)(ini:Option J)(sl:Array (Option B))(cd:ClassData):Bool:=
 cd.mro == .ref C::bm&&sl.size==6&&sl[4]? == Z (Z (.builtin "ValueError.__new__")) && !cd.hasDel&&cd.hasDict&&rK K ("__init__" :: xS fn) bmV bm&&W.nsOkIn K cd.ns &&
  (xS fn).all (λn=>W.nsIn K cd.ns n==Z Y)&&W.nsIn K cd.ns "__init__" == Z (ini.map B.ref)
def xy(K:BT)(fn:Γ)(C:J)(bm:Δ)(ini:Option J):Bool:=(K.lookup C).any λo=>o.cls == .type "type" && (Wx o.data).any (HR K fn C bm ini o.slots)
def any_some{o:Option α}{f:α->Bool}(h:o.any f=O):∃a,o=Z a/\f a=true:=by
 cases o with
 |none=>cases h
 |some a=>exact(a,U,h)
def six{l:List α}(h:l.length=6):∃a b c d e f,l=[a,b,c,d,e,f]:=by
 cases l with
 |nil=>cases h
 |cons a l=>cases l with
  |nil=>cases h
  |cons b l=>cases l with
   |nil=>cases h
   |cons c l=>cases l with
    |nil=>cases h
    |cons d l=>cases l with
     |nil=>cases h
     |cons e l=>cases l with
      |nil=>cases h
      |cons f l=>exact(a,b,c,d,e,f,by rw[vq.mp (show l.length=0 by simpa using h)])
variable{mg:Υ}
theorem CS{K:BT}{h:Do}{N:J}{n:Str}{v:B}(X:K.In h)(G:h.Ns N mg)(e:W.nsIn K N n=Z (Z v)):mg n=Z v:=by
 let(o,es,ep,ho,hd,_,hf):=G;unfold W.nsIn at e;split at e
 ·rename_i c d g z sl q;have:=X _ _ q;rw[ho]at this;cases this;cases hd;split at e
  ·rename_i P he;cases e;rw[<- hf];unfold nsFind findBy;rw[<- Z1,he];rfl
  split at e <;> cases e
 cases e
variable{C:J}
theorem DO{K:BT}{fn:Γ}{bm:Δ}{ini:Option J}(q:xy K fn C bm ini=O):Up K fn C bm ini:=by unfold xy at q;let((cl,dd,da,sl),ho,q):=any_some q;rw[uj]at q;let(q0,q):=q;let(cd,z,q):=any_some q;have e0:cl=.type "type":=eq_of_beq q0;have e1:da=.cls cd:=Hr z;subst e0 e1;unfold HR at q;simp only[uj,beq_iff_eq,Bool.not_eq_true']at q;let((((((((hm,h6),h4),Q),V),ht),hok),P),g):=q;let(nm,bs,mro,ns,qn,hd,sn,sub,ab,col,del):=cd;dsimp only at hm Q hok g V P;subst hm Q V;let⟨l⟩:=sl;let(k0,k1,k2,k3,k4,k5,U):=six (l:=l) h6;obtain rfl:k4=Z (.builtin "ValueError.__new__"):=Option.some.inj h4;refine(λh X=>?_,(_,by unfold W.clsIn;rw[ho],U),by show(K.lookup _).map (·.cls)=_;rw[ho];rfl);refine(nm,qn,ns,bs,sn,sub,ab,col,dd,k0,k1,k2,k3,k5,_,X _ _ ho,.of_isNs (W.isNs_of_in X hok),λn hn=>W.nsMap_none_of_in X hok (PX.mp P n hn:),?_,zP X ht);cases ini with|none=>exact W.nsMap_none_of_in X hok g|some f=>exact CS X (.of_isNs (W.isNs_of_in X hok)) g
def XAt(a C:J)(dx:Option J)(b:Bool)(h:Do):Prop:=∃y,Uy h a (.ref C) dx y/\(b=O->y=.none)
def XD(dx:J)(fs:List (Str×V))(h:Do):Prop:=∃mA,h.Ns1 dx mA/\(∀f,ku (fs.lookup f) (mA f))/\PySem.Within mA (fs.map (·.1))
def ExH(H:Hp)(a C:J)(b:Bool)(fs:List (Str×V)):Prop:=(fs=[]/\H a=Z (.ext (XAt a C Y b)))\/∃dx,dx≠a/\H a=Z (.ext (XAt a C (Z dx) b))/\H dx=Z (.ext (XD dx fs))
section
variable{P:Da}{w:Cl}{H:Hp}{h:Do}{d:J}{fs:List (Str×V)}
def XD.ok(x:XD d fs h):di P w H h d (.ext (XD d fs)):=by refine(x,?_,λh1 h2 (mA,(o,es,ep,e,r),z) k=>(mA,(o,es,ep,k o e,r),z));let(mA,(o,es,ep,e,r),z):=x;exact(o,e)
end
end L2
namespace L2
open PySem PySem.Spec PyProof.Rows
def len0{P:Δ->Prop}(h:P [])(us:Δ)(e:us.length=0):P us:=by rw[vq.mp e];exact h
def VS{P:Δ->Prop}(h:∀a,P [a])(us:Δ)(e:us.length=1):P us:=by
 cases us with
 |nil=>cases e
 |cons a r=>exact len0 (P:=λr=>P (a::r)) (h a) r (Nat.succ.inj e)
def VR{P:Δ->Prop}(h:∀a b,P [a,b])(us:Δ)(e:us.length=2):P us:=by
 cases us with
 |nil=>cases e
 |cons a r=>exact VS (P:=λr=>P (a::r)) (h a) r (Nat.succ.inj e)
def VQ{P:Δ->Prop}(h:∀a b c,P [a,b,c])(us:Δ)(e:us.length=3):P us:=by
 cases us with
 |nil=>cases e
 |cons a r=>exact VR (P:=λr=>P (a::r)) (h a) r (Nat.succ.inj e)
def VP{P:Δ->Prop}(h:∀a b c d,P [a,b,c,d])(us:Δ)(e:us.length=4):P us:=by
 cases us with
 |nil=>cases e
 |cons a r=>exact VQ (P:=λr=>P (a::r)) (h a) r (Nat.succ.inj e)
def VO{P:Δ->Prop}(h:∀a b c d e,P [a,b,c,d,e])(us:Δ)(e:us.length=5):P us:=by
 cases us with
 |nil=>cases e
 |cons a r=>exact VP (P:=λr=>P (a::r)) (h a) r (Nat.succ.inj e)
set_option genInjectivity true in
inductive T where
 |n|b (x:Bool)|i (x:Int)|s (x:Str)|t (xs:List T)|l (xs:List T)|d (ks:List (Key×T))|cz|z (ns:Ψ)|ty (x:String)|k (ws:Γ)|q|fd (o:Obj) (vs:ϐ) (ks:List (Key×T))|xc (C:J) (ns:Γ) (ts:List T)|rm (u:Int)|ob (C:J) (ns:Γ) (ts:List T)|dp (a:J) (ks:List (Key×T))|lp (a:J) (xs:List T)|zl (xs:List T)|rf (a:J)|om (a C:J) (ns:Γ) (ts:List T)|fz (u:HO)
abbrev ϓ:=List T
abbrev ϔ:=List (Key×T)
abbrev ϕ:=L2.T->Prop
abbrev Dl:=List (J×J)
def FzL(K:BT)(H:Hp)(a:J)(xs:Ω):Prop:=(∃o,H a=Z (.frz o (.lst xs))) \/
  ∃(o:Obj)(its:Array B)(n:Nat),K.lookup a=Z o/\o.cls=.type "list" /\ o.dict=Y/\o.data=.seq its n/\its.size<=mu/\Vals xs its.toList
variable{H:Hp}{a:J}
theorem FzL.sq{K:BT}(h:FzL K H a xs):SqL K H a xs:=by
 obtain h|h:=h
 ·exact .inl (.inr h)
 exact .inr h
def zo(a C dx:J)(h:Do):Prop:=h.get? a=Z (W.instObj C dx)
inductive ObH(H:Hp)(a C:J)(fs:List (Str×V)):Prop
 |mk(dx:_)(h1:dx≠a)(h2:H a=Z (.ext (zo a C dx)))(h3:H dx=Z (.ext (XD dx fs)))
mutual
inductive aM(K:BT)(dl:Dl)(H:Hp):V->T->Θ->Prop where
 |n:aM K dl H .non .n []|b(x:Bool):aM K dl H (.bl x) (.b x) []|i(x:Int):aM K dl H (.int x) (.i x) []|s(x:Str):aM K dl H (.str x) (.s x) []|ty(x:String):aM K dl H (.ty x) (.ty x) []|t{a:J}{vs:Ω}{ts:ϓ}{F:Θ}:H a=Z (.tup vs)->aC K dl H vs ts F->aM K dl H (.ref a) (.t ts) F|l{a:J}{vs:Ω}{ts:ϓ}{F:Θ}:H a=Z (.lst vs)->aC K dl H vs ts F->aM K dl H (.ref a) (.l ts) (a::F)|d{a:J}{vs:ϐ}{ts:ϔ}{F:Θ}:H a=Z (.dK vs)->a9 K dl H vs ts F->aM K dl H (.ref a) (.d ts) (a::F)|x{a l:J}:(a,l)∈dl->aM K dl H (.ref a) .cz []|z{a:J}{ns:Ψ}:FzL K H a (ns.map V.int)->aM K dl H (.ref a) (.z ns) []|q{a:J}{xs:Ω}:H a=Z (.lst xs)->aM K dl H (.ref a) .q []|fd{a:J}{o:Obj}{vs:ϐ}{ts:ϔ}:H a=Z (.frz o (.dK vs))->a9 K dl H vs ts []->aM K dl H (.ref a) (.fd o vs ts) []|k{a:J}{ws:Γ}:(∀H':Hp,SqT K H' a (ws.map V.str))->aM K dl H (.ref a) (.k ws) []|e{a C:J}{b:Bool}{ns:Γ}{vs:Ω}{ts:ϓ}:ExH H a C b (ns.zip vs)->aC K dl H vs ts []->aM K dl H (.ref a) (.xc C ns ts) []|rm{a:J}{x u:Int}:H a=Z (.room x)->x<=u->aM K dl H (.ref a) (.rm u) []|ob{a C:J}{ns:Γ}{vs:Ω}{ts:ϓ}:ObH H a C (ns.zip vs)->aC K dl H vs ts []->aM K dl H (.ref a) (.ob C ns ts) []|dp{a:J}{vs:ϐ}{ts:ϔ}{F:Θ}:H a=Z (.dK vs)->a9 K dl H vs ts F->aM K dl H (.ref a) (.dp a ts) (a::F)|lp{a:J}{vs:Ω}{ts:ϓ}{F:Θ}:H a=Z (.lst vs)->aC K dl H vs ts F->aM K dl H (.ref a) (.lp a ts) (a::F)|zl{a:J}{o:Obj}{vs:Ω}{ts:ϓ}:H a=Z (.frz o (.lst vs))->aC K dl H vs ts []->aM K dl H (.ref a) (.zl ts) []|rf(a:J):aM K dl H (.ref a) (.rf a) []|om{a C dx:J}{ns:Γ}{vs:Ω}{ts:ϓ}{F:Θ}:H a=Z (.ins C dx (ns.zip vs))->H dx=Z (.own a)->ns.length=ts.length->aC K dl H vs ts F->aM K dl H (.ref a) (.om a C ns ts) (a::dx::F)|fz{a:J}{o:Obj}{u:HO}:H a=Z (.frz o u)->aM K dl H (.ref a) (.fz u) []
inductive aC(K:BT)(dl:Dl)(H:Hp):Ω->ϓ->Θ->Prop where
 |nil:aC K dl H [] [] []|cons{v:V}{x:T}{vs:Ω}{ts:ϓ}{F G:Θ}:aM K dl H v x F->aC K dl H vs ts G->aC K dl H (v::vs) (x::ts) (F++G)
inductive a9(K:BT)(dl:Dl)(H:Hp):ϐ->ϔ->Θ->Prop where
 |nil:a9 K dl H [] [] []|cons{k:Key}{v:V}{x:T}{vs:ϐ}{ts:ϔ}{F G:Θ}:aM K dl H v x F->a9 K dl H vs ts G->a9 K dl H ((k,v)::vs) ((k,x)::ts) (F++G)
end
def HO.mt:HO->Bool
 |.lst _=>O|.dK _=>O|.ins _ _ _=>O|.own _=>O|_=>ϊ
inductive gY(H:Hp)(b:J):Prop
 |mk(o:_)(h1:H b=Z o)(h2:o.mt=O)
def gY.no(h:gY H b)(e:H b=Y):False:=by let(_,h,_):=h;rw[e]at h;cases h
structure TF(H H':Hp):Prop where
 t:∀a vs,H a=Z (.tup vs)->H' a=Z (.tup vs)
 f:∀a o u,H a=Z (.frz o u)->H' a=Z (.frz o u)
 x:∀a φ,H a=Z (.ext φ)->H' a=Z (.ext φ)
 q:∀a xs,H a=Z (.lst xs)->∃ys,H' a=Z (.lst ys)
 r:∀a x,H a=Z (.room x)->∃y,y<=x/\H' a=Z (.room y)
variable{H':Hp}{C:J}
def ObH.tf(h:ObH H a C fs)(k:TF H H'):ObH H' a C fs:=by let(d,h1,h2,h3):=h;exact(d,h1,k.x _ _ h2,k.x _ _ h3)
def ExH.tf(h:ExH H a C b fs)(k:TF H H'):ExH H' a C b fs:=by
 obtain⟨h1,h2⟩|⟨d,h1,h2,h3⟩:=h
 ·exact .inl (h1,k.x _ _ h2)
 exact .inr (d,h1,k.x _ _ h2,k.x _ _ h3)
theorem FzL.tf{K:BT}(h:FzL K H a vs)(k:TF H H'):FzL K H' a vs:=by
 obtain⟨o,h⟩|h:=h
 ·exact .inl (o,k.f _ _ _ h)
 exact .inr h
def cc{α:Type}{p:α->Prop}:∀b∈([]:List α),p b:=λ_ h=>absurd h v5
variable{dl:Dl}{dl':Dl}
theorem aM.d5{K:BT}(k:TF H H')(hd:∀p∈dl,p∈dl'){t:T}(h:aM K dl H v t F):(∀b∈F,∀o,H b=Z o->H' b=Z o)->aM K dl' H' v t F:=
 aM.rec (motive_2:=λv t F _=>(∀b∈F,∀o,H b=Z o->H' b=Z o)->aC K dl' H' v t F) (motive_3:=λv t F _=>(∀b∈F,∀o,H b=Z o->H' b=Z o)->a9 K dl' H' v t F)
  (λ_=>.n) (λx _=>.b x) (λx _=>.i x) (λx _=>.s x) (λx _=>.ty x) (λh _ g q=>.t (k.t _ _ h) (g q))
  (λh _ g q=>.l (q _ j0 _ h) (g λb P=>q b (j5 _ P))) (λh _ g q=>.d (q _ j0 _ h) (g λb P=>q b (j5 _ P)))
  (λh _=>.x (hd _ h)) (λh _=>.z (h.tf k)) (λh _=>Exists.elim (k.q _ _ h) λ_ e=>.q e) (λh _ g _=>.fd (k.f _ _ _ h) (g cc)) (λh _=>.k h) (λh _ g _=>.e (h.tf k) (g cc))
  (λh hx _=>Exists.elim (k.r _ _ h) λ_ e=>.rm e.2 (Y7 e.1 hx)) (λh _ g _=>.ob (h.tf k) (g cc)) (λh _ g q=>.dp (q _ j0 _ h) (g λb P=>q b (j5 _ P))) (λh _ g q=>.lp (q _ j0 _ h) (g λb P=>q b (j5 _ P))) (λh _ g _=>.zl (k.f _ _ _ h) (g cc)) (λa _=>.rf a) (λh1 h2 h3 _ g q=>.om (q _ j0 _ h1) (q _ (j5 _ j0) _ h2) h3 (g λb P=>q b (j5 _ (j5 _ P)))) (λh _=>.fz (k.f _ _ _ h))
  (λ_=>.nil) (λ_ _ i1 i2 q=>.cons (i1 λb P=>q b (qh _ P)) (i2 λb P=>q b (pq _ P)))
  (λ_=>.nil) (λ_ _ i1 i2 q=>.cons (i1 λb P=>q b (qh _ P)) (i2 λb P=>q b (pq _ P))) h
@[elab_as_elim]
theorem aC.ind{K:BT}{M:Ω->ϓ->Θ->Prop}(nil:M [] [] [])(cons:∀v x vs ts F G,aM K dl H v x F->aC K dl H vs ts G->M vs ts G->M (v::vs) (x::ts) (F++G)){vs:Ω}{ts:ϓ}{F:Θ}(h:aC K dl H vs ts F):M vs ts F:=
 aC.rec (motive_1:=λ_ _ _ _=>True) (motive_3:=λ_ _ _ _=>True) trivial (λ_=>trivial) (λ_=>trivial) (λ_=>trivial) (λ_=>trivial) (λ_ _ _=>trivial) (λ_ _ _=>trivial) (λ_ _ _=>trivial)
  (λ_=>trivial) (λ_=>trivial) (λ_=>trivial) (λ_ _ _=>trivial) (λ_=>trivial) (λ_ _ _=>trivial) (λ_ _=>trivial) (λ_ _ _=>trivial) (λ_ _ _=>trivial) (λ_ _ _=>trivial) (λ_ _ _=>trivial) (λ_=>trivial) (λ_ _ _ _ _=>trivial) (λ_=>trivial) nil (λh r _ g=>cons _ _ _ _ _ _ h r g) trivial (λ_ _ _ _=>trivial) h
@[elab_as_elim]
theorem a9.ind{K:BT}{M:ϐ->ϔ->Θ->Prop}(nil:M [] [] [])(cons:∀k v x vs ts F G,aM K dl H v x F->a9 K dl H vs ts G->M vs ts G->M ((k,v)::vs) ((k,x)::ts) (F++G)){vs:ϐ}{ts:ϔ}{F:Θ}(h:a9 K dl H vs ts F):M vs ts F:=
 a9.rec (motive_1:=λ_ _ _ _=>True) (motive_2:=λ_ _ _ _=>True) trivial (λ_=>trivial) (λ_=>trivial) (λ_=>trivial) (λ_=>trivial) (λ_ _ _=>trivial) (λ_ _ _=>trivial) (λ_ _ _=>trivial)
  (λ_=>trivial) (λ_=>trivial) (λ_=>trivial) (λ_ _ _=>trivial) (λ_=>trivial) (λ_ _ _=>trivial) (λ_ _=>trivial) (λ_ _ _=>trivial) (λ_ _ _=>trivial) (λ_ _ _=>trivial) (λ_ _ _=>trivial) (λ_=>trivial) (λ_ _ _ _ _=>trivial) (λ_=>trivial) trivial (λ_ _ _ _=>trivial) nil (λh r _ g=>cons _ _ _ _ _ _ _ h r g) h
theorem aC.d5{K:BT}(k:TF H H')(hd:∀p∈dl,p∈dl')(h:aC K dl H vs ts F):(∀b∈F,∀o,H b=Z o->H' b=Z o)->aC K dl' H' vs ts F:=
 h.ind (λ_=>.nil) (λ_ _ _ _ _ _ h _ z q=>.cons (h.d5 k hd λb g=>q b (qh _ g)) (z λb g=>q b (pq _ g)))
theorem a9.d5{K:BT}(k:TF H H')(hd:∀p∈dl,p∈dl')(h:a9 K dl H vs ts F):(∀b∈F,∀o,H b=Z o->H' b=Z o)->a9 K dl' H' vs ts F:=
 h.ind (λ_=>.nil) (λ_ _ _ _ _ _ _ h _ z q=>.cons (h.d5 k hd λb g=>q b (qh _ g)) (z λb g=>q b (pq _ g)))
variable{G:Θ}
def oQ(h:∀b∈F,gY H b)(r:∀b∈G,gY H b):∀b∈F++G,gY H b:=λb g=>(jn.mp g).elim (h b) (r b)
theorem aM.there{K:BT}{t:T}(h:aM K dl H v t F):∀b∈F,gY H b:=
 aM.rec
  cc (λ_=>cc) (λ_=>cc) (λ_=>cc) (λ_=>cc) (λ_ _ g=>g)
  (λh _ g b q=>(kC.mp q).elim (λe=>by rw[e];exact(_,h,U)) (g b)) (λh _ g b q=>(kC.mp q).elim (λe=>by rw[e];exact(_,h,U)) (g b))
  (λ_=>cc) (λ_=>cc) (λ_=>cc) (λ_ _ _=>cc) (λ_=>cc) (λ_ _ _=>cc)
  (λ_ _=>cc) (λ_ _ _=>cc) (λh _ g b q=>(kC.mp q).elim (λe=>by rw[e];exact(_,h,U)) (g b)) (λh _ g b q=>(kC.mp q).elim (λe=>by rw[e];exact(_,h,U)) (g b)) (λ_ _ _=>cc) (λ_=>cc) (λh1 h2 _ _ g b q=>(kC.mp q).elim (λe=>by rw[e];exact(_,h1,U)) λq=>(kC.mp q).elim (λe=>by rw[e];exact(_,h2,U)) (g b)) (λ_=>cc)
  cc (λ_ _ i1 i2=>oQ i1 i2) cc (λ_ _ i1 i2=>oQ i1 i2) h
theorem aC.there{K:BT}(h:aC K dl H vs ts F):∀b∈F,gY H b:=h.ind cc (λ_ _ _ _ _ _ h _ g=>oQ h.there g)
def Nd(dl:Dl)(b:J):Prop:=∀p∈dl,b≠p.1/\b≠p.2
def Dls(dl:Dl)(H:Hp):Prop:=∀p∈dl,oC H p.1 p.2
def Dls.nd(D:Dls dl H)(h:H b=Z o)(h1:∀xs,o ≠ .lst xs)(h2:∀ks,o ≠ .dK ks):Nd dl b:=λp hp=>by
 let(s,n,ls,Q):=D p hp;exact(j7 h Q.hd (h2 _),j7 h Q.hl (h1 _))
def Dls.nd0(D:Dls dl H)(h:H b=Y):Nd dl b:=λp hp=>by
 let(s,n,ls,Q):=D p hp;exact((bj Q.hd h).symm,(bj Q.hl h).symm)
def NR(o:HO):Prop:=∀x,o ≠ .room x
structure Evo(dl:Dl)(H H':Hp):Prop where
 k:∀b o,H b=Z o->Nd dl b->NR o->H' b=Z o
 d:Dls dl H'
 r:∀a x,H a=Z (.room x)->∃y,y<=x/\H' a=Z (.room y)
def NR.of(h:gY H b)(e:H b=Z o):NR o:=λx z=>by
 let(_,h,m):=h;rw[e,z]at h;cases h;cases m
def Evo.refl(D:Dls dl H):Evo dl H H:=(λ_ _ h _ _=>h,D,λ_ x h=>(x,DG _,h))
variable{H1:Hp}{H2:Hp}
def Evo.trans(a:Evo dl H H1)(b:Evo dl H1 H2):Evo dl H H2:=(λc o h n r=>b.k c o (a.k c o h n r) n r,b.d,λc x h=>let(y,q,e):=a.r c x h;let(z,g,K):=b.r c y e;(z,Y7 g q,K))
def Evo.tf(e:Evo dl H H')(D:Dls dl H):TF H H':=
 (λa vs h=>e.k a _ h (D.nd h nofun nofun) nofun,λa o u h=>e.k a _ h (D.nd h nofun nofun) nofun,λa φ h=>e.k a _ h (D.nd h nofun nofun) nofun,λa xs h=>(by
  by_cases hn:Nd dl a
  ·exact(xs,e.k a _ h hn nofun)
  obtain⟨p,hp,z⟩:∃p∈dl,¬(a≠p.1/\a≠p.2):=Classical.byContradiction λc=>hn λp hp=>Classical.byContradiction λz=>c (p,hp,z);let(s,n,ls,Q):=D p hp;let(s',q,ls',Q'):=e.d p hp;have h1:=j7 h Q.hd (λz=>nomatch z);have h2:=Classical.byContradiction λg=>z (h1,g);exact(_,by rw[h2];exact Q'.hl)),e.r)
theorem Evo.new(e:Evo dl H H1)(hp:H1 p=Y):Evo dl H (upd H1 p o):=
 (λc u h n r=>by rw[au (bj (e.k c u h n r) hp)];exact e.k c u h n r,λq hq=>(e.d q hq).new hp,λc x h=>let(y,z,g):=e.r c x h;(y,z,by rw[au (bj g hp)];exact g))
def Evo.free(e:Evo dl H H')(hp:H' p=Y):H p=none:=by
 cases q:H p with
 |none=>rfl|some o =>
  by_cases hn:NR o
  ·rw[e.k p o q (e.d.nd0 hp) hn]at hp;cases hp
  obtain⟨x,hx⟩:∃x,o=.room x:=Classical.byContradiction λc=>hn λx z=>c (x,z);subst hx;let(y,_,g):=e.r p x q;rw[g]at hp;cases hp
structure Rp(K:BT)(dl:Dl)(H:Hp)(v:V)(t:T)(F:Θ):Prop where
 r:aM K dl H v t F
 n:∀b∈F,Nd dl b
structure Rps(K:BT)(dl:Dl)(H:Hp)(vs:Ω)(ts:ϓ)(F:Θ):Prop where
 r:aC K dl H vs ts F
 n:∀b∈F,Nd dl b
theorem Rp.evo{K:BT}(h:Rp K dl H v t F)(D:Dls dl H)(e:Evo dl H H'):Rp K dl H' v t F:=
 (h.r.d5 (e.tf D) (λ_ q=>q) λb g o q=>e.k b o q (h.n b g) (.of (h.r.there b g) q),h.n)
theorem Rps.evo{K:BT}(h:Rps K dl H v t F)(D:Dls dl H)(e:Evo dl H H'):Rps K dl H' v t F:=
 (h.r.d5 (e.tf D) (λ_ q=>q) λb g o q=>e.k b o q (h.n b g) (.of (h.r.there b g) q),h.n)
inductive Sl where
 |no|o (t:T)|r (t:T)
abbrev Sq:=List Sl
def Sl.get:Sl->Option T
 |.no=>Y|.o t=>Z t|.r t=>Z t
structure RdR(K:BT)(dl:Dl)(H:Hp)(σ:St)(q:Sq):Prop where
 d:Dls dl H
 g:∀(i:Nat)(x:Sl)(t:T),q[i]?=Z x->x.get=Z t->∃v F,σ[i]?=Z (Z v)/\Rp K dl H v t F
theorem RdR.evo{K:BT}(h:RdR K dl H σ q)(e:Evo dl H H'):RdR K dl H' σ q:=
 (e.d,λi x t h1 h2=>let(v,F,h3,h4):=h.g i x t h1 h2;(v,F,h3,h4.evo h.d e))
abbrev QE:=Sq->(T->Prop)->Prop
abbrev QT:=Sq->(Bool->Prop)->Prop
abbrev QA:=Sq->(ϓ->Prop)->Prop
def jE(K:BT)(te:TE)(tq:QE):Prop:=∀(dl:Dl)(H:Hp)(σ:St)(q:Sq)(Q:T->Prop)(R:V->Hp->Prop),RdR K dl H σ q->tq q Q ->
 (∀v t F H',Evo dl H H'->Rp K dl H' v t F->Q t->R v H')->te σ H R
def lr(K:BT)(te:TE)(tq:QE):Prop:=∀(dl:Dl)(H:Hp)(σ:St)(q:Sq)(Q:T->Prop)(R:V->Hp->Prop),RdR K dl H σ q->tq q Q ->
 (∀v t F H',Evo dl H H'->Rp K dl H' v t F->(∀b∈F,H b=Y)->F.Nodup->Q t->R v H')->te σ H R
def mF(K:BT)(te:TT)(tq:QT):Prop:=∀(dl:Dl)(H:Hp)(σ:St)(q:Sq)(Q:Bool->Prop)(R:Bool->Hp->Prop),RdR K dl H σ q->tq q Q ->
 (∀b H',Evo dl H H'->Q b->R b H')->te σ H R
def PR(K:BT)(n:Nat)(te:TA)(tq:QA):Prop:=∀(dl:Dl)(H:Hp)(σ:St)(q:Sq)(Q:ϓ->Prop)(R:Ω->Hp->Prop),RdR K dl H σ q->tq q Q ->
 (∀vs ts F H',Evo dl H H'->Rps K dl H' vs ts F->vs.length=n->Q ts->R vs H')->te σ H R
def WN(K:BT)(n:Nat)(te:TA)(tq:QA):Prop:=∀(dl:Dl)(H:Hp)(σ:St)(q:Sq)(Q:ϓ->Prop)(R:Ω->Hp->Prop),RdR K dl H σ q->tq q Q ->
 (∀vs ts F H',Evo dl H H'->Rps K dl H' vs ts F->vs.length=n->(∀b∈F,H b=Y)->F.Nodup->Q ts->R vs H')->te σ H R
structure QPE(X:Cx)(K:BT)(e:Ev)(te:TE)(tq:QE):Prop where
 h:PE X e te
 s:jE K te tq
structure QPF(X:Cx)(K:BT)(e:Ev)(te:TE)(tq:QE):Prop where
 h:PE X e te
 s:lr K te tq
structure QPT(X:Cx)(K:BT)(e:Ev)(te:TT)(tq:QT):Prop where
 h:PT X e te
 s:mF K te tq
structure QPW(X:Cx)(K:BT)(e:Ev)(te:TT)(tq:QT):Prop where
 h:PW X e te
 s:mF K te tq
structure QPA(X:Cx)(K:BT)(es:List Ev)(te:TA)(tq:QA):Prop where
 h:PA X es te
 s:PR K es.length te tq
structure zm(X:Cx)(K:BT)(es:List Ev)(te:TA)(tq:QA):Prop where
 h:PA X es te
 s:WN K es.length te tq
variable{x:Str}{ws:Γ}
section
variable{X:Cx}{K:BT}{a b e:Ev}{ta tb te:TE}{qa qb qe:QE}{pos:Pos}
def ZB(h:QPF X K e te qe):QPE X K e te qe:=(h.h,λdl H σ q Q R rd hq k=>h.s dl H σ q Q R rd hq λv t F H' e r _ _ z=>k v t F H' e r z)
mutual
def T.im:T->Bool
 |.t xs=>T.ims xs|.l _=>ϊ|.d _=>ϊ|.dp _ _=>ϊ|.lp _ _=>ϊ|.om _ _ _ _=>ϊ|_=>O
def T.ims:ϓ->Bool
 |[]=>O|x::r=>x.im&&T.ims r
end
def uH{x y:Bool}(h:x=O->F=[])(r:y=O->G=[])(q:(x&&y)=O):F++G=[]:=by rw[h (uj _ _▸q).1,r (uj _ _▸q).2];rfl
theorem aM.im{t:T}(h:aM K dl H v t F):t.im=O->F=[]:=
 aM.rec (motive_3:=λ_ _ _ _=>True)
  (λ_=>rfl) (λ_ _=>rfl) (λ_ _=>rfl) (λ_ _=>rfl) (λ_ _=>rfl) (λ_ _ g=>g) (λ_ _ _ h=>absurd h rF) (λ_ _ _ h=>absurd h rF)
  (λ_ _=>rfl) (λ_ _=>rfl) (λ_ _=>rfl) (λ_ _ _ _=>rfl) (λ_ _=>rfl) (λ_ _ _ _=>rfl) (λ_ _ _=>rfl) (λ_ _ _ _=>rfl) (λ_ _ _ h=>absurd h rF) (λ_ _ _ h=>absurd h rF) (λ_ _ _ _=>rfl) (λ_ _=>rfl) (λ_ _ _ _ _ h=>absurd h rF) (λ_ _=>rfl) (λ_=>rfl) (λ_ _ i1 i2=>uH i1 i2) trivial (λ_ _ _ _=>trivial) h
theorem aC.im(h:aC K dl H v t F):T.ims t=O->F=[]:=h.ind (λ_=>rfl) (λ_ _ _ _ _ _ h _ g=>uH h.im g)
inductive Ex2{α:Type}(p:α->Prop)(Q:α->Prop):Prop
 |mk(x:α)(h:p x)(k:Q x)
inductive Ex3{α β:Type}(p:α->Prop)(g:α->β)(Q:β->Prop):Prop
 |mk(x:α)(h:p x)(k:Q (g x))
inductive Ex4{α β:Type}(p r:α->Prop)(g:α->β)(Q:β->Prop):Prop
 |mk(x:α)(h:p x)(h2:r x)(k:Q (g x))
def on1(ts:ϓ)(P:T->Prop):Prop:=match ts with|[t]=>P t|_=>False
def on1.inv(h:on1 ts P):∃t,ts=[t]/\P t:=by cases ts with|nil=>exact h.elim|cons t r=>cases r with|nil=>exact(t,U,h)|cons=>exact h.elim
def on2(ts:ϓ)(P:T->T->Prop):Prop:=match ts with|[t,u]=>P t u|_=>False
def on2.inv(h:on2 ts P):∃t u,ts=[t,u]/\P t u:=by cases ts with|nil=>exact h.elim|cons t r=>cases r with|nil=>exact h.elim|cons u r=>cases r with|nil=>exact(t,u,U,h)|cons=>exact h.elim
def qIm(qe:QE):QE:=λq Q=>qe q λt=>t.im=O/\Q t
theorem XL(h:QPE X K e te qe):QPF X K e te (qIm qe):=(h.h,λdl H σ q Q R rd hq k=>h.s dl H σ q _ R rd hq λv t F H' e r (P,g)=>by have f:=r.r.im P;subst f;exact k v t [] H' e r cc lu g)
def aG(i:Nat):QE:=λq Q=>match q[i]? with|some (.o t)=>Q t|some (.r t)=>Q t|_=>False
def M4(i:Nat):jE K (cp i) (aG i):=by
 intro dl H σ q Q R rd hq k;unfold aG at hq;split at hq
 ·rename_i t e;let(v,F,h1,h2):=rd.g i _ t e U;exact(v,h1,k v t F H (.refl rd.d) h2 hq)
 ·rename_i t e;let(v,F,h1,h2):=rd.g i _ t e U;exact(v,h1,k v t F H (.refl rd.d) h2 hq)
 exact hq.elim
def qv(i:Nat)(q:‹X.N[i]?=Z x›)(hv:Vis X.env.scope x:=by first|exact Or.inl rfl|exact Or.inr (Or.inl U)|exact Or.inr (Or.inr U))(hd:autoParam (AS x) zdc._auto_1)
  (g:autoParam ((x ==("__classdict__":Str))=false) zdc._auto_1):QPE X K (.Name x pos) (cp i) (aG i):=(Ke q hv hd g,M4 i)
def qC(t:T):QE:=λ_ Q=>Q t
def zR(h:∀dl H,aM K dl H v t []):lr K (tC v) (qC t):=λdl H σ q Q R rd hq k=>k v t [] H (.refl rd.d) (h dl H,cc) cc lu hq
def bw:QPF X K (.Constant (.int i) j pos) (tC (.int i)) (qC (.i i)):=(bX,zR λ_ _=>.i i)
def qm{b j pos}:QPF X K (.Constant (.bool b) j pos) (tC (.bl b)) (qC (.b b)):=(VF,zR λ_ _=>.b b)
def cu:QPF X K (.Constant .none j pos) (tC .non) (qC .n):=(SH,zR λ_ _=>.n)
def aK:QPF X K (.Constant (.str x) j pos) (tC (.str x)) (qC (.s x)):=(dO,zR λ_ _=>.s x)
theorem lY:∀(ws:Γ),aC K dl H (ws.map V.str) (ws.map T.s) []
 |[]=>.nil|w::r=>.cons (.s w) (lY r)
theorem lZ:∀(ws:Ψ),aC K dl H (ws.map V.int) (ws.map T.i) []
 |[]=>.nil|w::r=>.cons (.i w) (lZ r)
def JC{y:J}{pos:Pos}(hg:Gl X x)(hm:X.mg x=Z (.ref y))(hk:∀H,SqT K H y (ws.map V.str))(hd:autoParam (AS x) zdc._auto_1):QPF X K (.Name x pos) (tC (.ref y)) (qC (.k ws)):=
 (Ki hg hm hd,zR λdl H=>.k hk)
abbrev Q2:=T->T->(T->Prop)->Prop
def HE(K:BT)(r:R2)(rq:Q2):Prop:=∀(dl:Dl)(H:Hp)(x y:V)(t u:T)(F G:Θ)(Q:T->Prop)(R:V->Hp->Prop),Dls dl H->Rp K dl H x t F->Rp K dl H y u G->rq t u Q ->
 (∀v z F' H',Evo dl H H'->Rp K dl H' v z F'->Q z->R v H')->r x y H R
def dD(K:BT)(r:R2)(rq:Q2):Prop:=∀(dl:Dl)(H:Hp)(x y:V)(t u:T)(F G:Θ)(Q:T->Prop)(R:V->Hp->Prop),Dls dl H->Rp K dl H x t F->Rp K dl H y u G->rq t u Q ->
 (∀v z F' H',Evo dl H H'->Rp K dl H' v z F'->(∀b∈F',H b=Y)->F'.Nodup->Q z->R v H')->r x y H R
variable{rq:Q2}
def dD.w(h:dD K r rq):HE K r rq:=λdl H x y t u F G Q R d a b hq k=>h dl H x y t u F G Q R d a b hq λv z F' H' e r _ _ g=>k v z F' H' e r g
def qOp(rq:Q2)(qa qb:QE):QE:=λq Q=>qa q λt=>qb q λu=>rq t u Q
def tj(ho:HE K r rq)(ha:jE K ta qa)(hb:jE K tb qb):jE K (tOp r ta tb) (qOp rq qa qb):=by intro dl H σ q Q R rd hq k;exact ha dl H σ q _ _ rd hq λv t F H1 e1 r1 P=>(hb dl H1 σ q _ _ (rd.evo e1) P λw u G H2 V r2 g=>(ho dl H2 v w t u F G Q R V.d (r1.evo e1.d V) r2 g λv' z F' H3 e3 r3 hz=>k v' z F' H3 ((e1.trans V).trans e3) r3 hz))
def Ea{r:R2}(ho:dD K r rq)(ha:jE K ta qa)(hb:jE K tb qb):lr K (tOp r ta tb) (qOp rq qa qb):=by intro dl H σ q Q R rd hq k;exact ha dl H σ q _ _ rd hq λv t F H1 P r1 ak=>(hb dl H1 σ q _ _ (rd.evo P) ak λw u G H2 g r2 V=>(ho dl H2 v w t u F G Q R g.d (r1.evo P.d g) r2 V λv' z F' H3 e3 r3 f3 n3 hz=>k v' z F' H3 ((P.trans g).trans e3) r3 (λb hb=>(P.trans g).free (f3 b hb)) n3 hz))
def l7(ho:OpR X (binaryOp op) r)(hs:dD K r rq)(q:QPE X K a ta qa)(g:QPE X K b tb qb):QPF X K (.BinOp a op b pos) (tOp r ta tb) (qOp rq qa qb):=(cW ho q.h g.h,Ea hs q.s g.s)
end
end L2
namespace L2
open PySem PySem.Spec PyProof.Rows
variable{x:Str}{C:J}{a:J}{ns:Ψ}{ws:Γ}{G:Θ}
section
variable{X:Cx}{K:BT}{dl:Dl}{H:Hp}{v:V}{F:Θ}
def Yc(K:BT)(dl:Dl)(H:Hp)(v:V)(F:Θ):T->Prop
 |.n=>v=.non/\F=[]|.b x=>v=.bl x/\F=[]|.i x=>v=.int x/\F=[]|.s x=>v=.str x/\F=[]|.ty x=>v=.ty x|.t ts=>∃a vs,v=.ref a/\H a=Z (.tup vs)/\aC K dl H vs ts F|.l ts=>∃a vs G,v=.ref a/\F=a::G/\H a=Z (.lst vs)/\aC K dl H vs ts G|.d ts=>∃a vs G,v=.ref a/\F=a::G/\H a=Z (.dK vs)/\a9 K dl H vs ts G|.cz=>∃a l,v=.ref a/\(a,l)∈dl/\F=[]|.z ns=>∃a,v=.ref a/\FzL K H a (ns.map V.int)/\F=[]|.k ws=>∃a,v=.ref a/\(∀H',SqT K H' a (ws.map V.str))/\F=[]|.xc C ns ts=>∃a b vs,v=.ref a/\F=[]/\ExH H a C b (ns.zip vs)/\aC K dl H vs ts []|.q=>True|.fd _ _ _=>True|.rm u=>∃a x,v=.ref a/\H a=Z (.room x)/\x<=u/\F=[]|.ob C ns ts=>∃a vs,v=.ref a/\F=[]/\ObH H a C (ns.zip vs)/\aC K dl H vs ts []|.dp a ts=>∃vs G,v=.ref a/\F=a::G/\H a=Z (.dK vs)/\a9 K dl H vs ts G|.lp a ts=>∃vs G,v=.ref a/\F=a::G/\H a=Z (.lst vs)/\aC K dl H vs ts G|.zl ts=>∃a o vs,v=.ref a/\F=[]/\H a=Z (.frz o (.lst vs))/\aC K dl H vs ts []|.rf a=>v=.ref a/\F=[]|.om a C ns ts=>∃dx vs G,v=.ref a/\F=a::dx::G/\H a=Z (.ins C dx (ns.zip vs))/\H dx=Z (.own a)/\ns.length=ts.length/\aC K dl H vs ts G|.fz u=>∃a o,v=.ref a/\F=[]/\H a=Z (.frz o u)
def aM.inv{t:T}(h:aM K dl H v t F):Yc K dl H v F t:=
 aM.rec (motive_2:=λ_ _ _ _=>True) (motive_3:=λ_ _ _ _=>True) (U,U) (λ_=>(U,U)) (λ_=>(U,U)) (λ_=>(U,U)) (λ_=>rfl)
  (λh r _=>(_,_,U,h,r)) (λh r _=>(_,_,_,U,U,h,r)) (λh r _=>(_,_,_,U,U,h,r)) (λh=>(_,_,U,h,U)) (λh=>(_,U,h,U)) (λ_=>trivial) (λ_ _ _=>trivial) (λh=>(_,U,h,U)) (λh r _=>(_,_,_,U,U,h,r)) (λh hx=>(_,_,U,h,hx,U)) (λh r _=>(_,_,U,U,h,r)) (λh r _=>(_,_,U,U,h,r)) (λh r _=>(_,_,U,U,h,r)) (λh r _=>(_,_,_,U,U,h,r)) (λ_=>(U,U)) (λh1 h2 h3 r _=>(_,_,_,U,U,h1,h2,h3,r)) (λh=>(_,_,U,U,h))
  trivial (λ_ _ _ _=>trivial) trivial (λ_ _ _ _=>trivial) h
theorem aM.int{x:Int}(h:aM K dl H v (.i x) F):v=.int x/\F=[]:=h.inv
theorem aM.str(h:aM K dl H v (.s x) F):v=.str x/\F=[]:=h.inv
theorem aM.bl{x:Bool}(h:aM K dl H v (.b x) F):v=.bl x/\F=[]:=h.inv
theorem aM.non(h:aM K dl H v .n F):v=.non/\F=[]:=h.inv
theorem aM.tup(h:aM K dl H v (.t ts) F):∃a vs,v=.ref a/\H a=Z (.tup vs)/\aC K dl H vs ts F:=h.inv
theorem aM.lst(h:aM K dl H v (.l ts) F):∃a vs G,v=.ref a/\F=a::G/\H a=Z (.lst vs)/\aC K dl H vs ts G:=h.inv
def aM.dic(h:aM K dl H v (.d ts) F):∃a vs G,v=.ref a/\F=a::G/\H a=Z (.dK vs)/\a9 K dl H vs ts G:=h.inv
def aM.roo(h:aM K dl H v (.rm u) F):∃a x,v=.ref a/\H a=Z (.room x)/\x<=u/\F=[]:=h.inv
def aM.obj{ns:Γ}(h:aM K dl H v (.ob C ns ts) F):∃a vs,v=.ref a/\F=[]/\ObH H a C (ns.zip vs)/\aC K dl H vs ts []:=h.inv
def aM.dpp(h:aM K dl H v (.dp a ts) F):∃vs G,v=.ref a/\F=a::G/\H a=Z (.dK vs)/\a9 K dl H vs ts G:=h.inv
def aM.lpp(h:aM K dl H v (.lp a ts) F):∃vs G,v=.ref a/\F=a::G/\H a=Z (.lst vs)/\aC K dl H vs ts G:=h.inv
def aM.zls(h:aM K dl H v (.zl ts) F):∃a o vs,v=.ref a/\F=[]/\H a=Z (.frz o (.lst vs))/\aC K dl H vs ts []:=h.inv
def aM.omm{ns:Γ}(h:aM K dl H v (.om a C ns ts) F):∃dx vs G,v=.ref a/\F=a::dx::G/\H a=Z (.ins C dx (ns.zip vs))/\H dx=Z (.own a)/\ns.length=ts.length/\aC K dl H vs ts G:=h.inv
def aM.dea(h:aM K dl H v .cz F):∃a l,v=.ref a/\(a,l)∈dl/\F=[]:=h.inv
def aM.scr(h:aM K dl H v (.z ns) F):∃a,v=.ref a/\FzL K H a (ns.map V.int)/\F=[]:=h.inv
def aM.kst(h:aM K dl H v (.k ws) F):∃a,v=.ref a/\(∀H',SqT K H' a (ws.map V.str))/\F=[]:=h.inv
def aC.len(h:aC K dl H vs ts F):vs.length=ts.length:=h.ind U λ_ _ _ _ _ _ _ _ g=>congrArg (· + 1) g
def a9.len(h:a9 K dl H vs ts F):vs.length=ts.length:=h.ind U λ_ _ _ _ _ _ _ _ _ g=>congrArg (· + 1) g
def aC.Wl{i:Nat}(h:aC K dl H vs ts F)(e:ts[i]?=Z t):∃v G,vs[i]?=Z v/\aM K dl H v t G/\G.Sublist F:=
 h.ind (λ_ _ e=>nomatch e) (λv x vs ts F G h _ g i t e=>by
  cases i with
  |zero=>cases e;exact(v,F,U,h,List.sublist_append_left _ _)
  |succ i =>
   let(w,q,h1,h2,h3):=g i t e;exact(w,q,h1,h2,h3.trans (Zs _ _))) i t e
def aC.get{i:Nat}(h:aC K dl H vs ts F)(e:ts[i]?=Z t):∃v G,vs[i]?=Z v/\aM K dl H v t G/\∀b∈G,b∈F:=
 Exists.elim (h.Wl e) λv z=>Exists.elim z λG z=>(v,G,z.1,z.2.1,λ_ g=>z.2.2.subset g)
def aC.append{vs ws:Ω}(h:aC K dl H vs ts F)(h2:aC K dl H ws us G):aC K dl H (vs++ws) (ts++us) (F++G):=
 h.ind h2 λ_ _ _ _ _ _ h _ g=>by rw[vt];exact .cons h g
def aC.i8(h:aC K dl H vs ts F):vs=[] ↔ ts=[]:=by cases h with|nil=>simp|cons _ _=>simp
theorem aC.drop:∀{vs:Ω}{ts:ϓ}{F:Θ}(n:Nat),aC K dl H vs ts F->∃G,aC K dl H (vs.drop n) (ts.drop n) G/\G.Sublist F
 |_,_,F,0,h=>(F,h,List.Sublist.refl _)|_,_,_,_+1,.nil=>([],.nil,List.Sublist.refl _)|_,_,_,n+1,.cons h r=>by
  let(G,h1,h2):=aC.drop n r;exact(G,h1,h2.trans (Zs _ _))
theorem aC.take:∀{vs:Ω}{ts:ϓ}{F:Θ}(n:Nat),aC K dl H vs ts F->∃G,aC K dl H (vs.take n) (ts.take n) G/\G.Sublist F
 |_,_,F,0,h=>([],.nil,ZE _)|_,_,_,_+1,.nil=>([],.nil,List.Sublist.refl _)|_,_,_,n+1,.cons h r=>by
  let(G,h1,h2):=aC.take n r;exact(_,.cons h h1,h2.append_left _)
def Rp.sub(r:aM K dl H v t G)(n:∀b∈F,Nd dl b)(h:∀b∈G,b∈F):Rp K dl H v t G:=(r,λb g=>n b (h b g))
def Rp.c(r:aM K dl H v t []):Rp K dl H v t []:=(r,cc)
theorem Rps.tup(h:Rps K dl H vs ts F)(D:Dls dl H)(hp:H p=Y):Rp K dl (upd H p (.tup vs)) (.ref p) (.t ts) F:=
 have h2:=h.evo D ((Evo.refl D).new hp)
 (.t aA h2.r,h2.n)
theorem Rps.lst(h:Rps K dl H vs ts F)(D:Dls dl H)(hp:H p=Y):Rp K dl (upd H p (.lst vs)) (.ref p) (.l ts) (p::F):=
 have h2:=h.evo D ((Evo.refl D).new hp)
 (.l aA h2.r,λb g=>by
  obtain e|g:=kC.mp g
  ·rw[e];exact D.nd0 hp
  exact h2.n b g)
theorem Rps.fresh(h:Rps K dl H vs ts F)(hp:H p=Y)(hn:F.Nodup):(p::F).Nodup:=vp.mpr (λz=>(h.r.there p z).no hp,hn)
def qII(C:Int->Int->Prop)(g:Int->Int->T):Q2:=λt u Q=>match t with
 |.i a=>match u with|.i b=>C a b/\Q (g a b)|_=>False
 |_=>False
def IQ{C:Int->Int->Prop}{g:Int->Int->V}{g':Int->Int->T}(hg:∀a b dl H,aM K dl H (g a b) (g' a b) []):dD K (rI C g) (qII C g'):=by
 intro dl H x y t u F G Q R D P q hq k;unfold qII at hq;split at hq
 ·split at hq
  ·let(U,U):=P.r.int;let(U,U):=q.r.int;exact(_,_,U,U,hq.1,k _ _ [] H (.refl D) (.c (hg _ _ _ _)) nofun lu hq.2)
  exact hq.elim
 exact hq.elim
def qI0(g:Int->Int->T):Q2:=λt u Q=>match t with
 |.i a=>match u with|.i b=>Q (g a b)|_=>False
 |_=>False
def oV(hg:∀a b dl H,aM K dl H (g a b) (g' a b) []):dD K (rI0 g) (qI0 g'):=by
 intro dl H x y t u F G Q R D P q hq k;unfold qI0 at hq;split at hq
 ·split at hq
  ·let(U,U):=P.r.int;let(U,U):=q.r.int;exact(_,_,U,U,k _ _ [] H (.refl D) (.c (hg _ _ _ _)) cc lu hq)
  exact hq.elim
 exact hq.elim
def OA:OpR X (binaryOp .Add) (λx y H Q=>∃a b xs ys,x=.ref a/\y=.ref b/\SqT X.K H a xs/\SqT X.K H b ys/\xs.length+ys.length<=mu /\
(xs=[]->Q (.ref b) H)/\(xs ≠ []->ys=[]->Q (.ref a) H)/\(xs ≠ []->ys ≠ []->∀p,H p=Y->Q (.ref p) (upd H p (.tup (xs++ys))))):=by
 intro gd s σ H x y v u Q I rx V h;let(a,b,xs,ys,U,U,ha,hb,hz,q0,q1,q2):=h;by_cases hx:xs=[]
 ·cases rx;cases V;let(its,r1,p1,_):=I.tuple ha;let(fE,r2,p2,_):=I.tuple hb;have e:=r1.i8.mpr hx;subst e;let((cls,dd,data,sl),ho,hc,n,hd):=id p1;let((X0,P,data2,q),g,z,n2,hd2):=id p2;subst hc hd z hd2;exact concat_meets (_,ho,U) (_,g,U) noFill_tuple_add seq_tuple_add PySem.F.slot_tuple_add PySem.F.entry_tuple_add (PySem.F.args_tuple_add_2 _ _)
   (tuple_addW0 a b ([]).toArray fE.toArray n n2 dd P sl q ad) (ho,g,(.ref b,H,I,U,q0 hx))
 exact OB gd s σ H _ _ v u Q I rx V (a,b,xs,ys,U,U,ha,hb,hx,hz,q1 hx,q2 hx)
def Jr(K:BT):R2:=λx y H Q=>rI0 (λi j=>.int (i+j)) x y H Q\/(∃i j,x=.str i/\y=.str j/\i.length+j.length<=mu/\Q (.str (i++j)) H)\/Vb x y H Q \/
 (∃a b xs ys,x=.ref a/\y=.ref b/\SqT K H a xs/\SqT K H b ys/\xs.length+ys.length<=mu /\
(xs=[]->Q (.ref b) H)/\(xs ≠ []->ys=[]->Q (.ref a) H)/\(xs ≠ []->ys ≠ []->∀p,H p=Y->Q (.ref p) (upd H p (.tup (xs++ys)))))
def OC(g:X.K=K):OpR X (binaryOp .Add) (Jr K):=by subst g;exact pF.or (CN.or (SM.or OA))
def k7:Q2:=λt u Q=>match t with
 |.i a=>match u with|.i b=>Q (.i (a+b))|_=>False
 |.s a=>match u with|.s b=>a.length+b.length<=mu/\Q (.s (a++b))|_=>False
 |.l a=>match u with|.l b=>a.length+b.length<=mu/\T.ims a=O/\T.ims b=O/\Q (.l (a++b))|_=>False
 |.t a=>match u with|.t b=>a.length+b.length<=mu/\T.ims a=O/\T.ims b=O/\Q (.t (a++b))|_=>False
 |_=>False
def Nj:dD K (Jr K) k7:=by
 intro dl H x y t u F G Q R D q g hq k;have no:∀b,b∈([])->H b=none:=nofun;cases t with
 |i a =>
  dsimp only[k7]at hq;split at hq
  ·let(U,U):=q.r.int;let(U,U):=g.r.int;exact .inl (_,_,U,U,k _ _ [] H (.refl D) (.c (.i _)) no lu hq)
  exact hq.elim
 |s a =>
  dsimp only[k7]at hq;split at hq
  ·let(U,U):=q.r.str;let(U,U):=g.r.str;exact .inr (.inl (_,_,U,U,hq.1,k _ _ [] H (.refl D) (.c (.s _)) no lu hq.2))
  exact hq.elim
 |l a =>
  dsimp only[k7]at hq;split at hq
  ·let(a,vs,F1,U,U,h1,s1):=q.r.lst;let(b,ws,G1,U,U,h2,s2):=g.r.lst;obtain rfl:=s1.im hq.2.1;obtain rfl:=s2.im hq.2.2.1;refine .inr (.inr (.inl (a,b,vs,ws,U,U,h1,h2,by rw[s1.len,s2.len];exact hq.1,λp hp=>?_)));have rs:Rps K dl H (vs++ws) _ ([]++[]):=(s1.append s2,λc V=>nomatch V);exact k _ _ _ _ ((Evo.refl D).new hp) (rs.lst D hp) (λb hb=>by rw[fy.mp hb];exact hp) ad hq.2.2.2
  exact hq.elim
 |t a =>
  dsimp only[k7]at hq;split at hq
  ·let(a,vs,U,h1,s1):=q.r.tup;let(b,ws,U,h2,s2):=g.r.tup;obtain rfl:=s1.im hq.2.1;obtain rfl:=s2.im hq.2.2.1;refine .inr (.inr (.inr (a,b,vs,ws,U,U,SqT.of h1,SqT.of h2,by rw[s1.len,s2.len];exact hq.1,λe=>?_,λe1 e2=>?_,λ_ _ p hp=>?_)))
   ·refine k _ _ [] H (.refl D) g no lu ?_;have z:=s1.i8.mp e;subst z;exact hq.2.2.2
   ·refine k _ _ [] H (.refl D) q no lu ?_;have z:=s2.i8.mp e2;subst z;have P:=hq.2.2.2;rw[qp]at P;exact P
   have rs:Rps K dl H (vs++ws) _ ([]++[]):=(s1.append s2,λc V=>nomatch V);exact k _ _ _ _ ((Evo.refl D).new hp) (rs.tup D hp) no lu hq.2.2.2
  exact hq.elim
 |_=>exact hq.elim
def Aa:Q2:=λt u Q=>match t with
 |.i a=>match u with|.i b=>Mz a b/\Q (.i (a*b))|_=>False
 |.s a=>match u with|.i b=>0<=b/\b<=1000/\a.length<=1000/\Q (.s (jB a b.toNat))|_=>False
 |_=>False
def Jl:R2:=λx y H Q=>rI Mz (λi j=>.int (i*j)) x y H Q\/(∃z n,x=.str z/\y=.int n/\0<=n/\n<=1000/\z.length<=1000/\Q (.str (jB z n.toNat)) H)
def Oz:OpR X (binaryOp .Mult) Jl:=mf.or CM
def Nc:dD K Jl Aa:=by
 intro dl H x y t u F G Q R D q g hq k;cases t with
 |i a =>
  dsimp only[Aa]at hq;split at hq
  ·let(U,U):=q.r.int;let(U,U):=g.r.int;exact .inl (_,_,U,U,hq.1,k _ _ [] H (.refl D) (.c (.i _)) nofun lu hq.2)
  exact hq.elim
 |s a =>
  dsimp only[Aa]at hq;split at hq
  ·let(U,U):=q.r.str;let(U,U):=g.r.int;exact .inr (_,_,U,U,hq.1,hq.2.1,hq.2.2.1,k _ _ [] H (.refl D) (.c (.s _)) nofun lu hq.2.2.2)
  exact hq.elim
 |_=>exact hq.elim
end
section
variable{X:Cx}{K:BT}{a b:Ev}{ta tb:TE}{qa qb:QE}{pos:Pos}
def aS(q:QPE X K a ta qa)(g:QPE X K b tb qb)(z:‹X.K=K›):QPF X K (.BinOp a .Add b pos) (tOp (Jr K) ta tb) (qOp k7 qa qb):=l7 (OC z) Nj q g
def pA(q:QPE X K a ta qa)(g:QPE X K b tb qb):QPF X K (.BinOp a .Sub b pos) (tOp (rI0 λi j=>.int (i-j)) ta tb) (qOp (qI0 λi j=>.i (i-j)) qa qb):=l7 CL (oV λ_ _ _ _=>.i _) q g
def bJ(q:QPE X K a ta qa)(g:QPE X K b tb qb):QPF X K (.BinOp a .Mult b pos) (tOp Jl ta tb) (qOp Aa qa qb):=l7 Oz Nc q g
def JB(q:QPE X K a ta qa)(g:QPE X K b tb qb):QPF X K (.BinOp a .Mod b pos) (tOp (rI (λ_ j=>0<j) λi j=>.int (i % j)) ta tb) (qOp (qII (λ_ j=>0<j) λi j=>.i (i % j)) qa qb):=l7 i7 (IQ λ_ _ _ _=>.i _) q g
def Eg(q:QPE X K a ta qa)(g:QPE X K b tb qb):QPF X K (.BinOp a .FloorDiv b pos) (tOp (rI MA λi j=>.int (i / j)) ta tb) (qOp (qII MA λi j=>.i (i / j)) qa qb):=l7 Ax (IQ λ_ _ _ _=>.i _) q g
def RQ(q:QPE X K a ta qa)(g:QPE X K b tb qb):QPF X K (.BinOp a .Pow b pos) (tOp (rI UA λi j=>.int (i ^ j.toNat)) ta tb) (qOp (qII UA λi j=>.i (i ^ j.toNat)) qa qb):=l7 Kv (IQ λ_ _ _ _=>.i _) q g
end
variable{dl:Dl}{H:Hp}{neg:Bool}{op:CmpOp}{rq:Q2}{j:Nat}
section
variable{X:Cx}{K:BT}{a b c e:Ev}{es rest:List Ev}{ta tb te:TE}{qa qb qe:QE}{tA tB:TT}{qA qB:QT}{tl:TA}{ql:QA}{pos:Pos}
def T.v:T->V
 |.n=>.non|.b x=>.bl x|.i x=>.int x|.s x=>.str x|_=>.ty ""
def T.fl:T->Bool
 |.n=>O|.b _=>O|.i _=>O|.s _=>O|_=>ϊ
theorem aM.v{v:V}{t:T}(h:aM K dl H v t F)(f:t.fl=O):v=t.v/\F=[]:=by cases h <;> first|exact(U,U)|exact absurd (f) rF
def qEq:Q2:=λt u Q=>(t.fl&&u.fl&&Nl t.v u.v)=O/\Q (.b (decide (t.v=u.v)))
def qNe:Q2:=λt u Q=>(t.fl&&u.fl&&Nl t.v u.v)=O/\Q (.b (!decide (t.v=u.v)))
def RB:dD K rEq qEq:=by intro dl H x y t u F G Q R D q g hq k;let(h,hq):=hq;rw[uj,uj]at h;let(U,U):=q.r.v h.1.1;let(U,U):=g.r.v h.1.2;exact(h.2,k _ _ [] H (.refl D) (.c (.b _)) cc lu hq)
def tu:dD K rNe qNe:=by intro dl H x y t u F G Q R D q g hq k;let(h,hq):=hq;rw[uj,uj]at h;let(U,U):=q.r.v h.1.1;let(U,U):=g.r.v h.1.2;exact(h.2,k _ _ [] H (.refl D) (.c (.b _)) cc lu hq)
def Gq(neg:Bool):Q2:=λt u Q=>match u with|.n=>Q (.b (match t with|.n=>!neg|_=>neg))|_=>False
def aM.Xc{v:V}{t:T}(h:aM K dl H v t F):decide (v=.non)=match(generalizing:=false) t with|.n=>!false|_=>false:=by cases h <;> rfl
def aM.Xd{v:V}{t:T}(h:aM K dl H v t F):(!decide (v=.non))=match(generalizing:=false) t with|.n=>!true|_=>true:=by cases h <;> rfl
def kM:dD K (λx y H Q=>y=.non/\Q (.bl (decide (x=.non))) H) (Gq ϊ):=by
 intro dl H x y t u F G Q R D q g hq k;unfold Gq at hq;split at hq
 ·let(U,U):=g.r.non;refine(U,k _ _ [] H (.refl D) (.c (.b _)) cc lu ?_);rw[q.r.Xc];exact hq
 exact hq.elim
def jJ:dD K (λx y H Q=>y=.non/\Q (.bl (!decide (x=.non))) H) (Gq O):=by
 intro dl H x y t u F G Q R D q g hq k;unfold Gq at hq;split at hq
 ·let(U,U):=g.r.non;refine(U,k _ _ [] H (.refl D) (.c (.b _)) cc lu ?_);rw[q.r.Xd];exact hq
 exact hq.elim
def inT(x:T)(xs:ϓ):Bool:=xs.any λy=>eqV y.v x.v
def fls(xs:ϓ):Bool:=xs.all T.fl
theorem aC.vs{vs:Ω}(h:aC K dl H vs ts F):fls ts=O->vs=ts.map T.v/\F=[]:=
 h.ind (λ_=>(U,U)) λ_ _ _ _ _ _ h _ g f=>by
  have f:(_&&_)=true:=f;rw[uj]at f;let(U,U):=h.v f.1;let(U,U):=g f.2;exact(U,U)
def uR(f:fls ts=O):(ts.map T.v).all gO=true:=by rw[PX];intro x hx;let(t,g,U):=kf.mp hx;have:=PX.mp f t g;cases t <;> first|rfl|exact absurd this rF
def Pj{t:T}(f:t.fl=O):gO t.v=true:=by cases t <;> first|rfl|exact absurd f rF
def Ny(K:BT)(neg:Bool):R2:=λx y H Q=>rIn K neg x y H Q\/∃i j,x=.str i/\y=.str j/\Q (.bl (if neg then !(!(Builtin.Str.occurrences j i 0 j.length 1).isEmpty)else !(Builtin.Str.occurrences j i 0 j.length 1).isEmpty)) H
def yx(g:X.K=K):OpR X (compareOp .In) (Ny K ϊ):=by subst g;exact GI.or GH
def GG(g:X.K=K):OpR X (compareOp .NotIn) (Ny K O):=by subst g;exact yw.or yu
def qIn(neg:Bool):Q2:=λt u Q=>match u with
 |.l xs=>(t.fl&&fls xs)=O/\Q (.b (if neg then !inT t xs else inT t xs))|.t xs=>(t.fl&&fls xs)=O/\Q (.b (if neg then !inT t xs else inT t xs))|.k ws=>match t with|.s y=>Q (.b (if neg then !inT (.s y) (ws.map T.s)else inT (.s y) (ws.map T.s)))|_=>False
 |.s z=>match t with|.s y=>Q (.b (if neg then !(!(Builtin.Str.occurrences z y 0 z.length 1).isEmpty)else !(Builtin.Str.occurrences z y 0 z.length 1).isEmpty))|_=>False
 |_=>False
def tw:dD K (Ny K neg) (qIn neg):=by
 intro dl H x y t u F G Q R D q g hq k;have go:∀xs p vs,y=.ref p->(SqL K H p vs\/SqT K H p vs)->(∃G,aC K dl H vs xs G)->(t.fl&&fls xs)=O/\Q (.b (if neg then !inT t xs else inT t xs))->Ny K neg x y H R:=by
  rintro xs p vs rfl hs ⟨G,rs⟩ ⟨f,hq⟩;rw[uj]at f;let(U,U):=q.r.v f.1;let(U,_):=rs.vs f.2;refine .inl (p,_,U,hs,Pj f.1,uR f.2,k _ (.b _) [] H (.refl D) (.c (.b _)) cc lu ?_);have e:inV t.v (xs.map T.v)=inT t xs:=by unfold inV inT;rw[Yz];rfl
  rw[e];exact hq
 cases u with
 |l xs =>let(p,vs,G,U,_,h1,h2):=g.r.lst;exact go _ p vs U (.inl (SqL.of h1)) (_,h2) hq|t xs =>let(p,vs,U,h1,h2):=g.r.tup;exact go _ p vs U (.inr (SqT.of h1)) (_,h2) hq|k ws =>
  dsimp only[qIn]at hq;split at hq
  ·let(p,U,h1,_):=g.r.kst;refine go _ p _ U (.inr (h1 H)) (_,lY _) (?_,hq);rw[uj];refine(U,?_);unfold fls;rw[ZI,PX];exact λ_ _=>rfl
  exact hq.elim
 |s z =>
  dsimp only[qIn]at hq;split at hq
  ·let(U,U):=q.r.str;let(U,U):=g.r.str;exact .inr (_,_,U,U,k _ _ [] H (.refl D) (.c (.b _)) cc lu hq)
  exact hq.elim
 |_=>exact hq.elim
def jV(ho:OpR X (compareOp op) r)(hs:dD K r rq)(hm:behindInMarks op b=ϊ)(q:QPE X K a ta qa)(g:QPE X K b tb qb):QPF X K (.Compare a [op] [b] pos) (tOp r ta tb) (qOp rq qa qb):=
 (Oi ho q.h g.h hm,Ea hs q.s g.s)
def jW(qe:QE):QT:=λq Q=>qe q λt=>match t with|.b x=>Q x|_=>False
def IC(h:jE K te qe):mF K (DV te) (jW qe):=by
 intro dl H σ q Q R rd hq k;refine h dl H σ q _ _ rd hq λv t F H' e r g=>?_;split at g
 ·let(U,U):=r.r.bl;exact(_,U,k _ H' e g)
 exact g.elim
def bE(ho:OpR X (compareOp op) r)(hs:dD K r rq)(hm:behindInMarks op b=ϊ)(q:QPE X K a ta qa)(g:QPE X K b tb qb):QPT X K (.Compare a [op] [b] pos) (DV (tOp r ta tb)) (jW (qOp rq qa qb)):=
 (m9 ho q.h g.h hm,IC (tj hs.w q.s g.s))
def Ve(qe:QE):QT:=λq Q=>qe q λt=>match t with|.b x=>Q x|.n=>Q ϊ|.i x=>Q (x != 0)|.s x=>x.length<=mu/\Q ((x.length:Int) != 0)|.l xs=>Q (!xs.isEmpty)|.t xs=>Q (!xs.isEmpty)|.d xs=>Q (!xs.isEmpty)|_=>False
def M7(h:jE K te qe):mF K (λσ H Q=>te σ H λx H'=>∃k,PQ K x H' k/\Q k H') (Ve qe):=by
 intro dl H σ q Q R rd hq k;refine h dl H σ q _ _ rd hq λv t F H' e r g=>?_;have emp:∀{α β:Type}{xs:List α}{ys:List β},xs.length=ys.length->(!xs.isEmpty) = !ys.isEmpty:=λ{α β xs ys} h=>by
  cases xs <;> cases ys <;> first|rfl|(simp at h)
 cases t with|b x =>let(U,U):=r.r.bl;exact(_,U,k _ H' e g)|n =>let(U,U):=r.r.non;exact(_,U,k _ H' e g)|i x =>let(U,U):=r.r.int;exact(_,U,k _ H' e g)|s x =>let(U,U):=r.r.str;exact(_,(g.1,U),k _ H' e g.2)|l xs =>let(p,vs,G,U,_,h1,h2):=r.r.lst;exact(_,.inl (vs,SqL.of h1,U),k _ H' e (by rw[emp h2.len];exact g))|t xs =>let(p,vs,U,h1,h2):=r.r.tup;exact(_,.inr (.inl (vs,SqT.of h1,U)),k _ H' e (by rw[emp h2.len];exact g))|d xs =>let(p,vs,G,U,_,h1,h2):=r.r.dic;exact(_,.inr (.inr (vs,h1,U)),k _ H' e (by rw[emp h2.len];exact g))|_=>exact g.elim
def ip(h:QPE X K e te qe)(he:∀whole,isTrue e X.env whole=(do let v <- whole;standAt e.pos;holding [v] (truthy v)):=by intro _;rfl)(g:‹X.K=K›):
  QPT X K e (λσ H Q=>te σ H λx H'=>∃k,PQ K x H' k/\Q k H') (Ve qe):=(by subst g;exact JW h.h he,M7 h.s)
def Vh(t:QT):QT:=λq Q=>t q λc=>Q (!c)
def Vs(t u:QT):QT:=λq Q=>t q λc=>if c=O then u q Q else Q ϊ
def qOr(t u:QT):QT:=λq Q=>t q λc=>if c=O then Q O else u q Q
def Nb(h:mF K tA qA):mF K (Rn tA) (Vh qA):=λdl H σ q _ R rd hq k=>h dl H σ q _ _ rd hq λb H' e g=>k _ H' e g
def Ni(h:mF K tA qA)(h2:mF K tB qB):mF K (Rt tA tB) (Vs qA qB):=λdl H σ q Q R rd hq k=>h dl H σ q _ _ rd hq λb H' e g=>by
 cases b with|false=>exact k _ H' e g|true=>exact h2 dl H' σ q Q R (rd.evo e) g λc H2 P z=>k c H2 (e.trans P) z
def RA(h:mF K tA qA)(h2:mF K tB qB):mF K (tOr tA tB) (qOr qA qB):=λdl H σ q Q R rd hq k=>h dl H σ q _ _ rd hq λb H' e g=>by
 cases b with|true=>exact k _ H' e g|false=>exact h2 dl H' σ q Q R (rd.evo e) g λc H2 P z=>k c H2 (e.trans P) z
def Jt(h:QPT X K a tA qA):QPT X K (.UnaryOp .Not a pos) (Rn tA) (Vh qA):=(Sh h.h,Nb h.s)
def x9(h:QPT X K a tA qA):QPW X K (.BoolOp .And [a] pos) tA qA:=(Ej h.h,h.s)
def Js(h:QPT X K a tA qA):QPW X K (.BoolOp .Or [a] pos) tA qA:=(R9 h.h,h.s)
def Cy(h:QPT X K a tA qA)(h2:QPW X K (.BoolOp .And (b::rest) pos) tB qB):QPW X K (.BoolOp .And (a::b::rest) pos) (Rt tA tB) (Vs qA qB):=(JQ h.h h2.h,Ni h.s h2.s)
def Ee(h:QPT X K a tA qA)(h2:QPW X K (.BoolOp .Or (b::rest) pos) tB qB):QPW X K (.BoolOp .Or (a::b::rest) pos) (tOr tA tB) (qOr qA qB):=(Vt h.h h2.h,RA h.s h2.s)
theorem QPW.pt(h:QPW X K e tA qA):QPT X K e tA qA:=(h.h.pt,h.s)
def Ei(qa qb:QE):QE:=λq Q=>qa q λt=>match t with|.b c=>if c=O then qb q Q else Q (.b ϊ)|_=>False
def IP(h:jE K ta qa)(h2:lr K tb qb):lr K (Ir ta tb) (Ei qa qb):=λdl H σ q Q R rd hq k=>h dl H σ q _ _ rd hq λv t F H' e r g=>by
 split at g
 ·rename_i c;let(U,U):=r.r.bl;refine(c,U,?_);cases c with|false=>exact k _ _ [] H' e r nofun lu g|true=>exact h2 dl H' σ q Q R (rd.evo e) g λw u G H2 e2 P f2 V z=>k w u G H2 (e.trans e2) P (λb hb=>e.free (f2 b hb)) V z
 exact g.elim
def RR{op}(h:QPF X K a ta qa):QPF X K (.BoolOp op [a] pos) ta qa:=(SG h.h,h.s)
def RT(q:QPE X K a ta qa)(g:QPF X K (.BoolOp .And (b::rest) pos) tb qb):QPF X K (.BoolOp .And (a::b::rest) pos) (Ir ta tb) (Ei qa qb):=(SJ q.h g.h,IP q.s g.s)
def jU(P:QPE X K a ta qa):QPF X K (.UnaryOp .USub a pos) (tUn (rU λi=>.int (-i)) ta) (λq Q=>qa q λt=>match t with|.i x=>Q (.i (-x))|_=>False):=(VE Rg P.h,λdl H σ q Q R rd hq k=>P.s dl H σ q _ _ rd hq λv t F H' e r g=>by
 split at g
 ·let(U,U):=r.r.int;exact(_,U,k _ _ [] H' e (.c (.i _)) cc lu g)
 exact g.elim)
def bP:QA:=λ_ Q=>Q []
def az(qa:QE)(ql:QA):QA:=λq Q=>qa q λt=>ql q λts=>Q (t::ts)
def aj:zm X K [] iP bP:=(eB,λdl H σ q Q R rd hq k=>k [] [] [] H (.refl rd.d) (.nil,cc) U cc lu hq)
def zm.w(h:zm X K es tl ql):QPA X K es tl ql:=(h.h,λdl H σ q Q R rd hq k=>h.s dl H σ q Q R rd hq λvs ts F H' e r l _ _ z=>k vs ts F H' e r l z)
theorem Rps.cons(h:Rp K dl H v t F)(r:Rps K dl H vs ts G):Rps K dl H (v::vs) (t::ts) (F++G):=(.cons h.r r.r,λb g=>(jn.mp g).elim (h.n b) (r.n b))
def ae(P:QPE X K e te qe)(hr:QPA X K es tl ql)(hs:‹AC X e es›):QPA X K (e::es) (dy te tl) (az qe ql):=
 (cn P.h hr.h hs,λdl H σ q Q R rd hq k=>P.s dl H σ q _ _ rd hq λv t F H1 g r1 hz=>hr.s dl H1 σ q _ _ (rd.evo g) hz λvs ts G H2 V r2 l2 z=>k _ _ _ H2 (g.trans V) (.cons (r1.evo g.d V) r2) (by simp[l2]) z)
def af(ha:QPF X K e te qe)(hr:zm X K es tl ql)(hs:‹AC X e es›):zm X K (e::es) (dy te tl) (az qe ql):=
 (cn ha.h hr.h hs,λdl H σ q Q R rd hq k=>ha.s dl H σ q _ _ rd hq λv t F H1 g r1 f1 n1 hz=>hr.s dl H1 σ q _ _ (rd.evo g) hz λvs ts G H2 e2 r2 l2 f2 n2 z =>
k _ _ _ H2 (g.trans e2) (.cons (r1.evo g.d e2) r2) (by simp[l2]) (λb P=>(jn.mp P).elim (f1 b) λP=>g.free (f2 b P)) (vw.mpr (n1,n2,λx hx y hy V=>by subst V;exact(r1.r.there x hx).no (f2 x hy))) z)
def jC(ql:QA):QE:=λq Q=>ql q λts=>Q (.t ts)
def NN(ql:QA):QE:=λq Q=>ql q λts=>Q (.l ts)
def aq(h:zm X K es tl ql)(hz:autoParam (es.length<=1000) zdc._auto_1):QPF X K (.Tuple es P pos) (Rk tl) (jC ql):=(Kf h.h,λdl H σ q Q R rd hq k=>h.s dl H σ q _ _ rd hq λvs ts F H1 g V l1 f1 n1 z =>
(wz (aD ap),λp hp=>k _ _ F _ (g.new hp) (V.tup g.d hp) f1 n1 z))
def ND{P}(h:QPA X K es tl ql)(hz:autoParam (es.length<=1000) zdc._auto_1):QPE X K (.Tuple es P pos) (Rk tl) (jC ql):=(Kf h.h,λdl H σ q Q R rd hq k=>h.s dl H σ q _ _ rd hq λvs ts F H1 g V l1 z =>
(wz (aD ap),λp hp=>k _ _ F _ (g.new hp) (V.tup g.d hp) z))
def aO(h:zm X K es tl ql)(hz:autoParam (es.length<=1000) zdc._auto_1):QPF X K (.List es pos) (UP tl) (NN ql):=(SI h.h,λdl H σ q Q R rd hq k=>h.s dl H σ q _ _ rd hq λvs ts F H1 P V l1 f1 n1 z =>
(wz (aD ap),λp hp=>k _ _ (p::F) _ (P.new hp) (V.lst P.d hp) (λb g=>by
  obtain e|g:=kC.mp g
  ·rw[e];exact P.free hp
  exact f1 b g) (V.fresh hp n1) z))
def m8(h:strsOf es=Z ws)(hl:‹es.length=ws.length›):zm X K es (λ_ H Q=>Q (ws.map V.str) H) (λ_ Q=>Q (ws.map T.s)):=
 (Ol h,λdl H σ q Q R rd hq k=>k _ _ [] H (.refl rd.d) (lY ws,cc) (by rw[cU];exact hl.symm) cc lu hq)
def qIx:Q2:=λt u Q=>match u with
 |.i k=>match t with|.l xs=>Ex2 (λx=>atI xs k=Z x) Q|.t xs=>Ex2 (λx=>atI xs k=Z x) Q|.z ns=>Ex3 (λx=>atI ns k=Z x) (λx=>(.i x)) Q|.zl xs=>Ex2 (λx=>atI xs k=Z x) Q|.s z=>z.length<=mu/\Ex3 (λc=>atI z.cps.toList k=Z c) (λc=>(.s ⟨#[c]⟩)) Q|_=>False
 |_=>False
def oq{ys:List β}{x:α}(h:atI xs k=Z x)(hl:xs.length=ys.length):∃j:Nat,xs[j]?=Z x/\ixN ys.length k=Z j:=by
 unfold atI at h;cases e:ixN xs.length k with
 |none=>rw[e]at h;cases h
 |some j=>rw[e]at h;exact(j,h,by rw[<- hl];exact e)
def vi{xs:List α}{x:α}(h:ixN xs.length k=Z j)(hx:xs[j]?=Z x):atI xs k=Z x:=by unfold atI;rw[h];exact hx
def II:HE K (rIx K) qIx:=by
 intro dl H x y t u F G Q R D g r2 hq k;unfold qIx at hq;split at hq
 ·rename_i k0;let(U,U):=r2.r.int;cases t with|l xs =>let(p,vs,G,U,U,h1,h2):=g.r.lst;let(z,q,hq):=hq;let(j,P,hi):=oq q h2.len.symm;let(v,G',hv,rv,hs):=h2.get P;exact .inl (p,vs,k0,v,U,U,SqL.of h1,vi hi hv,k v z G' H (.refl D) (Rp.sub rv g.n λb hb=>j5 _ (hs b hb)) hq)|t xs =>let(p,vs,U,h1,h2):=g.r.tup;let(z,q,hq):=hq;let(j,P,hi):=oq q h2.len.symm;let(v,G',hv,rv,hs):=h2.get P;exact .inr (.inl (p,vs,k0,v,U,U,SqT.of h1,vi hi hv,k v z G' H (.refl D) (Rp.sub rv g.n hs) hq))|z ns =>let(p,U,h1,_):=g.r.scr;let(z,q,hq):=hq;refine .inl (p,_,k0,.int z,U,U,h1.sq,?_,k _ _ [] H (.refl D) (.c (.i _)) hq);let(j,P,hi):=oq (ys:=(_:Ψ).map V.int) q (by rw[cU]);exact vi hi (by rw[fN,P];rfl)|zl xs =>let(p,o,vs,U,U,h1,h2):=g.r.zls;let(z,q,hq):=hq;let(j,P,hi):=oq q h2.len.symm;let(v,G',hv,rv,hs):=h2.get P;exact .inl (p,vs,k0,v,U,U,.inl (.inr (o,h1)),vi hi hv,k v z G' H (.refl D) (Rp.sub rv g.n hs) hq)|s z =>let(U,U):=g.r.str;let(hl,c,hc,hq):=hq;exact .inr (.inr (_,k0,c,U,U,hl,hc,k _ _ [] H (.refl D) (.c (.s _)) hq))|_=>exact hq.elim
 exact hq.elim
def ao(q:QPE X K a ta qa)(g:QPE X K b tb qb)(hs:kY b:=by intro _ _;rfl)(z:‹X.K=K›):QPE X K (.Subscript a b pos) (tOp (rIx K) ta tb) (qOp qIx qa qb):=(by subst z;exact wM C6 q.h g.h hs,tj II q.s g.s)
end
variable{A:Db}{E:Φ}{items:Array B}{Q:Φ}{p2:Pos}{n:Nat}{r:Ω->Hp->VK->Prop}{us:Δ}
section
variable{X:Cx}{K:BT}{a b c e:Ev}{es:List Ev}{te:TE}{qe:QE}{tl:TA}{ql:QA}{pos p:Pos}
abbrev QO:=Sq->(Option Int->Prop)->Prop
def X9(K:BT)(t:TO)(tq:QO):Prop:=∀(dl:Dl)(H:Hp)(σ:St)(q:Sq)(Q:Option Int->Prop)(R:Option Int->Hp->Prop),RdR K dl H σ q->tq q Q->(∀o H',Evo dl H H'->Q o->R o H')->t σ H R
structure QPO(X:Cx)(K:BT)(e:Option Ev)(t:TO)(tq:QO):Prop where
 h:PO X e t
 s:X9 K t tq
def kO:QPO X K Y DW (λ_ Q=>Q Y):=(N7,λ_ _ _ _ _ _ rd hq k=>k Y _ (.refl rd.d) hq)
def gH(h:QPE X K e te qe):QPO X K (Z e) (P6 te) (λq Q=>qe q λt=>match t with|.i x=>Q (Z x)|_=>False):=(yo h.h,λdl H σ q Q R rd hq k=>h.s dl H σ q _ _ rd hq λv t F H' e r g=>by
 split at g
 ·let(U,U):=r.r.int;exact(_,U,k _ H' e g)
 exact g.elim)
def gD{α:Type}(xs:List α)(lo hi:Option Int):List α:=(xs.drop (HT.sIx xs.length 0 lo)).take (HT.sIx xs.length xs.length hi-HT.sIx xs.length 0 lo)
def aC.cut{vs:Ω}(lo hi:Option Int)(h:aC K dl H vs ts F):∃G,aC K dl H (og vs lo hi) (gD ts lo hi) G/\G.Sublist F:=by unfold og gD;rw[h.len];let(G,h1,s1):=h.drop (HT.sIx ts.length 0 lo);let(g,h2,s2):=h1.take (HT.sIx ts.length ts.length hi-HT.sIx ts.length 0 lo);exact(g,h2,s2.trans s1)
def k8{s:ϋ}{t sl:J}{V P:B}{lo hi:Option Int}(g:IsTup s.heap t items)(hs:s.heap.IsSliceOf sl V P .none)(pl:IsPart V lo)(pu:IsPart P hi)
  (hw:HT.sIx items.size 0 lo=0/\HT.sIx items.size items.size hi=items.size)
  (h:Q (.ref t) s):wpAny (model prog w) A (getItem (.ref t) (.ref sl)) Q E s:=by
 let(os,q,z,ak):=id hs;have K:s.TypeIs (.ref sl) "slice":=(os,q,z);have hT:=g.typeIs;unfold getItem;try with_reducible refine DF ?_
 refine dN (wpAny_sequenceKey g.typeIs ac ?_);refine dN (wpAny_callSpecial?_slot g.typeIs PyProof.Rows.slot_tuple_getitem
(E3 PyProof.Rows.slot_tuple_getitem g.typeIs entry_tuple_getitem ?_ (args_tuple_getitem _ _)))
 show wpAny _ _ (Builtin.Tuple.tupleItemsOf (.ref t) >>= _) _ _ s;refine dN (tupleItemsOf_ g (dN (Tz K (dN (HT.ik hs pl pu ?_)))));have hy:(((HT.sIx items.size 0 lo):Int)==0&&(1:Int)==1&&(HT.sIx items.size items.size hi-HT.sIx items.size 0 lo)==items.size)=true:=by rw[hw.1,hw.2];simp
 show wpAny _ _ (if(((HT.sIx items.size 0 lo):Int)==0&&(1)==1&&(HT.sIx items.size items.size hi-HT.sIx items.size 0 lo)==items.size)=O then _ else _) _ _ s;rw[if_pos hy];exact dN (dN (Tz hT (kA (by exact dN (UU (kA (_,U,kA h)))))))
inductive U1(K:BT)(x:V)(lo:Option Int)(hi:Option Int)(H:Hp)(Q:VK):Prop
 |mk(a xs:_)(h1:x=.ref a)(h2:SqT K H a xs)(h3:((HT.sIx xs.length 0 lo=0/\HT.sIx xs.length xs.length hi=xs.length)->Q (.ref a) H))(h4:(¬(HT.sIx xs.length 0 lo=0/\HT.sIx xs.length xs.length hi=xs.length)->∀p,H p=Y->Q (.ref p) (upd H p (.tup (og xs lo hi)))))
def M0:SlR X (U1 X.K):=by
 intro gd s σ H x v V P lo hi sl Q I g hs q pu h;let(a,xs,U,hx,q1,q2):=h;by_cases hw:HT.sIx xs.length 0 lo=0/\HT.sIx xs.length xs.length hi=xs.length
 ·cases g;let(its,r,z,hz):=I.tuple hx;have hlen:its.toArray.size=xs.length:=r.length.symm;exact("tuple",_,PyProof.Rows.slot_tuple_getitem.lookup,z.typeIs,k8 z hs q pu (by rw[hlen];exact hw) (.ref a,H,I,U,q1 hw))
 exact Ry gd s σ H _ v V P lo hi sl Q I g hs q pu (a,xs,U,hx,hw,q2 hw)
def Hm{α:Type}{xs:List α}{lo hi:Option Int}(h:HT.sIx xs.length 0 lo=0/\HT.sIx xs.length xs.length hi=xs.length):gD xs lo hi=xs:=by unfold gD;rw[h.1,h.2];simp
def U4(K:BT):V->Option Int->Option Int->Hp->VK->Prop:=λx lo hi H Q=>U3 K x lo hi H Q\/U1 K x lo hi H Q\/U2 x lo hi H Q
def WU(g:X.K=K):SlR X (U4 K):=by subst g;exact D8.or (M0.or Rz)
def qSl(qe:QE)(l u:QO):QE:=λq Q=>qe q λt=>l q λlo=>u q λhi=>match t with|.l xs=>T.ims xs=O/\Q (.l (gD xs lo hi))|.t xs=>T.ims xs=O/\Q (.t (gD xs lo hi))|.z ns=>Q (.l ((gD ns lo hi).map T.i))|.zl xs=>Q (.l (gD xs lo hi))|.s z=>z.length<=mu/\Q (.s (Txt.slice z lo hi))|_=>False
def gi(he:QPE X K e te qe)(hl:QPO X K l ak av)(hu:QPO X K u ar ay)(hK:‹X.K=K›):QPF X K (.Subscript e (.Slice l u Y p2) pos) (tSl (U4 K) te ak ar) (qSl qe av ay):=
 (Am (WU hK) he.h hl.h hu.h,λdl H σ q Q R rd hq k=>he.s dl H σ q _ _ rd hq λv t F H1 e1 r1 g=>hl.s dl H1 σ q _ _ (rd.evo e1) g λlo H2 e2 g=>hu.s dl H2 σ q _ _ ((rd.evo e1).evo e2) g λhi H3 e3 g=>by
  have r3:=(r1.evo e1.d e2).evo e2.d e3;have P:=(e1.trans e2).trans e3;have no:∀b,b∈([])->H b=none:=cc;cases t with
  |l xs =>
   let(p,vs,G,U,U,h1,h2):=r3.r.lst;obtain rfl:=h2.im g.1;let(G,h3,s3):=h2.cut lo hi;obtain rfl:=ZF.mp s3;refine .inl (p,vs,U,SqL.of h1,λp hp=>?_);have rs:Rps K dl H3 (og vs lo hi) _ []:=(h3,λc hc=>nomatch hc);exact k _ _ _ _ (P.new hp) (rs.lst e3.d hp) (λb hb=>by rw[fy.mp hb];exact P.free hp) ad g.2
  |t xs =>
   let(p,vs,U,h1,h2):=r3.r.tup;obtain rfl:=h2.im g.1;let(G,h3,s3):=h2.cut lo hi;obtain rfl:=ZF.mp s3;refine .inr (.inl (p,vs,U,SqT.of h1,λhw=>?_,λ_ p hp=>?_))
   ·refine k _ _ _ _ P r3 no lu ?_;rw[h2.len]at hw;have aP:=g.2;rw[Hm hw]at aP;exact aP
   have rs:Rps K dl H3 (og vs lo hi) _ []:=(h3,λc hc=>nomatch hc);exact k _ _ _ _ (P.new hp) (rs.tup e3.d hp) no lu g.2
  |z ns =>
   let(p,U,h1,_):=r3.r.scr;refine .inl (p,_,U,h1.sq,λp hp=>?_);have e:og (ns.map V.int) lo hi=(gD ns lo hi).map V.int:=by unfold og gD;rw[cU,<- Zx,<- Zf]
   rw[e];have rs:Rps K dl H3 ((gD ns lo hi).map V.int) ((gD ns lo hi).map T.i) []:=(lZ _,λc hc=>nomatch hc);exact k _ _ _ _ (P.new hp) (rs.lst e3.d hp) (λb hb=>by rw[fy.mp hb];exact P.free hp) ad g
  |zl xs =>
   let(p,o,vs,U,U,h1,h2):=r3.r.zls;let(G,h3,s3):=h2.cut lo hi;obtain rfl:=ZF.mp s3;refine .inl (p,vs,U,.inl (.inr (o,h1)),λp hp=>?_);have rs:Rps K dl H3 (og vs lo hi) _ []:=(h3,λc hc=>nomatch hc);exact k _ _ _ _ (P.new hp) (rs.lst e3.d hp) (λb hb=>by rw[fy.mp hb];exact P.free hp) ad g
  |s z =>let(U,U):=r3.r.str;exact .inr (.inr (_,U,g.1,k _ _ [] H3 P (.c (.s _)) no lu g.2))
  |_=>exact g.elim)
abbrev QC:=ϓ->(T->Prop)->Prop
def mG(K:BT)(r:Ω->Hp->VK->Prop)(rq:QC):Prop:=∀(dl:Dl)(H:Hp)(vs:Ω)(ts:ϓ)(F:Θ)(Q:T->Prop)(R:V->Hp->Prop),Dls dl H->Rps K dl H vs ts F->rq ts Q ->
 (∀v z F' H',Evo dl H H'->Rp K dl H' v z F'->(∀b∈F',H b=Y)->F'.Nodup->Q z->R v H')->r vs H R
def qCB(rq:QC)(ql:QA):QE:=λq Q=>ql q λts=>rq ts Q
def IL{rq:QC}(h:mG K r rq)(hl:PR K n tl ql):lr K (tCB r tl) (qCB rq ql):=λdl H σ q Q R rd hq k=>hl dl H σ q _ _ rd hq λvs ts F H1 P r1 _ g =>
 h dl H1 vs ts F Q R P.d r1 g λv z F' H2 e2 V f2 n2 g=>k v z F' H2 (P.trans e2) V (λb hb=>P.free (f2 b hb)) n2 g
def bK{id:String}{rq:QC}(P:cL X (.builtin id) r)(hs:mG K r rq)(hg:Gl X x)(hm:X.mg x=Y)(hv:bootBuiltins x=Z (.builtin id))(z:QPA X K (e::es) tl ql)(hn:autoParam (x ≠ "__name__") zdc._auto_1)(q:autoParam (AS x) zdc._auto_1)
  (he:‹AC X e es›) (g:‹AM X pos es›):QPF X K (.Call (.Name x p) (e::es) [] pos) (tCB r tl) (qCB rq ql):=(uh P hg hm hv z.h hn q he g,IL hs z.s)
def aL{id:String}{rq:QC}(P:cL X (.type id) r)(hs:mG K r rq)(hg:Gl X x)(hm:X.mg x=Y)(hv:bootBuiltins x=Z (.type id))(z:QPA X K (e::es) tl ql)(hn:autoParam (x ≠ "__name__") zdc._auto_1)(q:autoParam (AS x) zdc._auto_1)
  (he:‹AC X e es›) (g:‹AM X pos es›):QPF X K (.Call (.Name x p) (e::es) [] pos) (tCB r tl) (qCB rq ql):=(wN P hg hm hv z.h hn q he g,IL hs z.s)
def Rps.one(h:Rps K dl H vs [t] F):∃v,vs=[v]/\Rp K dl H v t F:=by let(r,n):=h;cases r with|cons q g =>cases g;rw[qp]at n;rw[qp];exact(_,U,q,n)
def Rps.two(h:Rps K dl H vs [t,u] F):∃v w Q P,vs=[v,w]/\Rp K dl H v t Q/\Rp K dl H w u P:=by let(r,n):=h;cases r with|cons z q =>let(w,U,h2):=Rps.one (q,λb g=>n b (pq _ g));exact(_,w,_,_,U,(z,λb g=>n b (qh _ g)),h2)
def Jm(K:BT):Ω->Hp->VK->Prop:=λxs H Q=>(∃p ys,xs=[.ref p]/\(SqL K H p ys\/SqT K H p ys)/\Q (.int ys.length) H)\/(∃z,xs=[.str z]/\z.length<=mu/\Q (.int z.length) H)\/∃a kvs,xs=[V.ref a]/\H a=Z (.dK kvs)/\Q (.int kvs.length) H
def Hv(g:X.K=K):cL X (.builtin "len") (Jm K):=by subst g;exact oj.or (ze.or Hu)
def Gp:QC:=λts Q=>on1 ts λt=>match t with|.l xs=>Q (.i xs.length)|.t xs=>Q (.i xs.length)|.z xs=>Q (.i xs.length)|.zl xs=>Q (.i xs.length)|.d xs=>Q (.i xs.length)|.s x=>x.length<=mu/\Q (.i x.length)|_=>False
def Nf:mG K (Jm K) Gp:=by intro dl H vs ts F Q R D r hq k;have fin:∀n,Q (.i n)->R (.int n) H:=λn hq=>k _ _ [] H (.refl D) (.c (.i _)) nofun lu hq;replace hq:=on1.inv hq;let(t,U,hq):=hq;let(v,U,g):=r.one;cases t with|l xs =>let(p,vs,G,U,_,h1,h2):=g.r.lst;exact .inl (p,vs,U,.inl (SqL.of h1),fin _ (by rw[h2.len];exact hq))|t xs =>let(p,vs,U,h1,h2):=g.r.tup;exact .inl (p,vs,U,.inr (SqT.of h1),fin _ (by rw[h2.len];exact hq))|z xs =>let(p,U,h1,_):=g.r.scr;exact .inl (p,_,U,.inl h1.sq,fin _ (by rw[cU];exact hq))|zl xs =>let(p,o,vs,U,_,h1,h2):=g.r.zls;exact .inl (p,vs,U,.inl (.inl (.inr (o,h1))),fin _ (by rw[h2.len];exact hq))|d xs =>let(p,vs,G,U,_,h1,h2):=g.r.dic;exact .inr (.inr (p,vs,U,h1,fin _ (by rw[h2.len];exact hq)))|s x =>let(U,_):=g.r.str;exact .inr (.inl (_,U,hq.1,fin _ hq.2))|_=>exact hq.elim
def qI2(g:Int->Int->Int):QC:=λts Q=>on2 ts λt u=>match t with
 |.i a=>match u with|.i b=>Q (.i (g a b))|_=>False
 |_=>False
def lR:mG K (λxs H Q=>∃i j,xs=[.int i,.int j]/\Q (.int (g i j)) H) (qI2 g):=by
 intro dl H vs ts F Q R D r hq k;replace hq:=on2.inv hq;let(t,u,U,hq):=hq;split at hq
 ·split at hq
  ·let(v,w,F1,V,U,P,q):=r.two;let(U,_):=P.r.int;let(U,_):=q.r.int;exact(_,_,U,k _ _ [] H (.refl D) (.c (.i _)) cc lu hq)
  exact hq.elim
 exact hq.elim
def Vn:QC:=λts Q=>on1 ts λt=>match t with|.i a=>Q (.i a)|.b k=>Q (.i (if k then 1 else 0))|_=>False
def mV:mG K (λxs H Q=>(∃i,xs=[.int i]/\Q (.int i) H)\/∃k,xs=[.bl k]/\Q (.int (if k then 1 else 0)) H) Vn:=by intro dl H vs ts F Q R D r hq k;replace hq:=on1.inv hq;let(t,U,hq):=hq;cases t with|i a =>let(v,U,g):=r.one;let(U,_):=g.r.int;exact .inl (_,U,k _ _ [] H (.refl D) (.c (.i _)) cc lu hq)|b c =>let(v,U,g):=r.one;let(U,_):=g.r.bl;exact .inr (_,U,k _ _ [] H (.refl D) (.c (.i _)) cc lu hq)|_=>exact hq.elim
def RW:QC:=λts Q=>on1 ts λt=>match t with|.l xs=>T.ims xs=O/\Q (.t xs)|.t xs=>T.ims xs=O/\Q (.t xs)|_=>False
def bN(g:X.K=K):cL X (.type "tuple") (λxs H Q=>∃p ys,xs=[.ref p]/\((SqL K H p ys/\∀l,H l=Y->Q (.ref l) (upd H l (.tup ys)))\/(SqT K H p ys/\Q (.ref p) H))):=by subst g;exact wm
def b7:mG K (λxs H Q=>∃p ys,xs=[.ref p]/\((SqL K H p ys/\∀l,H l=Y->Q (.ref l) (upd H l (.tup ys)))\/(SqT K H p ys/\Q (.ref p) H))) RW:=by
 intro dl H vs ts F Q R D r hq k;have no:∀b,b∈([])->H b=none:=cc;replace hq:=on1.inv hq;let(t,U,hq):=hq;cases t with
 |l xs =>
  let(v,U,g):=r.one;let(p,vs,G,U,U,h1,h2):=g.r.lst;obtain rfl:=h2.im hq.1;refine(p,vs,U,.inl (SqL.of h1,λl hl=>?_));have rs:Rps K dl H vs _ []:=(h2,λc q=>nomatch q);exact k _ _ _ _ ((Evo.refl D).new hl) (rs.tup D hl) no lu hq.2
 |t xs =>
  let(v,U,g):=r.one;let(p,vs,U,h1,h2):=g.r.tup;obtain rfl:=h2.im hq.1;exact(p,vs,U,.inr (SqT.of h1,k _ _ [] H (.refl D) g no lu hq.2))
 |_=>exact hq.elim
def RX:QC:=λts Q=>on1 ts λt=>match t with|.l xs=>T.ims xs=O/\Q (.l xs)|.t xs=>T.ims xs=O/\Q (.l xs)|_=>False
def pW(g:X.K=K):cL X (.type "list") (λxs H Q=>∃p ys,xs=[.ref p]/\(SqL K H p ys\/SqT K H p ys)/\∀l,H l=Y->Q (.ref l) (upd H l (.lst ys))):=by subst g;exact zd
def F7:mG K (λxs H Q=>∃p ys,xs=[.ref p]/\(SqL K H p ys\/SqT K H p ys)/\∀l,H l=Y->Q (.ref l) (upd H l (.lst ys))) RX:=by
 intro dl H vs ts F Q R D r hq k;replace hq:=on1.inv hq;let(t,U,hq):=hq;cases t with
 |l xs =>
  let(v,U,g):=r.one;let(p,vs,G,U,U,h1,h2):=g.r.lst;obtain rfl:=h2.im hq.1;refine(p,vs,U,.inl (SqL.of h1),λl hl=>?_);have rs:Rps K dl H vs _ []:=(h2,λc q=>nomatch q);exact k _ _ _ _ ((Evo.refl D).new hl) (rs.lst D hl) (λb z=>by rw[fy.mp z];exact hl) ad hq.2
 |t xs =>
  let(v,U,g):=r.one;let(p,vs,U,h1,h2):=g.r.tup;obtain rfl:=h2.im hq.1;refine(p,vs,U,.inr (SqT.of h1),λl hl=>?_);have rs:Rps K dl H vs _ []:=(h2,λc q=>nomatch q);exact k _ _ _ _ ((Evo.refl D).new hl) (rs.lst D hl) (λb z=>by rw[fy.mp z];exact hl) ad hq.2
 |_=>exact hq.elim
def picks{α:Type}(f:T->Option α):ϓ->Option (List α)
 |[]=>Z []|t::r=>(f t).bind λa=>(picks f r).map (a :: ·)
theorem aC.picks{f:T->Option α}{g:α->V}(hf:∀(v:V)(t:T)(F:Θ)(a:α),aM K dl H v t F->f t=Z a->v=g a){vs:Ω}(h:aC K dl H vs ts F):∀{bs:List α},L2.picks f ts=Z bs->vs=bs.map g:=
 h.ind (M:=λvs ts F=>∀{bs:List α},L2.picks f ts=Z bs->vs=bs.map g) (λe=>by cases e;rfl) λv t vs ts F G h _ q bs e=>by
  let(a,Q,P):=ZC.mp e;let(as,z,U):=gV.mp P;rw[hf v t F a h Q,q z];rfl
def asB:T->Option Bool
 |.b x=>Z x|_=>Y
def asI:T->Option Int
 |.i x=>Z x|_=>Y
abbrev bls:ϓ->Option (List Bool):=picks asB
theorem aC.bls{vs:Ω}(h:aC K dl H vs ts F)(e:L2.bls ts=Z bs):vs=bs.map V.bl:=
 h.picks (λv t F a h e=>by cases t <;> first|(cases e;exact h.bl.1)|cases e) e
def W5:QC:=λts Q=>on1 ts λt=>match t with|.l xs=>Ex3 (λbs=>bls xs=Z bs) (λbs=>(.b (bs.all id))) Q|_=>False
def pY(q:X.K=K)(g:X.calm=O):cL X (.builtin "all") (λxs H Q=>∃(l:J)(bs:List Bool),xs=[.ref l]/\SqL K H l (bs.map V.bl)/\Q (.bl (bs.all id)) H):=by subst q;exact LZ g
def xI:mG K (λxs H Q=>∃(l:J)(bs:List Bool),xs=[.ref l]/\SqL K H l (bs.map V.bl)/\Q (.bl (bs.all id)) H) W5:=by
 intro dl H vs ts F Q R D r hq k;replace hq:=on1.inv hq;let(t,U,hq):=hq;split at hq
 ·let(v,U,g):=r.one;let(p,vs,G,U,U,h1,h2):=g.r.lst;let(bs,q,hq):=hq;have e:=h2.bls q;subst e;exact(p,bs,U,SqL.of h1,k _ _ [] H (.refl D) (.c (.b _)) cc lu hq)
 exact hq.elim
def MX(ns:Ψ):preSum (λi=>ns.getD i 0) ns.length=ns.sum:=by
 have h:∀n,n<=ns.length->preSum (λi=>ns.getD i 0) n=(ns.take n).sum:=λn=>by
  induction n with
  |zero=>simp[preSum]|succ n q =>
   intro hn;have g:=by omega
   show preSum _ n+ns.getD n 0=_;rw[q ap,p7,zu,dQ g];simp only[Option.toList_some,List.sum_append,vx,List.sum_nil,Option.getD_some,Y8]
 rw[h _ (kB _),ox]
def HX{i:Nat}{v:B}(r:Vals (ns.map V.int) us)(h:us[i]?=Z v):∃t,v=.int (ns.getD i 0) t:=by
 have hl:=r.length;rw[cU]at hl;have hi:i<ns.length:=by have:=(jm.mp h).1;lia
 let(u,h1,t,h2):=r.get (i:=i) (x:=.int ns[i]) (by simp[hi]);rw[h]at h1;cases h1;exact(t,by rw[h2];simp[hi])
def fk(hK:X.K=K)(hc:X.calm=O):cL X (.builtin "sum") (λxs H Q=>∃(l:J)(ns:Ψ),xs=[.ref l]/\SqL K H l (ns.map V.int)/\Q (.int ns.sum) H):=by
 subst hK;intro gd s σ H xs us Q I r h;let(l,ns,U,hl,q):=h;let(u,U,ru):=vals1 r;cases ru;let(its,rv,z,hz):=I.list hl;have g:l<s.heap.objs.size:=by let(_,e,_):=z.isList;exact kz e
 have hlen:its.toArray.size=ns.length:=by have e:=rv.length;rw[cU]at e;simp[e]
 refine call_sum_walkG (wpAny_pyIter_list z.isList ((s.heap.objs.size,[s.heap.objs.size,l],[s.heap.objs.size],its.toArray.size,_,_,λi=>ns.getD i 0,U,Walks.list (show X.A.in1.handled=Y from I.ok.hd hc) s.heap.objs.size l (rl g) its.toArray,((_,kD _ U,U,U),z.isList.push _),?_,?_,λh' tk t' hk=>?_)))
 ·intro b P;rw[BB];obtain e|P:=kC.mp P
  ·rw[e];exact YB _
  rw[fy.mp P];exact YU g
 ·intro i v hP;exact HX rv (hP:)
 refine(.int ns.sum,H,I.kept λb o e=>hk b o (rl (kz e):) (gs _ e),(t',?_),q);rw[hlen,MX]
abbrev ins:ϓ->Option (Ψ):=picks asI
theorem aC.ins{vs:Ω}(h:aC K dl H vs ts F)(e:L2.ins ts=Z bs):vs=bs.map V.int:=
 h.picks (λv t F a h e=>by cases t <;> first|(cases e;exact h.int.1)|cases e) e
def ins_map(bs:Ψ):ins (bs.map T.i)=Z bs:=by induction bs with|nil=>rfl|cons b r g=>show(ins (r.map T.i)).map (b :: ·)=_;rw[g];rfl
def W2:QC:=λts Q=>on1 ts λt=>match t with|.l xs=>Ex3 (λbs=>ins xs=Z bs) (λbs=>(.i bs.sum)) Q|_=>False
def iS:mG K (λxs H Q=>∃(l:J)(ns:Ψ),xs=[.ref l]/\SqL K H l (ns.map V.int)/\Q (.int ns.sum) H) W2:=by
 intro dl H vs ts F Q R D r hq k;replace hq:=on1.inv hq;let(t,U,hq):=hq;split at hq
 ·let(v,U,g):=r.one;let(p,vs,G,U,U,h1,h2):=g.r.lst;let(bs,q,hq):=hq;have e:=h2.ins q;subst e;exact(p,bs,U,SqL.of h1,k _ _ [] H (.refl D) (.c (.i _)) cc lu hq)
 exact hq.elim
end
structure dZ where
 nx:Sq->Prop
 rt:T->Prop
 bk:Sq->Prop:=λ_=>False
 ct:Sq->Prop:=λ_=>False
 ru:Sq->T->Prop:=λ_ _=>False
abbrev QS:=dZ->Sq->Prop
def dZ.lp(D:dZ)(N:Sq->Prop):dZ:={D with nx:=N,ct:=N,bk:=D.nx}
def dZ.fn(Q:T->Prop):dZ:={nx:=λ_=>Q .n,rt:=Q}
structure Frm(dl:Dl)(be H:Hp):Prop where
 k:∀b o,be b=Z o->Nd dl b->NR o->H b=Z o
 r:∀a x,be a=Z (.room x)->∃y,y<=x/\H a=Z (.room y)
variable{be:Hp}
def Frm.evo(f:Frm dl be H)(D:Dls dl H):Evo dl be H:=(f.k,D,f.r)
def Frm.refl:Frm dl H H:=(λ_ _ h _ _=>h,λ_ x h=>(x,DG _,h))
variable{H':Hp}
def Frm.trans(f:Frm dl be H)(e:Evo dl H H'):Frm dl be H':=(λb o h n r=>e.k b o (f.k b o h n r) n r,λa x h=>let(y,q,h1):=f.r a x h;let(z,g,h2):=e.r a y h1;(z,Y7 g q,h2))
structure Rel(K:BT)(dl:Dl)(be:Hp)(hs:List (V×T))(H:Hp)(σ:St)(q:Sq)(F:Nat->Θ):Prop where
 d:Dls dl H
 g:∀(i:Nat)(x:Sl)(t:T),q[i]?=Z x->x.get=Z t->∃v,σ[i]?=Z (Z v)/\Rp K dl H v t (F i)
 n:∀(i:Nat)(x:Sl),q[i]?=Z x->x.get=Y->F i=[]
 z:∀(i:Nat),q.length<=i->F i=[]
 o:∀(i:Nat)(t:T),q[i]?=Z (.o t)->(F i).Nodup/\(∀b∈F i,be b=Y)/\(∀j,j≠i->∀b∈F i,b ∉ F j)
 h:∀p∈hs,∃Fp,Rp K dl H p.1 p.2 Fp/\∀(i:Nat)(t:T),q[i]?=Z (.o t)->∀b∈F i,b ∉ Fp
 f:Frm dl be H
 l:q.length=σ.length
def kr(K:BT)(dl:Dl)(be:Hp)(hs:List (V×T))(H:Hp)(σ:St)(q:Sq):Prop:=∃F,Rel K dl be hs H σ q F
variable{F':Θ}
section
variable{K:BT}{hs:List (V×T)}{σ:St}{q:Sq}{F:Nat->Θ}
def Rel.rd(r:Rel K dl be hs H σ q F):RdR K dl H σ q:=(r.d,λi x t h1 h2=>let(v,e,p):=r.g i x t h1 h2;(v,F i,e,p))
def Rel.fz(r:Rel K dl be hs H σ q F)(h:H b=Y):be b=none:=(r.f.evo r.d).free h
def Rel.iO(r:Rel K dl be hs H σ q F)(P:b∈F i):gY H b:=by
 by_cases hi:i<q.length
 ·have e:q[i]?=Z q[i]:=by simp[hi]
  cases ex:q[i].get with
  |none=>rw[r.n i _ e ex]at P;cases P
  |some t =>let(v,_,p):=r.g i _ t e ex;exact p.r.there b P
 rw[r.z i ap]at P;cases P
theorem Rel.evo(r:Rel K dl be hs H σ q F)(e:Evo dl H H'):Rel K dl be hs H' σ q F where
 d:=e.d
 g:=λi x t h1 h2=>let(v,P,p):=r.g i x t h1 h2;(v,P,p.evo r.d e)
 n:=r.n
 z:=r.z
 o:=r.o
 h:=λp hp=>let(Fp,h1,h2):=r.h p hp;(Fp,h1.evo r.d e,h2)
 f:=r.f.trans e
 l:=r.l
def Ga(F:Nat->Θ)(i:Nat)(x:Θ):Nat->List Addr:=λj=>if j=i then x else F j
def bR{x:Θ}:Ga F i x i=x:=if_pos U
def bu{x:Θ}(h:j≠i):Ga F i x j=F j:=if_neg h
def get_set{xs:List α}{x y:α}(h:(xs.set i x)[j]?=Z y):(j=i/\y=x/\i<xs.length)\/(j≠i/\xs[j]?=Z y):=by
 by_cases e:j=i
 ·subst e;rw[List.getElem?_set_self']at h;by_cases hl:j<xs.length
  ·rw[dQ hl]at h;exact .inl (U,(Option.some.inj h).symm,hl)
  rw[P2 ap]at h;cases h
 rw[Wb (λz=>e z.symm)]at h;exact .inr (e,h)
def Rel.put(r:Rel K dl be hs H σ q F)(hi:i<q.length)(e:Evo dl H H')(hv:Rp K dl H' v t F')(hf:∀b∈F',H b=Y)(hn:F'.Nodup):Rel K dl be hs H' (σ.set i (Z v)) (q.set i (.o t)) (Ga F i F'):=by
 have r':=r.evo e;have out:∀j,∀b∈F',b ∉ F j:=λj b P Q=>(r.iO Q).no (hf b P);refine(e.d,λj x u h1 h2=>?_,λj x h1 h2=>?_,λj Q=>?_,λj u h1=>?_,λp hp=>?_,r'.f,by simp[r.l])
 ·obtain⟨rfl,rfl,_⟩|⟨ne,h1⟩:=get_set h1
  ·cases h2;exact(v,by rw[WO (by rw[<- r.l];exact hi)],by rw[bR];exact hv)
  let(w,h3,h4):=r'.g j x u h1 h2;exact(w,by rw[Wb (λz=>ne z.symm)];exact h3,by rw[bu ne];exact h4)
 ·obtain⟨rfl,rfl,_⟩|⟨ne,h1⟩:=get_set h1
  ·cases h2
  rw[bu ne];exact r.n j x h1 h2
 ·rw[Ye]at Q;rw[bu ap];exact r.z j Q
 ·obtain⟨rfl,_,_⟩|⟨ne,h1⟩:=get_set h1
  ·rw[bR];exact(hn,λb P=>r.fz (hf b P),λk hk b P=>by rw[bu hk];exact out k b P)
  rw[bu ne];let(o1,o2,o3):=r.o j u h1;refine(o1,o2,λk hk b P=>?_);by_cases ek:k=i
  ·subst ek;rw[bR];exact λz=>out j b z P
  rw[bu ek];exact o3 k hk b P
 let(Fp,h1,h2):=r.h p hp;refine(Fp,h1.evo r.d e,λj u Q b P z=>?_);obtain⟨rfl,_,_⟩|⟨ne,Q⟩:=get_set Q
 ·rw[bR]at P;exact gY.no (h1.r.there b z) (hf b P)
 rw[bu ne]at P;exact h2 j u Q b P z
def Rel.Sg(r:Rel K dl be hs H σ q F)(hi:i<q.length)(hv:Rp K dl H v t F')(hf:∀(j:Nat)(u:T),q[j]?=Z (.o u)->j≠i->∀b∈F j,b ∉ F'):Rel K dl be hs H (σ.set i (Z v)) (q.set i (.r t)) (Ga F i F'):=by
 refine(r.d,λj x u h1 h2=>?_,λj x h1 h2=>?_,λj P=>?_,λj u h1=>?_,λp hp=>?_,r.f,by simp[r.l])
 ·obtain⟨rfl,rfl,_⟩|⟨ne,h1⟩:=get_set h1
  ·cases h2;exact(v,by rw[WO (by rw[<- r.l];exact hi)],by rw[bR];exact hv)
  let(w,h3,h4):=r.g j x u h1 h2;exact(w,by rw[Wb (λz=>ne z.symm)];exact h3,by rw[bu ne];exact h4)
 ·obtain⟨rfl,rfl,_⟩|⟨ne,h1⟩:=get_set h1
  ·cases h2
  rw[bu ne];exact r.n j x h1 h2
 ·rw[Ye]at P;rw[bu ap];exact r.z j P
 ·obtain⟨rfl,e,_⟩|⟨ne,h1⟩:=get_set h1
  ·cases e
  rw[bu ne];let(o1,o2,o3):=r.o j u h1;refine(o1,o2,λk hk b Q=>?_);have z:=hf j u h1 ne b Q;by_cases ek:k=i
  ·subst ek;rw[bR];exact z
  rw[bu ek];exact o3 k hk b Q
 let(Fp,h1,h2):=r.h p hp;refine(Fp,h1,λj u P b Q z=>?_);obtain⟨rfl,e,_⟩|⟨ne,P⟩:=get_set P
 ·cases e
 rw[bu ne]at Q;exact h2 j u P b Q z
def Rel.hold(r:Rel K dl be hs H σ q F)(hv:Rp K dl H v t F')(hf:∀(j:Nat)(u:T),q[j]?=Z (.o u)->∀b∈F j,b ∉ F'):Rel K dl be ((v,t)::hs) H σ q F:=
 (r.d,r.g,r.n,r.z,r.o,λp hp=>by
  obtain e|hp:=kC.mp hp
  ·subst e;exact(F',hv,hf)
  exact r.h p hp,r.f,r.l)
def Rel.down(r:Rel K dl be hs H σ q F)(hi:q[i]?=Z (.o t)):Rel K dl be hs H σ (q.set i (.r t)) F:=by
 refine(r.d,λj x u h1 h2=>?_,λj x h1 h2=>?_,λj P=>r.z j (by rw[Ye]at P;exact P),λj u h1=>?_,λp hp=>?_,r.f,by simp[r.l])
 ·obtain⟨rfl,rfl,_⟩|⟨ne,h1⟩:=get_set h1
  ·cases h2;exact r.g j _ t hi U
  exact r.g j x u h1 h2
 ·obtain⟨rfl,rfl,_⟩|⟨ne,h1⟩:=get_set h1
  ·cases h2
  exact r.n j x h1 h2
 ·obtain⟨rfl,e,_⟩|⟨ne,h1⟩:=get_set h1
  ·cases e
  exact r.o j u h1
 let(Fp,h1,h2):=r.h p hp;refine(Fp,h1,λj u P=>?_);obtain⟨rfl,e,_⟩|⟨ne,P⟩:=get_set P
 ·cases e
 exact h2 j u P
def Rel.write{o:HO}(r:Rel K dl be hs H σ q F)(hi:q[i]?=Z (.o t))(hv:σ[i]?=Z (Z v))(hp:p∈F i)(ho:∀xs,H p=Z (.lst xs)->∃ys,o=.lst ys)(hr:Rp K dl (upd H p o) v t' F')(hn:F'.Nodup)
  (hf:∀b∈F',b∈F i\/(be b=Y/\(∀j,b ∉ F j)/\∀w u Fp,Rp K dl H w u Fp->(w,u)∈hs->b ∉ Fp)):Rel K dl be hs (upd H p o) σ (q.set i (.o t')) (Ga F i F'):=by
 let(o1,o2,o3):=r.o i t hi;have ar:=(jm.mp hi).1;let(v',ak,rp):=r.g i _ t hi U;have pn:=rp.n p hp;have Q:=r.iO hp;have tf:TF H (upd H p o):=(λa vs h=>(by rw[au];exact h;intro z;subst z;let(_,e,m):=Q;rw[h]at e;cases e;cases m),λa ob u h=>(by rw[au];exact h;intro z;subst z;let(_,e,m):=Q;rw[h]at e;cases e;cases m),λa φ h=>(by rw[au];exact h;intro z;subst z;let(_,e,m):=Q;rw[h]at e;cases e;cases m),λa xs h=>(by
  by_cases z:a=p
  ·subst z;let(ys,e):=ho xs h;exact(ys,by rw[aA,e])
  exact(xs,by rw[au z];exact h)),λa x h=>(x,DG _,by
  rw[au];exact h;intro z;subst z;let(_,e,m):=Q;rw[h]at e;cases e;cases m))
 have st:∀{w:V}{u:T}{Fw:Θ},Rp K dl H w u Fw->p ∉ Fw->Rp K dl (upd H p o) w u Fw:=λ{w u Fw} h np =>
  (h.r.d5 tf (λ_ z=>z) λb P ob e=>(by
   have ne:b≠p:=by intro z;subst z;exact np P
   rw[au ne];exact e),h.n)
 refine(λd hd=>(r.d d hd).other (pn d hd).1 (pn d hd).2,λj x u h1 h2=>?_,λj x h1 h2=>?_,λj hj=>?_,λj u h1=>?_,λw hw=>?_,(λb ob P nb nr=>?_,λb x P=>?_),by simp[r.l])
 ·obtain⟨rfl,rfl,_⟩|⟨ne,h1⟩:=get_set h1
  ·cases h2;exact(v,hv,by rw[bR];exact hr)
  let(w,h3,h4):=r.g j x u h1 h2;exact(w,h3,by rw[bu ne];exact st h4 (o3 j ne p hp))
 ·obtain⟨rfl,rfl,_⟩|⟨ne,h1⟩:=get_set h1
  ·cases h2
  rw[bu ne];exact r.n j x h1 h2
 ·rw[Ye]at hj;rw[bu ap];exact r.z j hj
 ·obtain⟨rfl,e,_⟩|⟨ne,h1⟩:=get_set h1
  ·rw[bR];refine(hn,λb P=>?_,λk hk b P=>?_)
   ·obtain z|z:=hf b P
    ·exact o2 b z
    exact z.1
   rw[bu hk];obtain z|z:=hf b P
   ·exact o3 k hk b z
   exact z.2.1 k
  rw[bu ne];let(p1,p2,p3):=r.o j u h1;refine(p1,p2,λk hk b P=>?_);by_cases ek:k=i
  ·subst ek;rw[bR];intro z;obtain z|z:=hf b z
   ·exact o3 j ne b z P
   exact z.2.1 j P
  rw[bu ek];exact p3 k hk b P
 ·let(Fp,h1,h2):=r.h w hw;refine(Fp,st h1 (h2 i t hi p hp),λj u hj b P z=>?_);obtain⟨rfl,e,_⟩|⟨ne,hj⟩:=get_set hj
  ·rw[bR]at P;obtain y|y:=hf b P
   ·exact h2 j t hi b y z
   exact y.2.2 w.1 w.2 Fp h1 hw z
  rw[bu ne]at P;exact h2 j u hj b P z
 ·rw[au]
  ·exact r.f.k b ob P nb nr
  intro z;subst z;rw[o2 b hp]at P;cases P
 let(y,hy,e):=r.f.r b x P;refine(y,hy,?_);rw[au]
 ·exact e
 intro z;subst z;rw[o2 b hp]at P;cases P
end
structure Uz(K:BT)(dl:Dl)(be:Hp)(hs:List (V×T))(Dq:dZ)(D:Ends):Prop where
 nx:∀H σ q,kr K dl be hs H σ q->Dq.nx q->D.nx σ H
 bk:∀H σ q,kr K dl be hs H σ q->Dq.bk q->D.bk σ H
 ct:∀H σ q,kr K dl be hs H σ q->Dq.ct q->D.ct σ H
 rt:∀v t F H,Dls dl H->Rp K dl H v t F->(∀b∈F,be b=Y)->F.Nodup->Frm dl be H->Dq.rt t->D.rt v H
 ru:∀H σ q F0 v t F,Rel K dl be hs H σ q F0->Rp K dl H v t F->(∀b∈F,be b=Y)->F.Nodup->(∀j,∀b∈F,b ∉ F0 j)->Dq.ru q t->D.rt v H
def lj(K:BT)(ts:TS)(qs:QS):Prop:=∀(dl:Dl)(be:Hp)(hs:List (V×T))(H:Hp)(σ:St)(q:Sq)(Dq:dZ)(D:Ends),kr K dl be hs H σ q->qs Dq q->Uz K dl be hs Dq D->ts D σ H
structure QPS(X:Cx)(K:BT)(st:EQ)(ts:TS)(qs:QS):Prop where
 h:PS X st ts
 s:lj K ts qs
structure wy(X:Cx)(K:BT)(st:List EQ)(ts:TS)(qs:QS):Prop where
 h:PSs X st ts
 s:lj K ts qs
variable{q:Sq}{pos':Pos}
section
variable{X:Cx}{K:BT}{st:EQ}{rest sa sb:List EQ}{t u:TS}{qt qu:QS}{e c:Ev}{te:TE}{qe:QE}{tc:TT}{qc:QT}{pos:Pos}
def t7:QS:=λD q=>D.nx q
def dZ.seq(D:dZ)(u:QS):dZ:={D with nx:=u D}
def jD(t u:QS):QS:=λD q=>t (D.seq u) q
def aF:wy X K [] P7 t7:=(Em,λ_ _ _ H σ q _ _ r hq E=>E.nx H σ q r hq)
def ag(h1:QPS X K st t qt)(h2:wy X K rest u qu):wy X K (st::rest) (UO t u) (jD qt qu):=(bQ h1.h h2.h,λdl be hs H σ q Dq D r hq E =>
h1.s dl be hs H σ q _ _ r hq (λH σ q z g=>h2.s dl be hs H σ q _ _ z g E,E.bk,E.ct,E.rt,E.ru))
def ai(h1:QPS X K st t qt):wy X K [st] t qt:=(gJ h1.h,h1.s)
def zY:QPS X K st Ij (λ_ _=>False):=(JX,λ_ _ _ _ _ _ _ _ _ hq _=>hq.elim)
def aE(he:QPF X K e te qe):QPS X K (.Return (Z e) pos) (Rl te) (λD q=>qe q D.rt):=(t9 he.h,λdl be hs H σ q Dq D (F,r) hq E =>
he.s dl H σ q _ _ r.rd hq λv t F' H' g z f1 P Q=>E.rt v t F' H' g.d z (λb V=>r.fz (f1 b V)) P (r.evo g).f Q)
def dm(he:PE X e (cp i)):QPS X K (.Return (Z e) pos) (Rl (cp i)) (λD q=>match q[i]? with|some (.o t)=>D.rt t|_=>False):=(t9 he,λdl be hs H σ q Dq D (F,r) hq E=>by
 split at hq
 ·rename_i t z;let(v,hv,P):=r.g i _ t z U;let(o1,o2,Q):=r.o i t z;exact(v,hv,E.rt v t (F i) H r.d P o2 o1 r.f hq)
 exact hq.elim)
def Ac(c:QT)(t u:QS):QS:=λD q=>c q λb=>if b=O then t D q else u D q
def aR(z:QPT X K c tc qc)(Q:wy X K sa t qt)(P:wy X K sb u qu):QPS X K (.If c sa sb pos) (UQ tc t u) (Ac qc qt qu):=(Qi z.h Q.h P.h,λdl be hs H σ q Dq D (F,r) hq E =>
z.s dl H σ q _ _ r.rd hq λb H' V g=>by
  cases b with
  |true=>exact Q.s dl be hs H' σ q Dq D (F,r.evo V) g E
  |false=>exact P.s dl be hs H' σ q Dq D (F,r.evo V) g E)
def iw(i:Nat)(qe:QE):QS:=λD q=>qe q λt=>D.nx (q.set i (.o t))
def Rel.Gs{hs:List (V×T)}{σ:St}{F:Nat->Θ}{i:Nat}{v:V}{t:T}(r:Rel K dl be hs H σ q F)(e:Evo dl H H')(hv:Rp K dl H' v t F')(hf:∀b∈F',H b=Y)(hn:F'.Nodup):kr K dl be hs H' (σ.set i (Z v)) (q.set i (.o t)):=by
 by_cases hi:i<q.length
 ·exact(_,r.put hi e hv hf hn)
 have hl:=r.l;rw[Zz ap,Zz ap];exact(F,r.evo e)
def D9{i:Nat}(he:lr K te qe):lj K (iQ te (fP i)) (iw i qe):=λdl be hs H σ q Dq D (F,r) hq E=>he dl H σ q _ _ r.rd hq λv t F' H' Q g f1 z P=>E.nx H' _ _ (r.Gs Q g f1 z) P
def RN(g:X.N.Nodup)(hi:X.N[i]?=Z x)(hx:Loc X.env.scope x)(he:QPF X K e te qe)(hs:‹swapsWith e (Z (.Name x pos')) pos.line X.env=pure false›)(hf:AT X x:=by first|exact .inl rfl|exact .inr rfl|assumption):
  QPS X K (.Assign [.Name x pos'] e pos) (iQ te (fP i)) (iw i qe):=(jX g hi hx he.h hs hf,D9 he.s)
inductive WK(tb:QS)(D:dZ)(W:Nat->Sq->Prop)(m:Nat)(q:Sq):Prop
 |mk(N:Sq->Prop)(less:∀q',N q'->∃m',m'<m/\W m' q')(body:tb (D.lp N) q)
inductive WhileI(c:QT)(tb:QS)(D:dZ)(q:Sq):Prop
 |mk (W:Nat->Sq->Prop) (h0:∃m,W m q) (turn:∀m q,W m q->c q λb=>if b=O then WK tb D W m q else D.nx q)
def RU(c:QT)(tb:QS):QS:=λD q=>WhileI c tb D q
def tY(hp:PassesOwn (model X.prog X.w) X.A X.env X.xe)(P:QPT X K c tc qc)(Q:wy X K rest t qt):QPS X K (.While c rest [] pos) (B7 tc t) (RU qc qt):=(Af hp P.h Q.h,λdl be hs H σ q Dq D r hq E=>by
 let(W,(m0,w0),turn):=hq;refine(λm σ H=>∃q,kr K dl be hs H σ q/\W m q,(m0,q,r,w0),?_);rintro m σ H ⟨q,⟨F,r⟩,w⟩;refine P.s dl H σ q _ _ r.rd (turn m q w) λb H1 V z=>?_;cases b with
 |false=>exact E.nx H1 σ q (F,r.evo V) z|true =>
  let(N,hN,z):=z;refine(λg H'=>∃q',kr K dl be hs H' g q'/\N q',λg H' (q',r',n')=>?_,?_)
  ·let(m',hm,w'):=hN q' n';exact(m',hm,q',r',w')
  exact Q.s dl be hs H1 σ q _ _ (F,r.evo V) z (λH σ q r n=>(q,r,n),λH σ q r n=>E.nx H σ q r n,λH σ q r n=>(q,r,n),E.rt,E.ru))
end
abbrev PSp:=ϓ->(T->Prop)->Prop
inductive spQ(K:BT)(ps:PSp)(vs:Ω)(H:Hp)(Q:VK)(_:XK):Prop
 |mk(dl:Dl)(ts:ϓ)(F:Θ)(Qp:T->Prop)(h1:Dls dl H)(h2:Rps K dl H vs ts F)(h3:ps ts Qp)(h4:∀v t F' H',Evo dl H H'->Rp K dl H' v t F'->(∀b∈F',H b=Y)->F'.Nodup->Qp t->Q v H')
section
variable{X:Cx}{K:BT}{e:Ev}{es:List Ev}{tl:TA}{ql:QA}{pos p:Pos}{k:Nat}{f:J}{fd:Ch}{prs:Γ}{ps:PSp}
def cH(ps:PSp)(ql:QA):QE:=λq Q=>ql q λts=>ps ts Q
def IM(ha:PR K n tl ql):lr K (DX (spQ K ps) [] E0 tl) (cH ps ql):=λdl H σ q Q R rd hq k=>ha dl H σ q _ _ rd hq λvs ts F H1 z P _ g=>by
 rw[qp];exact(dl,ts,F,Q,z.d,P,g,λv t F' H' e r f n g=>k v t F' H' (z.trans e) r (λb V=>z.free (f b V)) n g)
theorem NL(F:bg X.prog X.w X.K X.mg X.base CX0 k f fd prs (spQ K ps))(hr:e7 k X.A)(hg:Gl X x)(hm:X.mg x=Z (.ref f))(hk:W.keepIn X.K (.ref f)=O)(P:Binds X.K fd prs [])(z:QPA X K (e::es) tl ql)
  (q:autoParam (AS x) zdc._auto_1) (he:‹AC X e es›) (g:‹AM X pos es›):
  QPF X K (.Call (.Name x p) (e::es) [] pos) (DX (spQ K ps) [] E0 tl) (cH ps ql):=(Er F hr hg hm hk P .nil Km z.h q he g,IM z.s)
end
theorem wI{K:BT}(D:Dls dl H)(r:Rps K dl H vs ts F)(hn:vs.length<=n):kr K dl H [] H (vs.map Z++rG (n-vs.length) Y) (ts.map Sl.r++rG (n-vs.length) .no):=by
 have hl:=r.r.len;have main:∀{vs:Ω}{ts:ϓ}{F:Θ},aC K dl H vs ts F->(∀b∈F,Nd dl b)->∃g:Nat->Θ,(∀i t,ts[i]?=Z t->∃v,vs[i]?=Z v/\Rp K dl H v t (g i))/\∀i,ts.length<=i->g i=[]:=by
  intro vs ts F h;induction ts generalizing vs F with
  |nil=>intro _;exact(λ_=>[],λi t e=>by simp at e,λ_ _=>rfl)
  |cons t ts ih =>
   cases h with
   |@cons v0 _ ak _ F1 G1 h1 h2 =>
    intro hn;let(g,g1,g2):=ih h2 λb P=>hn b (pq _ P);refine(λi=>match i with | 0=>F1|i+1=>g i,λi u e=>?_,λi hi=>?_)
    ·cases i with|zero =>simp at e;subst e;exact(_,ad,h1,λb P=>hn b (qh _ P))|succ i =>let(v,q,Q):=g1 i u (e:);exact(v,(q:),Q)
    cases i with|zero=>simp at hi|succ i=>exact g2 i (hi:)
 let(g,g1,g2):=main r.r r.n;have lk:∀i y,(ts.map Sl.r++rG (n-vs.length) Sl.no)[i]?=Z y->(∃t,ts[i]?=Z t/\y=.r t)\/(ts.length<=i/\y=.no):=λi y h=>by
  by_cases hi:i<ts.length
  ·rw[u6 (hi:),fN,dQ hi]at h;exact .inl (ts[i],ad,(Option.some.inj h).symm)
  rw[vr (hi:),Y4]at h;split at h
  ·exact .inr (ap,(Option.some.inj h).symm)
  cases h
 refine(g,D,λi y t h1 h2=>?_,λi y h1 h2=>?_,λi hi=>?_,λi t h1=>?_,λp hp=>(by cases hp),.refl,by simp[hl])
 ·obtain⟨u,e,rfl⟩|⟨_,rfl⟩:=lk i y h1
  ·cases h2;let(v,q,Q):=g1 i t e;refine(v,?_,Q);have hi:=(jm.mp q).1;rw[u6 (hi:),fN,q];rfl
  cases h2
 ·obtain⟨u,e,rfl⟩|⟨hi,rfl⟩:=lk i y h1
  ·cases h2
  exact g2 i hi
 ·refine g2 i ?_;simp at hi;lia
 obtain⟨u,e,z⟩|⟨_,z⟩:=lk i _ h1 <;> cases z
variable{P:Da}{mg:Υ}{base:Do}{qual:Str}{st:EQ}{fd:Ch}{N:Γ}{ps:Γ}
theorem Fun.okQ{K:BT}(F:Fun K x qual st f fd)(S:aH N ps (ax st))
  (uO:∀(cdv:B)(A:Db)(outer:List Env)(s:ϋ)(H:Hp)(E:XK),e7 k (A.deeper (envOfC qual (ax st) s.heap.objs.size f cdv)) ->
∃t qs,wy (zb CX0 P w K mg base N qual (ax st) f cdv A outer s H E).nox K (cy st) t qs/\∀ts Q,g ts Q->qs (.fn Q) (ts.map Sl.r++rG (N.length-ts.length) .no))(len:∀ts Q,g ts Q->ts.length=ps.length:=by intro _ _ h;cases h;subst_vars;rfl):bg P w K mg base CX0 (k+1) f fd ps (spQ K g):=by
 have ak:=by have:=congrArg HH S.pre;rw[qr]at this;omega
 refine F.ok S (λvs H Q E h=>?_) (λcdv A outer s H vs Q E hr h=>?_)
 ·let(dl,ts,F,Qp,_,r,h,_):=h;rw[r.r.len];exact len ts Qp h
 let(dl,ts,Fp,Qp,D,r,h,fin):=h;let(t,qs,hb,hq):=uO cdv A outer s H E hr;refine(t,hb.h,?_);have hlen:=len ts Qp h;have hl:=r.r.len;have z:=hq ts Qp h;have R:=wI (n:=N.length) D r ap;rw[<- hl]at z;refine hb.s dl H [] H _ _ _ _ R z (λH' σ q (F,r') V=>?_,λ_ _ _ _ V=>V.elim,λ_ _ _ _ V=>V.elim,λv t F H' D' r' f' n' fr V=>?_,λ_ _ _ _ _ _ _ _ _ _ _ _ z=>z.elim)
 ·exact fin .non .n [] H' (r'.f.evo r'.d) (.n,cc) cc lu V
 exact fin v t F H' (fr.evo D') r' f' n' V
structure rE(K:BT)(dl:Dl)(Ϗ:It)(xs:ϓ)(hv:List (V×T)):Prop where
 go:∀(H:Hp)(i:Nat),Dls dl H->(∀p∈hv,∃F,Rp K dl H p.1 p.2 F)->i<xs.length->Ϗ.go i H
 yld:∀(H:Hp)(i:Nat)(x:T)(fp:V×T->Θ)(v:V)(H':Hp),Dls dl H->(∀p∈hv,Rp K dl H p.1 p.2 (fp p))->xs[i]?=Z x->Ϗ.yld i H v H'->Evo dl H H'/\∃F,Rp K dl H' v x F/\∀b∈F,H b=Y\/∃p∈hv,b∈fp p
 stop:∀(H:Hp),Dls dl H->(∀p∈hv,∃F,Rp K dl H p.1 p.2 F)->Ϗ.stop xs.length H
variable{lo:Int}
section
variable{X:Cx}{K:BT}
def nI:rE K dl (Itl K a) xs [(.ref a,.l xs)] where
 go:=λH i D h hi=>by
  let(F,r):=h _ (fy.mpr U);let(p,vs,G,e,_,h1,h2):=r.r.lst;cases e;exact(vs,vs[i]'(by rw[h2.len];exact hi),SqL.of h1,by simp[hi])
 yld:=λH i x fp v H' D h hx y=>by
  have r:=h _ (fy.mpr U);let(p,vs,G,e,Q,h1,h2):=r.r.lst;cases e;let(U,y):=y;let(w,P,hw,q,hs):=h2.get hx;have z:=y vs (SqL.of h1);rw[hw]at z;cases z;have sub:∀b∈P,b∈fp (V.ref a,T.l xs):=λb g=>by
   rw[Q];exact j5 _ (hs b g)
  exact(.refl D,P,(q,λb g=>r.n b (sub b g)),λb g=>.inr (_,fy.mpr U,sub b g))
 stop:=λH D h=>by
  let(F,r):=h _ (fy.mpr U);let(p,vs,G,e,_,h1,h2):=r.r.lst;cases e;exact(vs,SqL.of h1,by rw[h2.len];exact kB _)
def Qu:rE K dl (Itl K a) xs [(.ref a,.zl xs)] where
 go:=λH i D h hi=>by
  let(F,r):=h _ (fy.mpr U);let(p,o,vs,e,_,h1,h2):=r.r.zls;cases e;exact(vs,vs[i]'(by rw[h2.len];exact hi),.inl (.inr (o,h1)),by simp[hi])
 yld:=λH i x fp v H' D h hx y=>by
  have r:=h _ (fy.mpr U);let(p,o,vs,e,Q,h1,h2):=r.r.zls;cases e;let(U,y):=y;let(w,P,hw,g,hs):=h2.get hx;have z:=y vs (.inl (.inr (o,h1)));rw[hw]at z;cases z;exact(.refl D,P,(g,λb q=>nomatch hs b q),λb q=>nomatch hs b q)
 stop:=λH D h=>by
  let(F,r):=h _ (fy.mpr U);let(p,o,vs,e,_,h1,h2):=r.r.zls;cases e;exact(vs,.inl (.inr (o,h1)),by rw[h2.len];exact kB _)
def C7{xs:ϓ}:rE K dl (Itt K a) xs [(.ref a,.t xs)] where
 go:=λH i D h hi=>by
  let(F,r):=h _ (fy.mpr U);let(p,vs,e,h1,h2):=r.r.tup;cases e;exact(vs,vs[i]'(by rw[h2.len];exact hi),SqT.of h1,by simp[hi])
 yld:=λH i x fp v H' D h hx y=>by
  have r:=h _ (fy.mpr U);let(p,vs,e,h1,h2):=r.r.tup;cases e;let(U,y):=y;let(w,P,hw,g,hs):=h2.get hx;have z:=y vs (SqT.of h1);rw[hw]at z;cases z;exact(.refl D,P,(g,λb q=>r.n b (hs b q)),λb q=>.inr (_,fy.mpr U,hs b q))
 stop:=λH D h=>by
  let(F,r):=h _ (fy.mpr U);let(p,vs,e,h1,h2):=r.r.tup;cases e;exact(vs,SqT.of h1,by rw[h2.len];exact kB _)
def Lf:rE K dl (Itr lo n) ((Fs n).map λi=>.i (lo+(i:Nat))) [] where
 go:=λH i D h hi=>by
  show i<n;simpa using hi
 yld:=λH i x fp v H' D h hx y=>by
  let(U,U):=y;rw[fN]at hx;cases e:(Fs n)[i]? with
  |none=>rw[e]at hx;cases hx
  |some j =>
   rw[e]at hx;have g:j=i:=by have:=jm.mp e;let(h1,h2):=this;simp at h2;exact h2.symm
   subst g;cases hx;exact(.refl D,[],.c (.i _),nofun)
 stop:=λH D h=>by show n<=_;simp
abbrev QI:=Sq->(ϓ->Prop)->Prop
def WM(K:BT)(wi:TI)(iq:QI):Prop:=∀(dl:Dl)(H:Hp)(σ:St)(q:Sq)(Q:ϓ->Prop)(R:It->Hp->Prop),RdR K dl H σ q->iq q Q ->
 (∀xs Ϗ hv H',Evo dl H H'->rE K dl Ϗ xs hv->(∀p∈hv,∃F,Rp K dl H' p.1 p.2 F)->Q xs->R Ϗ H')->wi σ H R
structure QPI(X:Cx)(K:BT)(tg iter:Ev)(wi:TI)(iq:QI):Prop where
 h:PI X tg iter wi
 s:WM K wi iq
abbrev QJ:=Sq->(ϓ->Sq->Prop)->Prop
def Ya(K:BT)(wi:TI)(iq:QJ):Prop:=∀(dl:Dl)(be:Hp)(hs:List (V×T))(H:Hp)(σ:St)(q:Sq)(Q:ϓ->Sq->Prop)(R:It->Hp->Prop),kr K dl be hs H σ q->iq q Q ->
 (∀xs Ϗ hv H' q',kr K dl be (hv++hs) H' σ q'->rE K dl Ϗ xs hv->Q xs q'->R Ϗ H')->wi σ H R
structure QPJ(X:Cx)(K:BT)(tg iter:Ev)(wi:TI)(iq:QJ):Prop where
 h:PI X tg iter wi
 s:Ya K wi iq
variable{tg e a b:Ev}{te:TE}{qe:QE}{tl:TA}{ql:QA}{pos p:Pos}
def nh(g:X.K=K)(h:PE X e te):PI X tg e (wZ K te):=by subst g;exact rX h
def yq(g:X.K=K)(h:PE X e te):PI X tg e (Lk K te):=by subst g;exact SE h
def asL(qe:QE):QI:=λq Q=>qe q λt=>match t with|.l xs=>Q xs|.zl xs=>Q xs|_=>False
def asT(qe:QE):QI:=λq Q=>qe q λt=>match t with|.t xs=>Q xs|_=>False
def fU(h:QPE X K e te qe)(P:‹X.K=K›):QPI X K tg e (wZ K te) (asL qe):=(nh P h.h,λdl H σ q Q R rd hq k=>h.s dl H σ q _ _ rd hq λv t F H' z r g=>by
 split at g
 ·let(p,vs,G,U,U,h1,h2):=r.r.lst;exact(p,U,(vs,SqL.of h1),k _ _ _ H' z nI (λp hp=>by rw[fy.mp hp];exact(_,r)) g)
 ·let(p,o,vs,U,U,h1,h2):=r.r.zls;exact(p,U,(vs,.inl (.inr (o,h1))),k _ _ _ H' z Qu (λp hp=>by rw[fy.mp hp];exact(_,r)) g)
 exact g.elim)
def dM(h:QPE X K e te qe)(z:‹X.K=K›):QPI X K tg e (Lk K te) (asT qe):=(yq z h.h,λdl H σ q Q R rd hq k=>h.s dl H σ q _ _ rd hq λv t F H' P r g=>by
 split at g
 ·let(p,vs,U,h1,h2):=r.r.tup;exact(p,U,(vs,SqT.of h1),k _ _ _ H' P C7 (λp hp=>by rw[fy.mp hp];exact(_,r)) g)
 exact g.elim)
def Gh(lo:Int)(n:Nat):ϓ:=(Fs n).map λi=>.i (lo+(i:Nat))
def jS{x:T}(h:(Gh lo n)[i]?=Z x):x=.i (lo+(i:Nat))/\i<n:=by unfold Gh at h;rw[fN]at h;let(j,g,U):=gV.mp h;let(h1,h2):=jm.mp g;simp at h1 h2;subst h2;exact(U,h1)
def eh:(Gh lo n).length=n:=by simp[Gh]
def WC(ql:QA):QI:=λq Q=>ql q λts=>on1 ts λt=>match t with|.i n=>-(2 ^ 62)<=n/\n<2 ^ 62/\Q (Gh 0 n.toNat)|_=>False
def pj(hg:Gl X "range")(hm:X.mg "range"=Y)(P:QPA X K [a] tl ql)(hs:‹AD X a›):QPI X K tg (.Call (.Name "range" p) [a] [] pos) (Ll tl) (WC ql):=(wL hg hm P.h hs,λdl H σ q Q R rd hq k=>P.s dl H σ q _ _ rd hq λvs ts F H' e1 r _ g=>by
 replace g:=on1.inv g;let(t,U,g):=g;split at g
 ·let(v,U,V):=r.one;let(U,_):=V.r.int;exact(_,U,g.1,g.2.1,k _ _ [] H' e1 Lf cc g.2.2)
 exact g.elim)
def asJ(iq:QI):QJ:=λq Q=>iq q λxs=>Q xs q
def gc(hg:Gl X "range")(hm:X.mg "range"=Y)(P:QPA X K [a] tl ql)(hs:‹AD X a›):QPJ X K tg (.Call (.Name "range" p) [a] [] pos) (Ll tl) (asJ (WC ql)):=(wL hg hm P.h hs,λdl be hs H σ q Q R (F0,z) hq k=>P.s dl H σ q _ _ z.rd hq λvs ts F H' e1 r _ g=>by
 replace g:=on1.inv g;let(t,U,g):=g;split at g
 ·let(v,U,V):=r.one;let(U,_):=V.r.int;exact(_,U,g.1,g.2.1,k _ _ [] H' q (F0,z.evo e1) Lf g.2.2)
 exact g.elim)
def yc(h:QPF X K e te qe)(hK:‹X.K=K›):QPJ X K tg e (wZ K te) (asJ (asL qe)):=(nh hK h.h,λdl be hs H σ q Q R (F0,g) hq k=>h.s dl H σ q _ _ g.rd hq λv t F H' e1 r f n P=>by
 split at P
 ·have V:=(g.evo e1).hold r λj u hj b hb z=>(g.iO hb).no (f b z);let(p,vs,G,U,U,h1,h2):=r.r.lst;exact(p,U,(vs,SqL.of h1),k _ _ _ H' q (F0,V) nI P)
 ·have V:=(g.evo e1).hold r λj u hj b hb z=>(g.iO hb).no (f b z);let(p,o,vs,U,U,h1,h2):=r.r.zls;exact(p,U,(vs,.inl (.inr (o,h1))),k _ _ _ H' q (F0,V) Qu P)
 exact P.elim)
def fh(h:QPF X K e te qe)(hK:‹X.K=K›):QPJ X K tg e (Lk K te) (asJ (asT qe)):=(yq hK h.h,λdl be hs H σ q Q R (F0,g) hq k=>h.s dl H σ q _ _ g.rd hq λv t F H' e1 r f n P=>by
 split at P
 ·have V:=(g.evo e1).hold r λj u hj b hb z=>(g.iO hb).no (f b z);let(p,vs,U,h1,h2):=r.r.tup;exact(p,U,(vs,SqT.of h1),k _ _ _ H' q (F0,V) C7 P)
 exact P.elim)
def asN(i:Nat):QJ:=λq Q=>match q[i]? with|some (.o (.l xs))=>Q xs (q.set i (.r (.l xs)))|some (.r (.l xs))=>Q xs q|_=>False
def Ef{i:Nat}(h:PE X e (cp i))(hK:‹X.K=K›):QPJ X K tg e (wZ K (cp i)) (asN i):=(nh hK h,λdl be hs H σ q Q R (F0,V) hq k=>by
 unfold asN at hq;split at hq
 ·rename_i xs e1;let(v,hv,r):=V.g i _ _ e1 U;have r1:=(V.down e1).hold r λj u P b hb=>by
   obtain⟨_,z,_⟩|⟨ne,P⟩:=get_set P
   ·cases z
   exact(V.o j u P).2.2 i (λz=>ne z.symm) b hb
  let(p,vs,G,U,_,h1,h2):=r.r.lst;exact(_,hv,p,U,(vs,SqL.of h1),k _ _ _ H _ (F0,r1) nI hq)
 ·rename_i xs e1;let(v,hv,r):=V.g i _ _ e1 U;have r1:=V.hold r λj u P b hb=>(V.o j u P).2.2 i (λz=>by subst z;rw[e1]at P;cases P) b hb;let(p,vs,G,U,_,h1,h2):=r.r.lst;exact(_,hv,p,U,(vs,SqL.of h1),k _ _ _ H _ (F0,r1) nI hq)
 exact hq.elim)
inductive Tg where
 |nm(i:Nat)|tp (is:List Nat)
def vT(q:Sq):List Nat->ϓ->Option Sq
 |[],[]=>Z q|i::is,x::xs=>if i<q.length then vT (q.set i (.r x)) is xs else Y|_,_=>Y
def Tg.put(g:Tg)(x:T)(q:Sq):Option Sq:=match g with|.nm i=>if i<q.length then Z (q.set i (.r x))else Y|.tp is=>match x with|.t xs=>vT q is xs|_=>Y
def yS:List Nat->TGs
 |[]=>TY|i::is=>ES (fP i) (yS is)
def Tg.h(K:BT):Tg->TG
 |.nm i=>fP i|.tp is=>Ph K is.length (yS is)
def Gj{hs:List (V×T)}{is:List Nat}:∀{vs:Ω}{xs:ϓ}{G:Θ}{σ:St}{q q':Sq}{F:Nat->Θ}{R:St->Hp->Prop},Rel K dl be hs H σ q F->aC K dl H vs xs G->(∀b∈G,Nd dl b) ->
  (∀(j:Nat)(u:T),q[j]?=Z (.o u)->∀b∈F j,b ∉ G)->vT q is xs=Z q'->(∀P,kr K dl be hs H P q'->R P H)->yS is vs σ H R:=by
 induction is with
 |nil =>
  intro vs xs G σ q q' F R r rs _ _ hp k;cases xs with
  |cons _ _=>cases hp
  |nil =>
   cases rs;cases hp;exact(U,k σ (F,r))
 |cons i is ih =>
  intro vs xs G σ q q' F R r rs hn ho hp k;cases xs with
  |nil=>cases hp
  |cons x xs =>
   cases rs with
   |cons r1 r2 =>
    unfold vT at hp;by_cases hi:i<q.length
    ·rw[if_pos hi]at hp;refine(_,_,U,?_);have r':=r.Sg hi (r1,λb g=>hn b (qh _ g)) λj u Q _ b g z=>ho j u Q b g (qh _ z);refine ih r' r2 (λb g=>hn b (pq _ g)) (λj u Q b g z=>?_) hp k;obtain⟨_,z',_⟩|⟨ne,Q⟩:=get_set Q
     ·cases z'
     rw[bu ne]at g;exact ho j u Q b g (pq _ z)
    rw[if_neg hi]at hp;cases hp
variable{g:Tg}
def Cu{hs:List (V×T)}{v:V}{x:T}{σ:St}{q':Sq}{F:Nat->Θ}{R:St->Hp->Prop}(r:Rel K dl be hs H σ q F)(P:Rp K dl H v x G)
  (ho:∀(j:Nat)(u:T),q[j]?=Z (.o u)->∀b∈F j,b ∉ G) (hp:g.put x q=Z q') (k:∀z,kr K dl be hs H z q'->R z H):g.h K v σ H R:=by
 cases g with
 |nm i =>
  replace hp:(if i<q.length then Z (q.set i (.r x))else Y)=Z q':=hp;by_cases hi:i<q.length
  ·rw[if_pos hi]at hp;cases hp;exact k _ (_,r.Sg hi P λj u hj _=>ho j u hj)
  rw[if_neg hi]at hp;cases hp
 |tp is =>
  cases x with
  |t xs =>
   let(p,vs,U,h1,h2):=P.r.tup;have hl:∀{is:List Nat}{xs:ϓ}{q q':Sq},vT q is xs=Z q'->xs.length=is.length:=λ{is}=>by
    induction is with
    |nil=>intro xs q q' h;cases xs with|nil=>rfl|cons _ _=>cases h
    |cons i is Q=>intro xs q q' h;cases xs with
     |nil=>cases h
     |cons x xs =>
      unfold vT at h;by_cases hi:i<q.length
      ·rw[if_pos hi]at h;simp[Q h]
      rw[if_neg hi]at h;cases h
   exact(p,vs,U,SqT.of h1,by rw[h2.len];exact hl hp,Gj r h2 P.n ho hp k)
  |_=>cases hp
end
variable{tg:Ev}{iter:Ev}{body:List EQ}{g:Tg}{cap:List (Option Nat)}{iq:QI}{tst:TT}{kZ:QT}{te:TE}{qe:QE}{N':Γ}{sc:Scope}{elt:Ev}{ifs:List Ev}
section
variable{X:Cx}{K:BT}{hs:List (V×T)}{σ:St}{F:Nat->Θ}
def Rel.xB(r:Rel K dl be (hv++hs) H σ q F):Rel K dl be hs H σ q F:=(r.d,r.g,r.n,r.z,r.o,λp hp=>r.h p (pq _ hp),r.f,r.l)
def Rel.fps(r:Rel K dl be (hv++hs) H σ q F):∃fp:V×T->Θ,∀p∈hv,Rp K dl H p.1 p.2 (fp p)/\∀(i:Nat)(t:T),q[i]?=Z (.o t)->∀b∈F i,b ∉ fp p:=by
 classical
 refine(λp=>if h:p∈hv then(r.h p (qh _ h)).choose else [],λp hp=>?_);have z:=(r.h p (qh _ hp)).choose_spec;simp only[dif_pos hp];exact z
inductive Yd(g:Tg)(qb:QS)(D:dZ)(xs:ϓ)(q0:Sq):Prop
 |mk(I:Nat->Sq->Prop)(h0:I 0 q0)(step:∀i x q,xs[i]?=Z x->I i q->∃q',g.put x q=Z q'/\qb (D.lp (I (i+1))) q')(fin:∀q,I xs.length q->D.nx q)
def W4(iq:QJ)(g:Tg)(qb:QS):QS:=λD q=>iq q λxs q0=>Yd g qb D xs q0
def bc{iq:QJ}(hp:PassesOwn (model X.prog X.w) X.A X.env X.xe)(hc:X.calm=O)(hi:QPJ X K tg iter wi iq)(hg:PG X tg (g.h K))(hb:wy X K body tb qb)
  (hs:∀x,foldedSetIterable iter X.env x=pure x:=by intro _;rfl):QPS X K (.For tg iter body [] pos) (UR wi (g.h K) tb) (W4 iq g qb):=(JY hp hc hi.h hg hb.h hs,λdl be hs H σ q Dq D r hq E=>by
 refine hi.s dl be hs H σ q _ _ r hq λxs Ϗ hv H1 q1 r1 it hz=>?_;let(I,i0,turn,fin):=hz;refine(λi m σ H=>m=xs.length-i/\i<=xs.length/\∃q,kr K dl be (hv++hs) H σ q/\I i q,(xs.length,ad,zt _,q1,r1,i0),?_);rintro i m σ H ⟨rfl,av,q,⟨F,r⟩,hI⟩;have held:∀p∈hv,∃F,Rp K dl H p.1 p.2 F:=λp hp=>let(Fp,h,_):=r.h p (qh _ hp);(Fp,h);by_cases P:i<xs.length
 ·refine .inr (it.go H i r.d held P,λQ H'=>∃q,kr K dl be (hv++hs) H' Q q/\I (i+1) q,λQ H' h=>(xs.length-(i+1),ap,U,P,h),λv H' y=>?_);let(fp,V):=r.fps;have hx:xs[i]?=Z xs[i]:=by simp[P]
  let(e1,G,rx,hG):=it.yld H i xs[i] fp v H' r.d (λp hp=>(V p hp).1) hx y;let(q',ar,hz):=turn i xs[i] q hx hI;refine Cu (r.evo e1) rx (λj u hj b hb z=>?_) ar λak r2=>hb.s dl be (hv++hs) H' ak q' _ _ r2 hz (λH σ q r n=>(q,r,n),λH σ q (F,r) n=>E.nx H σ q (F,r.xB) n,λH σ q r n=>(q,r,n),E.rt,λH σ q F0 v t F r=>E.ru H σ q F0 v t F r.xB);obtain h |⟨p,hp,h⟩:=hG b z
  ·exact(r.iO hb).no h
  exact(V p hp).2 j u hj b hb h
 have e:i=xs.length:=ap;subst e;exact .inl (it.stop H r.d held,E.nx H σ q (F,r.xB) (fin q hI)))
def ko(cap:List (Option Nat))(q:Sq):Sq:=cap.map λo=>match o with|none=>.no|some i=>match q[i]? with|some (.o t)=>.r t|some (.r t)=>.r t|_=>.no
def Nw(r:RdR K dl H σ q):RdR K dl H (oh cap σ) (ko cap q):=(r.d,λj x t h1 h2=>by
 unfold ko at h1;rw[fN]at h1;cases e:cap[j]? with
 |none=>rw[e]at h1;cases h1
 |some o =>
  rw[e]at h1;cases o with
  |none=>cases h1;cases h2
  |some i =>
   have go:∀y,q[i]?=Z y->y.get=Z t->∃v F,(oh cap σ)[j]?=Z (Z v)/\Rp K dl H v t F:=λy z P=>by
    let(v,F,h3,h4):=r.g i y t z P;refine(v,F,?_,h4);unfold oh;rw[fN,e];show Z ((σ[i]?).join)=_;rw[h3];rfl
   replace h1:(match q[i]? with|some (.o t)=>Sl.r t|some (.r t)=>.r t|_=>.no)=x:=Option.some.inj h1;split at h1
   ·rename_i u eq;subst h1;cases h2;exact go _ eq U
   ·rename_i u eq;subst h1;cases h2;exact go _ eq U
   subst h1;cases h2)
theorem RdR.set{x:T}(r:RdR K dl H σ q)(hl:i < σ.length)(P:Rp K dl H v x G):RdR K dl H (σ.set i (Z v)) (q.set i (.r x)):=(r.d,λj y t h1 h2=>by
 obtain⟨rfl,rfl,_⟩|⟨ne,h1⟩:=get_set h1
 ·cases h2;exact(v,G,by rw[WO hl],P)
 let(w,F,h3,h4):=r.g j y t h1 h2;exact(w,F,by rw[Wb (λz=>ne z.symm)];exact h3,h4))
def RdR.any(r:RdR K dl H σ q)(hn:q[i]?=Z .no):RdR K dl H (σ.set i o) q:=(r.d,λj y t h1 h2=>by
 let(w,F,h3,h4):=r.g j y t h1 h2;refine(w,F,?_,h4);rw[Wb]
 ·exact h3
 intro z;subst z;rw[hn]at h1;cases h1;cases h2)
def Tg.ixs:Tg->List Nat
 |.nm i=>[i]|.tp is=>is
def Jf{is:List Nat}:∀{vs:Ω}{xs:ϓ}{G:Θ}{σ:St}{q q0 q':Sq}{R:St->Hp->Prop},RdR K dl H σ q->RdR K dl H σ q0->σ.length=q.length->aC K dl H vs xs G->(∀b∈G,Nd dl b)->(∀i∈is,q0[i]?=Z .no)->vT q is xs=Z q' ->
  (∀g,RdR K dl H g q'->RdR K dl H g q0->g.length=σ.length->R g H)->yS is vs σ H R:=by
 induction is with
 |nil =>
  intro vs xs G σ q q0 q' R r z _ rs _ _ hp k;cases xs with
  |cons _ _=>cases hp
  |nil =>
   cases rs;cases hp;exact(U,k σ r z U)
 |cons i is ih =>
  intro vs xs G σ q q0 q' R r z hl rs hn hf hp k;cases xs with
  |nil=>cases hp
  |cons x xs =>
   cases rs with
   |cons r1 Q =>
    unfold vT at hp;by_cases hi:i<q.length
    ·rw[if_pos hi]at hp;refine(_,_,U,(ih (r.set ap (r1,λb P=>hn b (qh _ P))) (z.any (hf i j0)) (by simp[hl]) Q (λb P=>hn b (pq _ P)) (λj hj=>hf j (j5 _ hj)) hp λg a b c=>k g a b (c:)))
    rw[if_neg hi]at hp;cases hp
theorem Ae:∀{is:List Nat}{xs:ϓ}{q q':Sq},vT q is xs=Z q'->xs.length=is.length
 |[],[],_,_,_=>rfl|[],_::_,_,_,h=>by cases h
 |_::_,[],_,_,h=>by cases h
 |i::is,x::xs,q,q',h=>by
  unfold vT at h;by_cases hi:i<q.length
  ·rw[if_pos hi]at h;simp[Ae h]
  rw[if_neg hi]at h;cases h
def UZ{x:T}{q':Sq}{R:St->Hp->Prop}(r:RdR K dl H σ q)(hl:σ.length=q.length)(P:Rp K dl H v x G)(hf:∀i∈g.ixs,q[i]?=Z .no)(hp:g.put x q=Z q')
  (k:∀z,RdR K dl H z q'->RdR K dl H z q->z.length=σ.length->R z H):g.h K v σ H R:=by
 cases g with
 |nm i =>
  replace hp:(if i<q.length then Z (q.set i (.r x))else Y)=Z q':=hp;by_cases hi:i<q.length
  ·rw[if_pos hi]at hp;cases hp;exact k _ (r.set ap P) (r.any (hf i (fy.mpr U))) ad
  rw[if_neg hi]at hp;cases hp
 |tp is =>cases x with|t xs =>let(p,vs,U,h1,h2):=P.r.tup;exact(p,vs,U,SqT.of h1,by rw[h2.len];exact Ae hp,Jf r r hl h2 P.n hf hp k)|_=>cases hp
def JI:QT:=λ_ Q=>Q O
def IB:mF K DU JI:=λdl H σ q Q R rd hq k=>k O H (.refl rd.d) hq
inductive CompI(cap:List (Option Nat))(g:Tg)(tst:QT)(qe:QE)(q:Sq)(Q:T->Prop)(xs:ϓ):Prop
 |mk (hl:xs.length<mu) (I:Nat->ϓ->Prop) (h0:I 0 []) (step:∀i x ys,xs[i]?=Z x->I i ys->∃q',g.put x (ko cap q)=Z q'/\tst q' λb=>if b=O then qe q' λy=>I (i+1) (ys++[y])else I (i+1) ys) (fin:∀ys,I xs.length ys->Q (.l ys))
def Ad(cap:List (Option Nat))(iq:QI)(g:Tg)(tst:QT)(qe:QE):QE:=λq Q=>iq q λxs=>CompI cap g tst qe q Q xs
theorem tD(hi:WM K wi iq)(ht:mF K tst kZ)(he:lr K te qe)(hf:(g.ixs.all λi=>cap[i]? == Z Y)=O):lr K (sU cap wi (g.h K) tst te) (Ad cap iq g kZ qe):=by
 intro dl H σ q Q R rd hq k;refine hi dl H σ q _ _ rd hq λxs Ϗ hv H1 e1 it held hz=>?_;let(hlen,I,i0,turn,fin):=hz;have a5:=Nw (cap:=cap) (rd.evo e1);have bh:∀i∈g.ixs,(ko cap q)[i]?=Z .no:=λi hi=>by
  have z:=PX.mp hf i hi;have z:=(z:);unfold ko;rw[fN,z];rfl
 have bD:(oh cap σ).length=(ko cap q).length:=by simp[oh,ko]
 refine(λi m vs av H'=>m=xs.length-i/\i<=xs.length/\∃ts F,Evo dl H1 H'/\RdR K dl H' av (ko cap q)/\av.length=(ko cap q).length/\(∀p∈hv,∃F,Rp K dl H' p.1 p.2 F)/\Rps K dl H' vs ts F/\(∀b∈F,H b=Y)/\F.Nodup/\vs.length<=i/\I i ts,
(xs.length,ad,zt _,[],[],.refl e1.d,a5,bD,held,(.nil,cc),cc,lu,kB _,i0),?_)
 rintro i m vs av H' ⟨rfl,cq,ts,F,e2,a4,bp,A0,rs,fr,nd,b0,hI⟩;by_cases ak:i<xs.length
 ·refine .inr (it.go H' i e2.d A0 ak,ap,λay ar H2=>∃ts F,Evo dl H1 H2/\RdR K dl H2 ar (ko cap q)/\ar.length=(ko cap q).length/\(∀p∈hv,∃F,Rp K dl H2 p.1 p.2 F)/\Rps K dl H2 ay ts F/\(∀b∈F,H b=Y)/\F.Nodup/\ay.length<=i+1/\I (i+1) ts,
λay ar H2 h=>(xs.length-(i+1),Nat.sub_succ_lt_self _ _ ak,U,ak,h),λv H2 y=>?_)
  have hx:xs[i]?=Z xs[i]:=by simp[ak]
  obtain⟨fp,bt⟩:∃fp:V×T->Θ,∀p∈hv,Rp K dl H' p.1 p.2 (fp p):=by
   classical
   refine(λp=>if h:p∈hv then(A0 p h).choose else [],λp hp=>?_);simp only[dif_pos hp];exact(A0 p hp).choose_spec
  let(e3,G,rx,hG):=it.yld H' i xs[i] fp v H2 e2.d bt hx y;let(q',a6,hz):=turn i xs[i] ts hx hI;have QN:∀{H3:Hp},Evo dl H' H3->∀p∈hv,∃F,Rp K dl H3 p.1 p.2 F:=λ{H3} e p hp=>let(F,r):=A0 p hp;(F,r.evo e2.d e);refine UZ (a4.evo e3) bp rx bh a6 λaP r3 aW l3=>(ht dl H2 aP q' _ _ r3 hz λb H4 e4 hz=>?_);cases b with
  |false=>exact(ts,F,(e2.trans e3).trans e4,aW.evo e4,ap,QN (e3.trans e4),(rs.evo e2.d e3).evo e3.d e4,fr,nd,ap,hz)|true =>
   refine he dl H4 aP q' _ _ (r3.evo e4) hz λw t G' H5 e5 aQ f5 n5 hz=>?_;have E:=(e2.trans e3).trans (e4.trans e5);have a0:=((rs.evo e2.d e3).evo e3.d (e4.trans e5));refine(ts++[t],F++(G'++[]),E,aW.evo (e4.trans e5),ap,QN (e3.trans (e4.trans e5)),(a0.r.append (.cons aQ.r .nil),λb P=>?_),λb P=>?_,?_,by simp;lia,hz)
   ·obtain P|P:=jn.mp P
    ·exact rs.n b P
    rw[qp]at P;exact aQ.n b P
   ·obtain P|P:=jn.mp P
    ·exact fr b P
    rw[qp]at P;exact((e1.trans e2).trans (e3.trans e4)).free (f5 b P)
   rw[qp];refine vw.mpr (nd,n5,λx hx y hy bT=>?_);subst bT;have a3:=(rs.evo e2.d e3).evo e3.d e4;exact gY.no (a3.r.there x hx) (f5 x hy)
 have e:i=xs.length:=ap;subst e;refine .inl (it.stop H' e2.d A0,ap,λD hD=>?_);exact k _ _ _ _ ((e1.trans e2).new hD) (rs.lst e2.d hD) (λb P=>by
  obtain e|P:=kC.mp P
  ·rw[e];exact(e1.trans e2).free hD
  exact fr b P) (rs.fresh hD nd) (fin ts hI)
structure QB(X:Cx)(K:BT)(N':Γ)(sc:Scope)(tg:Ev)(g:Tg)(ifs:List Ev)(tst:TT)(kZ:QT)(elt:Ev)(te:TE)(qe:QE):Prop where
 b:∀cl C s₂ H₂ fp,PG (blk X N' sc cl C s₂ H₂ fp) tg (g.h K)/\PTs (blk X N' sc cl C s₂ H₂ fp) ifs tst/\PE (blk X N' sc cl C s₂ H₂ fp) elt te
 t:mF K tst kZ
 e:lr K te qe
def bA(h:∀cl C s₂ H₂ fp,PG (blk X N' sc cl C s₂ H₂ fp) tg (g.h K)/\QPF (blk X N' sc cl C s₂ H₂ fp) K elt te qe):QB X K N' sc tg g [] DU JI elt te qe:=
 (λcl C s₂ H₂ fp=>((h cl C s₂ H₂ fp).1,El,(h cl C s₂ H₂ fp).2.h),IB,(h [] 0 X.s₀ (λ_=>Y) []).2.s)
def yh(h:∀cl C s₂ H₂ fp,PG (blk X N' sc cl C s₂ H₂ fp) tg (g.h K)/\QPT (blk X N' sc cl C s₂ H₂ fp) K c tst kZ/\QPF (blk X N' sc cl C s₂ H₂ fp) K elt te qe):QB X K N' sc tg g [c] tst kZ elt te qe:=
 (λcl C s₂ H₂ fp=>((h cl C s₂ H₂ fp).1,Ek (h cl C s₂ H₂ fp).2.1.h,(h cl C s₂ H₂ fp).2.2.h),(h [] 0 X.s₀ (λ_=>Y) []).2.1.s,(h [] 0 X.s₀ (λ_=>Y) []).2.2.s)
def bI{pos:Pos}(P:X.calm=O)(hi:QPI X K tg iter wi iq)(z:mO X sc N' cap)(q:QB X K N' sc tg g ifs tst kZ elt te qe)
  (hf:‹(g.ixs.all λi=>cap[i]? == Z Y)=true›)
  (Q:‹sc.kind=.function›) (fF:autoParam (∀y∈sc.names,y.2 ≠ .cell) zdc._auto_1) (V:autoParam (∀y∈sc.names,y.2=.local->sc.names.lookup y.1=Z .local) zdc._auto_1)
  (gN:‹(sc.names.all λy=>y.2 != .free ||(X.env.kindOf y.1==Z .cell||X.env.kindOf y.1==Z .free))=true›)
  (hs:∀x,foldedSetIterable iter X.env x=pure x:=by intro _;rfl):QPF X K (.ListComp elt [(tg,iter,ifs,0)] sc pos) (sU cap wi (g.h K) tst te) (Ad cap iq g kZ qe):=
 (Ep P hi.h z q.b Q fF V gN hs,tD hi.s q.t q.e hf)
def dF{pos d6 py:Pos}(hN:X.N.Nodup)(z:X.N[i]?=Z y)(hy:Loc X.env.scope y)
  (hc:X.calm=O) (hi:QPI X K tg iter wi iq) (V:mO X sc N' cap) (Q:QB X K N' sc tg g ifs tst kZ elt te qe)
  (P:‹(g.ixs.all λi=>cap[i]? == Z Y)=true›)
  (q:‹swapsWith (.ListComp elt [(tg,iter,ifs,0)] sc pos) (Z (.Name y py)) d6.line X.env=pure true›)
  (hf:AT X y:=by first|exact .inl rfl|exact .inr rfl|assumption)
  (gv:‹sc.kind=.function›) (fF:autoParam (∀y∈sc.names,y.2 ≠ .cell) zdc._auto_1) (gu:autoParam (∀y∈sc.names,y.2=.local->sc.names.lookup y.1=Z .local) zdc._auto_1)
  (gN:‹(sc.names.all λy=>y.2 != .free ||(X.env.kindOf y.1==Z .cell||X.env.kindOf y.1==Z .free))=true›)
  (hs:∀x,foldedSetIterable iter X.env x=pure x:=by intro _;rfl):QPS X K (.Assign [.Name y py] (.ListComp elt [(tg,iter,ifs,0)] sc pos) d6) (iQ (sU cap wi (g.h K) tst te) (fP i)) (iw i (Ad cap iq g kZ qe)):=
 (ym hN z hy hc hi.h V Q.b q hf gv fF gu gN hs,D9 (tD hi.s Q.t Q.e P))
end
section
variable{X:Cx}{K:BT}{hs:List (V×T)}{σ:St}{F:Nat->Θ}{e o:Ev}{apos aY:Pos}
def zip_inj{ns:Γ}:∀{vs us:Ω},vs.length=ns.length->us.length=ns.length->ns.zip vs=ns.zip us->vs=us:=by
 induction ns with
 |nil=>intro vs us h1 h2 _;rw[vq.mp h1,vq.mp h2]
 |cons n r q =>
  intro vs us h1 h2 e;cases vs with
  |nil=>cases h1
  |cons v vs=>cases us with
   |nil=>cases h2
   |cons u us =>
    injection e with g z
    injection g with _ g
    rw[g,q (Nat.succ.inj h1) (Nat.succ.inj h2) z]
def aM.uniq{v:V}{t:T}{F:Θ}(h:aM K dl H v t F):∀{F':Θ},aM K dl H v t F'->F=F':=
 aM.rec (motive_1:=λv t F _=>∀{F'},aM K dl H v t F'->F=F') (motive_2:=λv t F _=>∀{F'},aC K dl H v t F'->F=F') (motive_3:=λv t F _=>∀{F'},a9 K dl H v t F'->F=F')
  (λh=>(h.im U).symm) (λ_ _ h=>(h.im U).symm) (λ_ _ h=>(h.im U).symm) (λ_ _ h=>(h.im U).symm) (λ_ _ h=>(h.im U).symm)
  (λh1 _ g _ h=>by let(a,vs,e,h2,r):=h.tup;cases e;rw[h1]at h2;cases h2;exact g r)
  (λh1 _ g _ h=>by let(a,vs,G,e,U,h2,r):=h.lst;cases e;rw[h1]at h2;cases h2;rw[g r])
  (λh1 _ g _ h=>by let(a,vs,G,e,U,h2,r):=h.dic;cases e;rw[h1]at h2;cases h2;rw[g r])
  (λ_ _ h=>(h.im U).symm) (λ_ _ h=>(h.im U).symm) (λ_ _ h=>(h.im U).symm) (λ_ _ _ _ h=>(h.im U).symm) (λ_ _ h=>(h.im U).symm) (λ_ _ _ _ h=>(h.im U).symm)
  (λ_ _ _ h=>(h.im U).symm) (λ_ _ _ _ h=>(h.im U).symm) (λh1 _ g _ h=>by let(vs,G,e,U,h2,r):=h.dpp;rw[h1]at h2;cases h2;rw[g r]) (λh1 _ g _ h=>by let(vs,G,e,U,h2,r):=h.lpp;rw[h1]at h2;cases h2;rw[g r]) (λ_ _ _ _ h=>(h.im U).symm) (λ_ _ h=>(h.im U).symm) (λh1 _ h4 hr g _ h=>by
   let(dx,vs,G,e,U,h2,_,h3,r):=h.omm;rw[h1]at h2;injection h2 with h2
   injection h2 with _ Q P
   subst Q;have z:=zip_inj (hr.len.trans h4.symm) (r.len.trans h3.symm) P;subst z;rw[g r]) (λ_ _ h=>(h.im U).symm)
  (λh=>by cases h;rfl) (λ_ _ i1 i2 _ h=>by cases h with|cons h2 q=>rw[i1 h2,i2 q])
  (λh=>by cases h;rfl) (λ_ _ i1 i2 _ h=>by cases h with|cons h2 q=>rw[i1 h2,i2 q]) h
def Rel.Pb(r:Rel K dl be hs H σ q F)(e:Evo dl H H'){p:V×T}(hp:p∈hs){Fp:Θ}(h:Rp K dl H' p.1 p.2 Fp){b:J}(g:H b=Y):b ∉ Fp:=λz=>by
 let(Q,h1,_):=r.h p hp;have P:=(h1.evo r.d e).r.uniq h.r;subst P;exact gY.no (h1.r.there b z) g
def Rel.x6{ws:Ω}(r:Rel K dl be hs H σ q F)(hi:q[i]?=Z (.o (.l xs)))(hv:σ[i]?=Z (Z (.ref p)))(Q:F i=p::G)(e:Evo dl H H')
  (rs:aC K dl H' ws ys G') (hn:G'.Nodup) (hG:∀b∈G',b∈G\/(H b=Y/\Nd dl b)):kr K dl be hs (upd H' p (.lst ws)) σ (q.set i (.o (.l ys))):=by
 have r':=r.evo e;let(o1,o2,o3):=r.o i _ hi;let(v',aQ,rp):=r'.g i _ _ hi U;let(p2,aP,G2,e2,eF,h1,h2):=rp.r.lst;rw[Q]at eF;cases eF;rw[Q]at o1;have pG:=(vp.mp o1).1;have ay:=r.iO (by rw[Q];exact j0);have ak:p ∉ G':=λz=>by
  obtain z|z:=hG p z
  ·exact pG z
  exact ay.no z.1
 have pn:=rp.n p (by rw[Q];exact j0);have tf:TF H' (upd H' p (.lst ws)):=(λa us h=>(by rw[au];exact h;intro z;subst z;rw[h]at h1;cases h1),λa ob u h=>(by rw[au];exact h;intro z;subst z;rw[h]at h1;cases h1),λa φ h=>(by rw[au];exact h;intro z;subst z;rw[h]at h1;cases h1),λa ar h=>(by
  by_cases z:a=p
  ·subst z;exact(_,aA)
  exact(ar,by rw[au z];exact h)),λa x h=>(x,DG _,by
  rw[au];exact h;intro z;subst z;rw[h]at h1;cases h1))
 have av:=rs.d5 tf (λ_ z=>z) λb P ob eb=>by
  have ne:b≠p:=by intro z;subst z;exact ak P
  rw[au ne];exact eb
 refine(_,r'.write hi hv (by rw[Q];exact j0) (λ_ _=>(_,U)) (.l aA av,λb P=>?_) (vp.mpr (ak,hn)) λb P=>?_)
 ·obtain z|P:=kC.mp P
  ·rw[z];exact pn
  obtain z|z:=hG b P
  ·exact rp.n b (by rw[Q];exact j5 _ z)
  exact z.2
 obtain z|P:=kC.mp P
 ·rw[z,Q];exact .inl j0
 obtain z|z:=hG b P
 ·rw[Q];exact .inl (j5 _ z)
 exact .inr (r.fz z.1,λj hj=>(r.iO hj).no z.1,λw u Fp h1 h2=>r.Pb e h2 h1 z.1)
def yk(i:Nat)(qe:QE):QS:=λD q=>match q[i]? with|some (.o (.l xs))=>xs.length<mu/\qe q λt=>D.nx (q.set i (.o (.l (xs++[t]))))|_=>False
abbrev At(X:Cx)(p:Pos)(e:List Ev):Prop:=((backTo p (mJ e X.env)).all (λx=>!x.1)&&(backToKw p (keywordEach [] X.env)).all (λx=>x.1.isSome)&&decide (e.length+([]:List Keyword).length+(if([]:List Keyword).isEmpty then 0 else 1)<30))=true
def CU(q:X.K=K)(ho:PE X o (cp i))(he:PE X e te)(P:‹attributeBase o "append" X.env (eval o X.env)=eval o X.env›)
  (g:‹At X aY [e]›)
  (Q:‹(apos.endLine==aY.line)=true›) (hs:‹AC X e []›) (z:‹(backTo aY (mJ [] X.env)).any (·.1)=false›):
  PE X (.Call (.Attribute o "append" apos) [e] [] aY) (tBM K "list" rP (cp i) (dy te iP)):=by
 subst q;exact Et PySem.F.plainAttrs_list PySem.F.slot_list_append PySem.F.type_list_append GU ho (cn he eB hs) P g Q hs z
def Ce(he:lr K te qe):lj K (sT (tBM K "list" rP (cp i) (dy te iP))) (yk i qe):=λdl be hs H σ q Dq D (F,r) hq E=>by
 unfold yk at hq;split at hq
 ·rename_i xs ei;let(hz,hq):=hq;let(v,hv,rp):=r.g i _ _ ei U;let(o1,o2,o3):=r.o i _ ei;let(p,vs,G,U,Q,h1,h2):=rp.r.lst;refine(_,hv,.inl (U,vs,SqL.of h1),he dl H σ q _ _ r.rd hq λw t F' H' V r1 f1 n1 ar=>?_);have pn:=rp.n p (by rw[Q];exact j0);refine(p,vs,w,U,U,V.k p _ h1 pn nofun,by rw[h2.len];exact hz,?_);have hG:=λb P=>rp.n b (by rw[Q];exact j5 _ P);have ak:=h2.d5 (V.tf r.d) (λ_ z=>z) λb P o eo=>V.k b o eo (hG b P) (.of (h2.there b P) eo);refine E.nx _ σ _ (r.x6 ei hv Q V (ak.append (.cons r1.r .nil)) ?_ λb P=>?_) ar
  ·rw[qp];rw[Q]at o1;refine vw.mpr ((vp.mp o1).2,n1,λx hx y hy av=>?_);subst av;exact gY.no (h2.there x hx) (f1 x hy)
  obtain P|P:=jn.mp P
  ·exact .inl P
  rw[qp]at P;exact .inr (f1 b P,r1.n b P)
 exact hq.elim
def bq{d6:Pos}(ho:PE X o (cp i))(he:QPF X K e te qe)(z:‹X.K=K›)(Q:‹attributeBase o "append" X.env (eval o X.env)=eval o X.env›)
  (q:‹At X aY [e]›)
  (V:‹(apos.endLine==aY.line)=true›) (hs:‹AC X e []›) (P:‹(backTo aY (mJ [] X.env)).any (·.1)=false›)
  (g:‹swapsWith (.Call (.Attribute o "append" apos) [e] [] aY) Y d6.line X.env=pure false›):
  QPS X K (.Expr (.Call (.Attribute o "append" apos) [e] [] aY) d6) (sT (tBM K "list" rP (cp i) (dy te iP))) (yk i qe):=(yl (CU z ho he.h Q q V hs P) g,Ce he.s)
def yj(i:Nat)(qe:QE):QS:=λD q=>match q[i]? with
 |some (.o (.l xs))=>qe q λt=>match t with|.l ys=>xs.length+ys.length<=mu/\D.nx (q.set i (.o (.l (xs++ys))))|_=>False
 |_=>False
def CT(q:X.K=K){i:Nat}(ho:PE X o (cp i))(he:PE X e te)(P:‹attributeBase o "extend" X.env (eval o X.env)=eval o X.env›)
  (g:‹At X aY [e]›)
  (Q:‹(apos.endLine==aY.line)=true›) (hs:‹AC X e []›) (z:‹(backTo aY (mJ [] X.env)).any (·.1)=false›):
  PE X (.Call (.Attribute o "extend" apos) [e] [] aY) (tBM K "list" rO (cp i) (dy te iP)):=by
 subst q;exact Et PySem.F.plainAttrs_list PySem.F.slot_list_extend PySem.F.type_list_extend GS ho (cn he eB hs) P g Q hs z
def Cd{i:Nat}(he:lr K te qe):lj K (sT (tBM K "list" rO (cp i) (dy te iP))) (yj i qe):=λdl be hs H σ q Dq D (F,r) hq E=>by
 unfold yj at hq;split at hq
 ·rename_i xs ei;let(v,hv,rp):=r.g i _ _ ei U;let(o1,o2,o3):=r.o i _ ei;let(p,vs,G,U,V,h1,h2):=rp.r.lst;refine(_,hv,.inl (U,vs,SqL.of h1),he dl H σ q _ _ r.rd hq λw t F' H' e1 r1 f1 n1 Q=>?_);split at Q
  ·let(p2,ws,G2,U,U,h3,h4):=r1.r.lst;have pn:=rp.n p (by rw[V];exact j0);refine(p,p2,vs,ws,U,U,e1.k p _ h1 pn nofun,h3,by rw[h2.len,h4.len];exact Q.1,?_);have hG:=λb P=>rp.n b (by rw[V];exact j5 _ P);have ak:=h2.d5 (e1.tf r.d) (λ_ z=>z) λb P o eo=>e1.k b o eo (hG b P) (.of (h2.there b P) eo);refine E.nx _ σ _ (r.x6 ei hv V e1 (ak.append h4) ?_ λb P=>?_) Q.2
   ·rw[V]at o1;refine vw.mpr ((vp.mp o1).2,(vp.mp n1).2,λx hx y hy ar=>?_);subst ar;exact gY.no (h2.there x hx) (f1 x (j5 _ hy))
   obtain P|P:=jn.mp P
   ·exact .inl P
   exact .inr (f1 b (j5 _ P),r1.n b (j5 _ P))
  exact Q.elim
 exact hq.elim
def cT{d6:Pos}(ho:PE X o (cp i))(he:QPF X K e te qe)(z:‹X.K=K›)(Q:‹attributeBase o "extend" X.env (eval o X.env)=eval o X.env›)
  (q:‹At X aY [e]›)
  (V:‹(apos.endLine==aY.line)=true›) (hs:‹AC X e []›) (P:‹(backTo aY (mJ [] X.env)).any (·.1)=false›)
  (g:‹swapsWith (.Call (.Attribute o "extend" apos) [e] [] aY) Y d6.line X.env=pure false›):
  QPS X K (.Expr (.Call (.Attribute o "extend" apos) [e] [] aY) d6) (sT (tBM K "list" rO (cp i) (dy te iP))) (yj i qe):=(yl (CT z ho he.h Q q V hs P) g,Cd he.s)
end
variable{td:TE}{tx:TE}{qd:QE}{qo:QE}{to:TE}
section
variable{X:Cx}{K:BT}{hs:List (V×T)}{σ:St}{F:Nat->Θ}{a b e o c:Ev}{ta tb tk tv:TE}{qa qb qk qv:QE}{pos apos aY:Pos}
def aC.last{ts:ϓ}{x:T}{vs:Ω}{F:Θ}(h:aC K dl H vs (ts++[x]) F):∃us w q g,vs=us++[w]/\aC K dl H us ts q/\aM K dl H w x g/\F=q++g:=by
 induction ts generalizing vs F with
 |nil =>
  cases h with
  |cons h1 h2 =>
   cases h2;exact([],_,[],_,U,.nil,h1,ad)
 |cons t ts Q =>cases h with|cons h1 h2 =>let(us,w,q,g,U,P,z,U):=Q h2;exact(_::us,w,_,g,U,.cons h1 P,z,by rw[vt])
def RZ(i j:Nat):QS:=λD q=>match q[i]? with|some (.o (.l xs))=>∃ys x,xs=ys++[x]/\T.ims xs=O/\i≠j/\D.nx ((q.set i (.o (.l ys))).set j (.o x))|_=>False
def C8{xs ys:ϓ}:T.ims (xs++ys)=(T.ims xs&&T.ims ys):=by induction xs with|nil=>rfl|cons x r g=>show(x.im&&T.ims (r++ys))=((x.im&&T.ims r)&&T.ims ys);rw[g,Bool.and_assoc]
def M9:lj K (iQ (Rr K "list" RJ (cp i)) (fP j)) (RZ i j):=λdl be hs H σ q Dq D (F,r) hq E=>by
 unfold RZ at hq;split at hq
 ·rename_i xs ei;let(ys,x,U,P,ar,hq):=hq;let(v,hv,rp):=r.g i _ _ ei U;let(p,vs,G,U,eF,h1,h2):=rp.r.lst;let(us,w,F1,F2,U,r1,r2,U):=h2.last;rw[C8,uj]at P;obtain rfl:=r1.im P.1;have hx:=by have:=P.2;simpa [T.ims]using this
  obtain rfl:=r2.im hx;refine(_,hv,.inl (U,_,SqL.of h1),p,_,w,U,U,h1,ad,?_);rw[ZS];let(F3,V):=r.x6 ei hv eF (.refl r.d) r1 lu nofun;have tf:=by
   have tf:TF H (upd H p (.lst us)):=(λa ak h=>(by rw[au];exact h;intro z;subst z;rw[h]at h1;cases h1),λa ob u h=>(by rw[au];exact h;intro z;subst z;rw[h]at h1;cases h1),λa φ h=>(by rw[au];exact h;intro z;subst z;rw[h]at h1;cases h1),λa Q h=>(by
    by_cases z:a=p
    ·subst z;exact(_,aA)
    exact(Q,by rw[au z];exact h)),λa x h=>(x,DG _,by
    rw[au];exact h;intro z;subst z;rw[h]at h1;cases h1))
   exact r2.d5 tf (λ_ z=>z) nofun
  exact E.nx _ _ _ (V.Gs (.refl V.d) (.c tf) nofun lu) hq
 exact hq.elim
def Cz{i:Nat}(g:X.N.Nodup)(hi:X.N[j]?=Z x)(hx:Loc X.env.scope x)(ho:PE X o (cp i))(q:‹X.K=K›)(z:‹attributeBase o "pop" X.env (eval o X.env)=eval o X.env›)(P:‹(apos.endLine==aY.line)=true›)
  (hs:‹swapsWith (.Call (.Attribute o "pop" apos) [] [] aY) (Z (.Name x pos')) pos.line X.env=pure false›) (hf:AT X x:=by first|exact .inl rfl|exact .inr rfl|assumption):
  QPS X K (.Assign [.Name x pos'] (.Call (.Attribute o "pop" apos) [] [] aY) pos) (iQ (Rr K "list" RJ (cp i)) (fP j)) (RZ i j):=
 (by subst q;exact jX g hi hx (Kl PySem.F.plainAttrs_list PySem.F.slot_list_pop PySem.F.type_list_pop KP ho z P) hs hf,M9)
def JH(g:Tg)(qe:QE):QS:=λD q=>qe q λt=>t.im=O/\Ex2 (λq'=>g.put t q=Z q') D.nx
def M6(he:jE K te qe):lj K (iQ te (g.h K)) (JH g qe):=λdl be hs H σ q Dq D (F,r) hq E=>he dl H σ q _ _ r.rd hq λv t F' H' e1 V (Q,q',P,hz)=>by
 obtain rfl:=V.r.im Q;exact Cu (r.evo e1) V (λ_ _ _ _ _ z=>nomatch z) P λak r'=>E.nx _ _ _ r' hz
def l5(he:QPE X K e te qe)(hg:PG X tg (g.h K))(hs:‹swapsWithSole [tg] e pos.line X.env=pure false›)(hw:‹swappedStores [tg] e X.env=pure none›)
  (h1:‹(assignEach [tg] X.env).map (·.2)=[assign tg X.env]›):QPS X K (.Assign [tg] e pos) (iQ te (g.h K)) (JH g qe):=(yn he.h hg hs hw h1,M6 he.s)
def Vg(i j:Nat)(qa qb:QE):QS:=λD q=>qa q λt=>t.im=O/\qb q λu=>u.im=O/\D.nx ((q.set i (.o t)).set j (.o u))
def Na{i:Nat}(ha:jE K ta qa)(hb:jE K tb qb):lj K (Rm i j (dy ta (dy tb iP))) (Vg i j qa qb):=λdl be hs H σ q Dq D (F,r) hq E=>by
 refine ha dl H σ q _ _ r.rd hq λv t F1 H1 P V (m1,hq)=>hb dl H1 σ q _ _ (r.rd.evo P) hq λw u F2 H2 e2 Q g=>?_;let(m2,hq):=g;obtain rfl:=V.r.im m1;obtain rfl:=Q.r.im m2;refine(v,w,U,?_);let(F1,R1):=r.Gs (P.trans e2) (V.evo P.d e2) nofun lu;exact E.nx _ _ _ (R1.Gs (.refl R1.d) Q nofun lu) hq
def T.key:T->Option Key
 |.i x=>Z (.inl x)|.s x=>Z (.inr x)|_=>Y
theorem aM.key{v:V}{t:T}{F:Θ}{k:Key}(h:aM K dl H v t F)(e:t.key=Z k):v=kV k:=by cases h <;> first|(cases e;rfl)|cases e
def bH(ks:ϔ)(k:Key):Option T:=(ks.find? λp=>decide (p.1=k)).map (·.2)
def ix(ks:ϔ)(k:Key)(t:T):ϔ:=if(ks.any λp=>decide (p.1=k))=O then ks.map (λp=>if p.1=k then(p.1,t)else p)else ks++[(k,t)]
def a9.look{F:Θ}(k:Key)(h:a9 K dl H vs ts F):(bH ts k=Y/\bV vs k=Y)\/∃t v G,bH ts k=Z t/\bV vs k=Z v/\aM K dl H v t G/\∀b∈G,b∈F:=
 h.ind (.inl (U,U)) λk0 v x vs ts F G h r q=>by
  by_cases e:k0=k
  ·subst e;exact .inr (_,_,_,by simp[bH],by simp[bV],h,λb g=>qh _ g)
  obtain⟨h1,h2⟩|⟨t,v,G,h1,h2,h3,h4⟩:=q
  ·refine .inl (?_,?_)
   ·unfold bH at h1 ⊢;rw[zr,decide_eq_false e];exact h1
   unfold bV at h2 ⊢;rw[zr,decide_eq_false e];exact h2
  refine .inr (t,v,G,?_,?_,h3,λb g=>pq _ (h4 b g))
  ·unfold bH at h1 ⊢;rw[zr,decide_eq_false e];exact h1
  unfold bV at h2 ⊢;rw[zr,decide_eq_false e];exact h2
mutual
def T.imk:ϔ->Bool
 |[]=>O| (_,x)::r=>x.im&&T.imk r
end
theorem a9.im{F:Θ}(h:a9 K dl H vs ts F):T.imk ts=O->F=[]:=h.ind (λ_=>rfl) (λ_ _ _ _ _ _ _ h _ g=>uH h.im g)
def a9.keys{F:Θ}(h:a9 K dl H vs ts F)(k:Key):(vs.any λp=>decide (p.1=k))=ts.any λp=>decide (p.1=k):=
 h.ind U λ_ _ _ _ _ _ _ _ _ g=>by rw[YI,YI,g]
def a9.put(hw:aM K dl H w t []):∀{vs:ϐ}{ts:ϔ},a9 K dl H vs ts []->a9 K dl H (putK vs k w) (ix ts k t) []:=by
 have mp:∀{vs:ϐ}{ts:ϔ}{F:Θ},a9 K dl H vs ts F->F=[]->a9 K dl H (vs.map λp=>if p.1=k then(p.1,w)else p) (ts.map λp=>if p.1=k then(p.1,t)else p) []:=by
  intro vs ts F h;induction ts generalizing vs F with
  |nil=>intro _;cases h;exact .nil
  |cons p ts q =>
   cases h with
   |@cons k0 v x vs _ F1 F2 h1 h2 =>
    intro e;let(Q,P):=DE.mp e;subst Q P;have z:=q h2 U;rw[ro,ro];by_cases g:k0=k
    ·rw[if_pos g,if_pos g];exact .cons hw z
    rw[if_neg g,if_neg g];exact .cons h1 z
 have sn:∀{vs:ϐ}{ts:ϔ}{F:Θ},a9 K dl H vs ts F->a9 K dl H (vs++[(k,w)]) (ts++[(k,t)]) F:=by
  intro vs ts F h;induction ts generalizing vs F with
  |nil=>cases h;exact .cons hw .nil
  |cons p ts q =>cases h with|cons h1 h2=>exact .cons h1 (q h2)
 intro vs ts h;unfold putK ix;rw[h.keys k];split
 ·exact mp h U
 exact sn h
def Rel.Je{i:Nat}{p:J}{ws:ϐ}{xs ys:ϔ}(r:Rel K dl be hs H σ q F)(hi:q[i]?=Z (.o (.d xs)))(hv:σ[i]?=Z (Z (.ref p)))(e:Evo dl H H')
  (rs:a9 K dl H' ws ys []):kr K dl be hs (upd H' p (.dK ws)) σ (q.set i (.o (.d ys))):=by
 have r':=r.evo e;let(v',Q,rp):=r'.g i _ _ hi U;rw[hv]at Q;cases Q;let(p2,ar,G2,e2,eF,h1,h2):=rp.r.dic;cases e2;have pn:=rp.n p (by rw[eF];exact j0);have tf:TF H' (upd H' p (.dK ws)):=(λa us h=>(by rw[au];exact h;intro z;subst z;rw[h]at h1;cases h1),λa ob u h=>(by rw[au];exact h;intro z;subst z;rw[h]at h1;cases h1),λa φ h=>(by rw[au];exact h;intro z;subst z;rw[h]at h1;cases h1),λa P h=>(by
  have ne:a≠p:=by intro z;subst z;rw[h]at h1;cases h1
  exact(P,by rw[au ne];exact h)),λa x h=>(x,DG _,by
  rw[au];exact h;intro z;subst z;rw[h]at h1;cases h1))
 have ak:=rs.d5 tf (λ_ z=>z) nofun;exact(_,r'.write hi hv (by rw[eF];exact j0) (λP h=>by rw[h1]at h;cases h) (.d aA ak,λb hb=>by rw[fy.mp hb];exact pn) ad λb hb=>by rw[fy.mp hb,eF];exact .inl j0)
def CC(i:Nat)(qk qv:QE):QS:=λD q=>match q[i]? with
 |some (.o (.d xs))=>qv q λt=>qk q λu=>match u.key with|some k=>xs.length<mu/\T.imk xs=O/\t.im=O/\D.nx (q.set i (.o (.d (ix xs k t))))|none=>False
 |_=>False
def M8{i:Nat}(hk:jE K tk qk)(hv:jE K tv qv):lj K (IY (cp i) tk tv) (CC i qk qv):=λdl be hs H σ q Dq D (F,r) hq E=>by
 unfold CC at hq;split at hq
 ·rename_i xs ei;refine hv dl H σ q _ _ r.rd hq λw t F1 H1 P r1 hq=>?_;let(v,z,rp):=(r.evo P).g i _ _ ei U;refine(v,z,hk dl H1 σ q _ _ (r.rd.evo P) hq λy u F2 H2 V r2 hq=>?_);split at hq
  ·rename_i k ek;let(hz,hm,ht,hq):=hq;obtain rfl:=r1.r.im ht;have Q:=rp.evo P.d V;let(p,vs,G,U,eF,h1,h2):=Q.r.dic;obtain rfl:=h2.im hm;rw[r2.r.key ek];exact(p,_,U,zC.k h1 (by rw[h2.len];exact hz),E.nx _ _ _ (r.Je ei z (P.trans V) (a9.put (r1.evo P.d V).r h2)) hq)
  exact hq.elim
 exact hq.elim
def jT(g:X.A.units+1<cLine)(ho:PE X o (cp i))(hk:QPE X K a tk qk)(hv:QPE X K b tv qv)(hs:‹swapsWith b (Z (.Subscript o a pos')) pos.line X.env=pure false›):
  QPS X K (.Assign [.Subscript o a pos'] b pos) (IY (cp i) tk tv) (CC i qk qv):=(rT g ho hk.h hv.h hs,M8 hk.s hv.s)
def rS:QPF X K (.Dict [] [] pos) Iq (qC (.d [])):=(Kk,λdl H σ q Q R rd hq k=>λp hp=>k _ _ [p] _ ((Evo.refl rd.d).new hp) (.d aA .nil,λb g=>by rw[fy.mp g];exact rd.d.nd0 hp) (λb g=>by rw[fy.mp g];exact hp) ad hq)
def Vq(neg:Bool):Q2:=λt u Q=>match u with
 |.d ks=>match t.key with|some k=>Q (.b (if neg then !(bH ks k).isSome else(bH ks k).isSome))|none=>False
 |_=>False
inductive Nz(neg:Bool)(y:V)(x:V)(H:Hp)(Q:VK):Prop
 |mk(a o:_)(h1:x=.ref a)(h2:gG H a y o)(h3:Q (.bl (if neg then !o.isSome else o.isSome)) H)
def uk(P:X.A.units+1<cLine):OpR X (compareOp .In) (Nz ϊ):=by intro gd s σ H y x u v Q I z K h;let(a,o,U,g,q):=h;cases K;exact XZ P I g z λs' V=>(.bl _,H,V,U,q)
def GJ(P:X.A.units+1<cLine):OpR X (compareOp .NotIn) (Nz O):=by intro gd s σ H y x u v Q I z K h;let(a,o,U,g,q):=h;cases K;exact Po P I g z λs' V=>(.bl _,H,V,U,q)
def Eb:dD K (Nz neg) (Vq neg):=by
 intro dl H x y t u F G Q R D V P hq k;unfold Vq at hq;split at hq
 ·split at hq
  ·rename_i k0 ek;let(p,vs,G,U,_,h1,h2):=P.r.dic;rw[V.r.key ek];refine(p,_,U,gG.k h1,k _ _ [] H (.refl D) (.c (.b _)) nofun lu ?_);have e:∀{ks:ϔ},a9 K dl H vs ks G->(bV vs k0).isSome=(bH ks k0).isSome:=λ{ks} h2=>by
    obtain⟨q,g⟩|⟨_,_,_,q,g,_⟩:=h2.look k0
    ·rw[q,g];rfl
    rw[q,g];rfl
   rw[e h2];exact hq
  exact hq.elim
 exact hq.elim
def R6:Q2:=λt u Q=>match t with
 |.d ks=>match u.key with|some k=>Ex2 (λx=>bH ks k=Z x) Q|none=>False
 |_=>qIx t u Q
inductive U8(x:V)(y:V)(H:Hp)(Q:VK):Prop
 |mk(a kvs k v:_)(h1:x=.ref a)(h2:y=kV k)(h3:H a=Z (.dK kvs))(h4:bV kvs k=Z v)(h5:Q v H)
def O5:IxR X U8:=by intro value slice gd s σ H x y v u Q I P K h hs;let(a,kvs,k,w,U,U,V,hv,q):=h;cases P;let(z,hd,vs,rel,dd):=gU I.hok (Rd.of V);let(w',hw,g):=ku.some_of (by rw[<- hv];exact rel.val k);exact subscriptTail_builtinR dd.typeIs PySem.F.slot_dict_getitem.lookup (wpAny_getItem_of (lG K) dd.mapOf hw (U,w,H,I.tok _,g,q)) hs
def RK(K:BT):R2:=λx y H Q=>rIx K x y H Q\/U8 x y H Q
def Xr(g:X.K=K):IxR X (RK K):=by subst g;exact C6.or O5
def Nh:HE K (RK K) R6:=by
 intro dl H x y t u F G Q R D P r2 hq k;unfold R6 at hq;split at hq
 ·split at hq
  ·rename_i k0 ek;let(z,g,hq):=hq;let(p,vs,G,U,eF,h1,h2):=P.r.dic;rw[r2.r.key ek];obtain⟨q,V⟩|⟨t,v,G',q,V,z3,z4⟩:=h2.look k0
   ·rw[q]at g;cases g
   rw[q]at g;cases g;exact .inr (p,vs,k0,v,U,U,h1,V,k v _ G' H (.refl D) (Rp.sub z3 P.n λb hb=>by rw[eF];exact j5 _ (z4 b hb)) hq)
  exact hq.elim
 exact .inl (II dl H x y t u F G Q R D P r2 hq k)
def yf(q:QPE X K a ta qa)(g:QPE X K b tb qb)(hs:kY b:=by intro _ _;rfl)(z:‹X.K=K›):QPE X K (.Subscript a b pos) (tOp (RK K) ta tb) (qOp R6 qa qb):=(wM (Xr z) q.h g.h hs,tj Nh q.s g.s)
def JM(qd qk qx:QE):QE:=λq Q=>qd q λd=>match d with
 |.d ks=>qk q λu=>match u.key with|some k=>qx q λx=>Q ((bH ks k).getD x)|none=>False
 |_=>False
def NK{d f:Ev}{qx:QE}(hu:X.A.units+1<cLine)(hd:QPE X K d td qd)(hk:QPE X K e tk qk)(hx:QPE X K f tx qx)(m:M2 X d "get" apos e f aY:=by exact(U,U,U,U)):QPE X K (.Call (.Attribute d "get" apos) [e,f] [] aY) (B9 td tk tx) (JM qd qk qx):=
 (Aq hu hd.h hk.h hx.h m,λdl H σ q Q R rd hq k=>hd.s dl H σ q _ _ rd hq λv t F H1 P r1 hq=>by
  split at hq
  ·let(p,vs,G,U,eF,h1,h2):=r1.r.dic;refine(p,U,.inl (vs,Rd.of h1),hk.s dl H1 σ q _ _ (rd.evo P) hq λy u F2 H2 g r2 hq=>?_);split at hq
   ·rename_i k0 ek;refine hx.s dl H2 σ q _ _ ((rd.evo P).evo g) hq λz w F3 H3 e3 r3 hq=>?_;have rp:=(r1.evo P.d g).evo g.d e3;let(p',ay,G',e',av,ar,ak):=rp.r.dic;cases e';rw[r2.r.key ek];refine(_,gG.k ar,?_);obtain⟨z1,V⟩|⟨t,v,G2,z1,V,z3,z4⟩:=ak.look k0
    ·rw[V];rw[z1]at hq;exact k _ _ F3 H3 ((P.trans g).trans e3) r3 hq
    rw[V];rw[z1]at hq;exact k _ _ G2 H3 ((P.trans g).trans e3) (Rp.sub z3 rp.n λb hb=>by rw[av];exact j5 _ (z4 b hb)) hq
   exact hq.elim
  exact hq.elim)
def X3:T->Option Str
 |.s x=>Z x|_=>Y
abbrev txs:ϓ->Option (Γ):=picks X3
theorem aC.txs{vs:Ω}{F:Θ}(h:aC K dl H vs ts F)(e:L2.txs ts=Z bs):vs=bs.map V.str:=
 h.picks (λv t F a h e=>by cases t <;> first|(cases e;exact h.str.1)|cases e) e
def MS(bs:Γ):txs (bs.map T.s)=Z bs:=by induction bs with|nil=>rfl|cons b r g=>show(txs (r.map T.s)).map (b :: ·)=_;rw[g];rfl
def Vk(qo qe:QE):QE:=λq Q=>qo q λs=>match s with
 |.s sep=>qe q λt=>match t with|.l xs=>Ex4 (λys=>txs xs=Z ys) (λys=>(ys.map (·.length)).sum+ys.length*sep.length<=16777216) (λys=>(.s (Txt.join sep ys))) Q|_=>False
 |_=>False
def NJ(ho:QPE X K o to qo)(he:QPE X K e te qe)(hK:‹X.K=K›)(cQ:‹attributeBase o "join" X.env (eval o X.env)=eval o X.env›)
  (pS:‹At X aY [e]›)
  (cP:‹(apos.endLine==aY.line)=true›) (hs:‹AC X e []›) (fi:‹(backTo aY (mJ [] X.env)).any (·.1)=false›):
  QPF X K (.Call (.Attribute o "join" apos) [e] [] aY) (tBM K "str" (rJoin K) to (dy te iP)) (Vk qo qe):=(by
 subst hK;exact Et PySem.F.plainAttrs_str PySem.F.slot_str_join PySem.F.type_str_join ON ho.h (cn he.h eB hs) cQ pS cP hs fi,λdl H σ q Q R rd hq k=>ho.s dl H σ q _ _ rd hq λv t F H1 g V hq=>by
  split at hq
  ·let(U,_):=V.r.str;refine(U,he.s dl H1 σ q _ _ (rd.evo g) hq λw u F2 H2 e2 P hq=>?_);split at hq
   ·let(ys,hy,hz,hq):=hq;let(p,vs,G,U,eF,h1,h2):=P.r.lst;have ev:=h2.txs hy;subst ev;exact(_,p,ys,U,U,SqL.of h1,hz,k _ _ [] H2 (g.trans e2) (.c (.s _)) nofun lu hq)
   exact hq.elim
  exact hq.elim)
def Qh(i:Nat)(qk qv:QE):QS:=λD q=>qv q λt=>match q[i]? with
 |some (.o (.l xs))=>qk q λu=>match u with|.i k=>∃j,ixN xs.length k=Z j/\T.ims xs=O/\t.im=O/\D.nx (q.set i (.o (.l (xs.set j t))))|_=>False
 |_=>False
end
def Ba(vs ws:Ω):Bool:=vs.length==ws.length&&(Fs vs.length).all λj=>match vs[j]?,ws[j]? with|some x,Z y=>eqV x y|_,_=>ϊ
variable{its:Δ}
section
variable{X:Cx}{K:BT}
def Vals.at'(r:Vals vs its)(h:j<its.toArray.size):∃v,vs[j]?=Z v/\RelV v its.toArray[j]:=by
 have hl:=r.length;have g:=(h:);have hv:j<vs.length:=ap;let(u,h1,h2):=r.get (i:=j) (x:=vs[j]) (by simp[hv]);have:its[j]?=Z its[j]:=by simp[g]
 rw[this]at h1;cases h1;exact(vs[j],by simp[hv],(h2:))
def se{vs:Ω}(h:vs.all gO=O)(e:vs[j]?=Z v):gO v=true:=PX.mp h v (g5 e)
inductive U9(K:BT)(x:V)(y:V)(H:Hp)(Q:VK):Prop
 |mk(p q vs ws:_)(h1:x=.ref p)(h2:y=.ref q)(h3:((SqL K H p vs/\SqL K H q ws)\/(SqT K H p vs/\SqT K H q ws)))(h4:vs.all gO=O)(h5:ws.all gO=O)(h6:Q (.bl (Ba vs ws)) H)
def SK(hu:X.A.units+1<cLine):OpR X (compareOp .Eq) (U9 X.K):=by
 intro gd s σ H x y v u Q I rx ry h;let(p,q,vs,ws,U,U,hs,f1,f2,k):=h;cases rx;cases ry;obtain⟨h1,h2⟩|⟨h1,h2⟩:=hs
 ·let(its,z,p1,_):=I.list h1;let(fE,g,p2,_):=I.list h2;have l1:=z.length;have l2:=g.length;by_cases hl:its.length=fE.length
  ·refine SeqAt.eq_listAt (e:=λj=>match vs[j]?,ws[j]? with|some x,Z y=>eqV x y|_,_=>ϊ) p1.isList p2.isList (hl:) ap (λj g1 g2=>?_) (.bl _,H,I,U,?_)
   ·let(a,V,ra):=z.at' g1;let(b,P,rb):=g.at' g2;simp only[V,P];exact Dj ra rb (se f1 V) (se f2 P)
   have e:Ba vs ws=(Fs its.toArray.size).all λj=>match vs[j]?,ws[j]? with|some x,Z y=>eqV x y|_,_=>false:=by unfold Ba;rw[show(vs.length==ws.length)=O from by lia,Bool.true_and,qg,l1]
   rw[<- e];exact k
  refine SeqAt.eq_list_lengthsAt p1.isList p2.isList (hl:) ap (.bl _,H,I,U,?_);have e:Ba vs ws=false:=by unfold Ba;rw[show(vs.length==ws.length)=ϊ from by simp;lia,Bool.false_and]
  rw[<- e];exact k
 let(its,z,p1,_):=I.tuple h1;let(fE,g,p2,_):=I.tuple h2;have l1:=z.length;have l2:=g.length;refine SeqAt.eq_tupleAt (e:=λj=>match vs[j]?,ws[j]? with|some x,Z y=>eqV x y|_,_=>ϊ) (p1) (p2) ap (λj g1 g2=>?_) (.bl _,H,I,U,?_)
 ·let(a,V,ra):=z.at' g1;let(b,P,rb):=g.at' g2;simp only[V,P];exact Dj ra rb (se f1 V) (se f2 P)
 have e:Ba vs ws=((Fs (min its.toArray.size fE.toArray.size)).all (λj=>match vs[j]?,ws[j]? with|some x,Z y=>eqV x y|_,_=>ϊ)&&its.toArray.size==fE.toArray.size):=by
  unfold Ba;rw[qg,qg,<- l1,<- l2,Bool.and_comm];by_cases hl:vs.length=ws.length
  ·rw[hl,Nat.min_self]
  rw[show(vs.length==ws.length)=ϊ from by simpa using hl,ZP,ZP]
 rw[<- e];exact k
def eqF(xs ys:ϓ):Bool:=Ba (xs.map T.v) (ys.map T.v)
def CD:Q2:=λt u Q=>match t,u with|.l xs,.l ys=>(fls xs&&fls ys)=O/\Q (.b (eqF xs ys))|.t xs,.t ys=>(fls xs&&fls ys)=O/\Q (.b (eqF xs ys))|t,u=>qEq t u Q
def RL(K:BT):R2:=λx y H Q=>rEq x y H Q\/U9 K x y H Q
def yy(g:X.A.units+1<cLine)(q:X.K=K):OpR X (compareOp .Eq) (RL K):=by subst q;exact Qn.or (SK g)
def rL:dD K (RL K) CD:=by
 intro dl H x y t u F G Q R D P q hq k;unfold CD at hq;split at hq
 ·let(p,vs,G1,U,U,h1,h2):=P.r.lst;let(V,g,G2,U,U,h3,h4):=q.r.lst;let(f,hq):=hq;rw[uj]at f;let(U,U):=h2.vs f.1;let(U,U):=h4.vs f.2;exact .inr (p,V,_,_,U,U,.inl (SqL.of h1,SqL.of h3),uR f.1,uR f.2,k _ _ [] H (.refl D) (.c (.b _)) cc lu hq)
 ·let(p,vs,U,h1,h2):=P.r.tup;let(V,g,U,h3,h4):=q.r.tup;let(f,hq):=hq;rw[uj]at f;let(U,U):=h2.vs f.1;let(U,U):=h4.vs f.2;exact .inr (p,V,_,_,U,U,.inr (SqT.of h1,SqT.of h3),uR f.1,uR f.2,k _ _ [] H (.refl D) (.c (.b _)) cc lu hq)
 exact .inl (RB dl H x y t u F G Q R D P q hq k)
end
end L2
namespace PySem
open Sem (wp)
section
variable{prog:Da}{w:Cl}{A:Db}{E:Φ}
def qY:typeLookup (.type "tuple") "keys"=pure none:=am_miss_of_fast bi
def uB:typeLookup (.type "list") "keys"=pure none:=am_miss_of_fast bi
set_option maxRecDepth 8000 in
theorem js{s:ϋ}{a:J}{o:Obj}{xs:Array B}{k:Nat}{Q:Option B->ϋ->Prop}
  (hx:s.heap.get? a=Z o) (P:o.cls=.type "tuple") (K:o.data=.seq xs k) (hd:o.dict=Y) (V:A.handled=Y)
  (h:∀h' tk,(∀b o,s.heap.get? b=Z o->h'.get? b=Z o)->Q Y {s with heap:=h',toks:=tk}):
  wpAny (model prog w) A (getAttr? (.ref a) "keys") Q E s:=by
 let(c,ak,dat,sl):=o;simp only at P K hd;subst P K hd;let(hp,g,d,tk,os):=s;have hT:∀q,((hp,g,d,q,os):ϋ).TypeIs (.ref a) "tuple":=λ_=>(_,hx,U);have f1:=sub_AttributeError;have f3:=F.slot_tuple_getattribute.lookup;have f4:=F.slot_tuple_getattribute.bind (.ref a);have f5:=am_tuple_getattr_none;unfold getAttr? getAttrBy? getAttrBy;repeat (any_goals (first|assumption|exact hT _|((with_reducible show wpAny _ _ (call (B.builtin "tuple.__getattribute__") _ _) _ _ _);refine call_meets F.slot_tuple_getattribute (hT _) am_entry_tuple_getattribute (F.args_tuple_getattribute_2 _ _) (meets_getattribute_miss_tuple a xs k sl "keys" _ qY bi bi) (hx,V,λh' q e z=>?_))|wp_step))
 let(t',u',he):=z.there;show wpAny _ _ (getattributeRaised _ _ _ _ _ _ _) _ _ _;unfold getattributeRaised;repeat (any_goals (first|assumption|wp_step))
 exact h _ _ z.keeps
set_option maxRecDepth 8000 in
theorem kc{s:ϋ}{a:J}{o:Obj}{xs:Array B}{k:Nat}{Q:Option B->ϋ->Prop}
  (hx:s.heap.get? a=Z o) (P:o.cls=.type "list") (K:o.data=.seq xs k) (hd:o.dict=Y) (V:A.handled=Y)
  (h:∀h' tk,(∀b o,s.heap.get? b=Z o->h'.get? b=Z o)->Q Y {s with heap:=h',toks:=tk}):
  wpAny (model prog w) A (getAttr? (.ref a) "keys") Q E s:=by
 let(c,ak,dat,sl):=o;simp only at P K hd;subst P K hd;let(hp,g,d,tk,os):=s;have hT:∀q,((hp,g,d,q,os):ϋ).TypeIs (.ref a) "list":=λ_=>(_,hx,U);have f1:=sub_AttributeError;have f3:=F.slot_list_getattribute.lookup;have f4:=F.slot_list_getattribute.bind (.ref a);have f5:=am_list_getattr_none;unfold getAttr? getAttrBy? getAttrBy;repeat (any_goals (first|assumption|exact hT _|((with_reducible show wpAny _ _ (call (B.builtin "list.__getattribute__") _ _) _ _ _);refine call_meets F.slot_list_getattribute (hT _) am_entry_list_getattribute (F.args_list_getattribute_2 _ _) (meets_getattribute_miss_list a xs k sl "keys" _ uB bi bi) (hx,V,λh' q e z=>?_))|wp_step))
 let(t',u',he):=z.there;show wpAny _ _ (getattributeRaised _ _ _ _ _ _ _) _ _ _;unfold getattributeRaised;repeat (any_goals (first|assumption|wp_step))
 exact h _ _ z.keeps
end
namespace F
def bz:entryFor table "dict.update.loop"=Z Builtin.«dict.update.loop»:=entryFor_of_tree bn
def aN:plainId "dict.update.loop"=true:=bi
end F
section
variable{prog:Da}{w:Cl}{A:Db}{R:Result->ϋ->Prop}{I:J}{fp wr:Θ}{n:Nat}{P:Nat->B->Prop}{St:Nat->Do->Prop}{κ:Type}[DecidableEq κ]{knd:KeyKind prog w κ}
def vM(kvs:List (κ×B))(k:κ)(v:B):(stored kvs k v).length<=kvs.length+1:=by unfold stored;split <;> simp
def v7(kvs:List (κ×B)):∀(more:List (κ×B)),(merged kvs more).length<=kvs.length+more.length:=by intro more;induction more generalizing kvs with|nil=>exact kB _|cons p r g =>have h1:=g (stored kvs p.1 p.2);have h2:=vM kvs p.1 p.2;show(merged (stored kvs p.1 p.2) r).length<=_;simp only[qf];lia
theorem ic(W:Walks prog w A.in1 I fp wr n P St)(S:J)(aP:S ∉ fp)(res:B)(h0:Do)(kvs pairs:List (κ×B))(hsz:kvs.length+pairs.length<=mu)(a3:pairs.length=n)
  (hp:∀i v,P i v->∃(a:J)(o:Obj)(key val:B)(k:κ)(m:Nat),v=.ref a/\pairs[i]?=Z (k,val)/\knd.is k key=O/\h0.get? a=Z o/\o.cls=.type "tuple" /\ o.data=.seq #[key,val] m/\a ∉ wr/\a≠S):
  ∀(j i:Nat)(s:ϋ),n-i=j->i<=n->St i s.heap->s.heap.DictOf knd S (merged kvs (pairs.take i))->(∀b o,b ∉ wr->b≠S->h0.get? b=Z o->s.heap.get? b=Z o) ->
  (∀h' tk,(∀b o,b ∉ wr->b≠S->s.heap.get? b=Z o->h'.get? b=Z o)->h'.DictOf knd S (merged kvs pairs)->R (.ok (.ret res)) {s with heap:=h',toks:=tk}) ->
  codeAny (model prog w) A (.builtin "dict.update.loop" ([.ref S,.ref I,rawInt i,res],[])) R s:=by
 have ay:=λh=>aP (W.sub _ h);intro j;induction j with
 |zero =>
  intro i s hk hi Q hS V hR;have a5:i=n:=ap;subst a5;refine HJ F.bz ?_;refine dN (W.done s _ _ Q λh' tk g=>?_);refine dN (kA (kA (hR h' tk (λb o K _ e=>g b o K e) ?_)));rw[<- a3,ox]at hS;let(o,es,ep,ho,r):=hS;exact(o,es,ep,g S o ay ho,r)
 |succ j ih =>
  intro i s hk hi Q hS V hR;have ar:=YE hk;refine HJ F.bz ?_;refine dN (W.item i s _ _ ar Q λv h' tk hP q9 g=>?_);let(a,o,key,val,k,m,U,a0,uL,ho,hc,hd,av,a6):=hp i v hP;have ak:=g a o av (V a o av a6 ho);have bp:h'.DictOf knd S (merged kvs (pairs.take i)):=by let(o,es,ep,ho,r):=hS;exact(o,es,ep,g S o ay ho,r)
  refine dN (DF (dN (wpAny_tryCatch ?_)));refine dN (Tz (o,ak,hc) ?_);refine dN (wpAny_seqItems ak hd (kA ?_));have bD:=by have h1:=v7 kvs (pairs.take i);rw[qr]at h1;omega
  refine DF (wpAny_dictSet_pairs uL bp λbt wj aW=>?_);have e:=merged_take_succ kvs pairs i (k,val) a0;rw[<- e]at wj;have fr:∀b o,b≠S->h'.get? b=Z o->bt.get? b=Z o:=λb o K eb=>(aW.2 b K).trans eb;exact kA (HI F.aN _,ih (i+1) _ (by rw[Y6,hk];rfl) ar (W.frame _ _ _ q9 λb K o eb=>fr b o (λz=>aP (z▸K)) eb) wj (λb o K q eb=>fr b o q (g b o K (V b o K q eb))) λh3 aQ a4 bh=>(hR h3 aQ (λb o K q eb=>a4 b o K q (fr b o q (g b o K eb))) bh))
end
section
variable{prog:Da}{w:Cl}{A:Db}{s:ϋ}{κ:Type}[DecidableEq κ]{knd:KeyKind prog w κ}
theorem ie{its:Array B}{kvs pairs:List (κ×B)}{id:String}{res:B}{R:Result->ϋ->Prop}(Q:A.handled=Y)(hS:s.heap.DictOf knd S kvs)(ar:p≠S)
  (ho:∃(o:Obj)(n:Nat),s.heap.get? p=Z o/\o.dict=Y/\o.data=.seq its n/\(o.cls=.type "tuple" \/ o.cls=.type "list")) (hsz:kvs.length+pairs.length<=mu) (av:pairs.length=its.size)
  (hp:∀(i:Nat)(v:B),its[i]?=Z v->∃(a:J)(o:Obj)(key val:B)(k:κ)(m:Nat),v=.ref a/\pairs[i]?=Z (k,val)/\knd.is k key=O/\s.heap.get? a=Z o/\o.cls=.type "tuple" /\ o.data=.seq #[key,val] m)
  (hR:∀h' tk,(∀b o,b≠S->s.heap.get? b=Z o->h'.get? b=Z o)->h'.DictOf knd S (merged kvs pairs)->R (.ok (.ret res)) {s with heap:=h',toks:=tk}):
  wpAny (model prog w) A.in1 (Builtin.Dict.updateFrom id S (.ref p) [] res) (λfin s'=>match fin with|.done f=>R (.ok f) s' |.again c'=>c'.quiet=O/\codeAny (model prog w) A c' R s') (λe s'=>R (.error e) s') s:=by
 let(o,n,hg,P,q,g):=ho;have fin:∀(h1:Do) tk h2 I St,(∀b o,s.heap.get? b=Z o->h1.get? b=Z o)->(∀b o,h1.get? b=Z o->h2.get? b=Z o)->h1.objs.size<=I->Walks prog w A.in1 I [I,p] [I] its.size (λi v=>its[i]?=Z v) St->St 0 h2 ->
   codeAny (model prog w) A (.builtin "dict.update.loop" ([.ref S,.ref I,rawInt 0,res],[])) R {s with heap:=h2,toks:=tk}:=by
  intro h1 tk h2 I St k1 k2 hI W ak;have K:∀b o,s.heap.get? b=Z o->b≠I:=λb o e z=>by
   have:=kz (k1 b o e);exact absurd (ui this hI) (by rw[z];exact Wo _)
  have ay:S ∉ [I,p]:=λz=>by
   let(o,_,_,e,_):=hS;obtain z|z:=kC.mp z
   ·exact K S o e z
   exact ar (fy.mp z).symm
  refine ic (knd:=knd) W S ay res s.heap kvs pairs hsz av (λi v hP=>?_) its.size 0 _ U (zt _) ak ?_ (λb o _ _ e=>k2 b o (k1 b o e)) λh' V hk aP=>?_
  ·let(a,oa,key,val,k,m,e1,e2,e3,e4,e5,e6):=hp i v hP;refine(a,oa,key,val,k,m,e1,e2,e3,e4,e5,e6,λz=>K a oa e4 (fy.mp z),λz=>?_);let(o,_,_,e,hc,hd,_):=hS;rw[<- z,e4]at e;cases e;rw[e6]at hd;cases hd
  ·let(o,es,ep,e,r):=hS;exact(o,es,ep,k2 _ _ (k1 _ _ e),r)
  exact hR h' V (λb o hb e=>hk b o (λz=>K b o e (fy.mp z)) hb (k2 b o (k1 b o e))) aP
 obtain g|g:=g
 ·refine dN (Tz (o,hg,g) ?_);refine dN (js hg g q P Q λh1 tk k1=>?_);refine dN (UU ?_);have hT:h1.IsTuple p its:=(o,k1 _ _ hg,g,n,q);exact dN (wpAny_pyIter_tuple hT (kA (HI F.aN _,(fin h1 tk _ h1.objs.size _ k1 (λb o e=>gs _ e) (kB _) (Walks.tuple (show A.in1.handled=Y from Q) _ p (rl (kz (k1 _ _ hg))) its) ((_,kD _ U,U,U),hT.push _)))))
 refine dN (Tz (o,hg,g) ?_);refine dN (kc hg g q P Q λh1 tk k1=>?_);refine dN (UU ?_);have hT:h1.IsList p its:=(o,k1 _ _ hg,g,n,q);exact dN (wpAny_pyIter_list hT (kA (HI F.aN _,(fin h1 tk _ h1.objs.size _ k1 (λb o e=>gs _ e) (kB _) (Walks.list (show A.in1.handled=Y from Q) _ p (rl (kz (k1 _ _ hg))) its) ((_,kD _ U,U,U),hT.push _)))))
end
end PySem
namespace L2
open PySem PySem.Spec PyProof.Rows
variable{gd:Ξ}{H:Hp}{a:J}
section
variable{X:Cx}
def Inv.Rh{σ:St}(I:Inv X gd σ H s)(h:H a=Z (.tup xs)):∃its:Δ,Vals xs its/\mI s.heap a its.toArray/\xs.length<=mu:=by let(z,its,r,p):=(I.hok a _ h);exact(its,r,p,z)
def Ar{σ:St}(I:Inv X gd σ H s):∀{ps:Θ}{kvs:ϐ}{us:Δ},Vals (ps.map V.ref) us->ps.length=kvs.length->(∀(i:Nat)(p:J)(kv:Key×V),ps[i]?=Z p->kvs[i]?=Z kv->H p=Z (.tup [kV kv.1,kv.2])) ->
  ∃pairs:List (Key×B),KV kvs pairs/\∀(i:Nat)(v:B),us[i]?=Z v->∃(a:J)(o:Obj)(key val:B)(k:Key)(m:Nat),v=.ref a/\pairs[i]?=Z (k,val)/\(a8 X.prog X.w).is k key=O/\s.heap.get? a=Z o/\o.cls=.type "tuple" /\ o.data=.seq #[key,val] m:=by
 intro ps;induction ps with
 |nil =>
  intro kvs us r hl _;have e:kvs=[]:=by cases kvs with|nil=>rfl|cons _ _=>simp at hl
  subst e;cases r;exact([],.nil,λi v h=>by simp at h)
 |cons p ps ih =>
  intro kvs us r hl h;cases kvs with
  |nil=>simp at hl|cons kv kvs =>
   cases r with
   |@cons _ u _ us P K =>
    let(pairs,h1,h2):=ih K (hl:) λi p kv q g=>h (i+1) p kv (q:) (g:);have hp:=h 0 p kv ad ad;let(its,z,(o,ho,hc,m,hd),_):=I.tuple (SqT.of hp);cases z with
    |@cons _ key _ rest k1 k2 =>
     cases k2 with
     |@cons _ val _ UY k3 Q =>
      cases Q;refine((kv.1,val)::pairs,.cons (U,k3) h1,λi v hv=>?_);cases i with
      |zero =>
       simp at hv;subst hv;cases(P);exact(p,o,key,val,kv.1,m,U,ad,lG k1,ho,hc,hd)
      |succ i =>let(a,oa,Xq,Rc,k,m',q,g,e3):=h2 i v (hv:);exact(a,oa,Xq,Rc,k,m',q,(g:),e3)
inductive x8(xs:Ω)(H:Hp)(Q:VK):Prop
 |mk(p:J)(ps:Θ)(kvs:ϐ)(h1:xs=[.ref p])(h2:(H p=Z (.tup (ps.map V.ref))\/H p=Z (.lst (ps.map V.ref))))(h3:ps.length=kvs.length)(h4:(∀(i:Nat)(a:J)(kv:Key×V),ps[i]?=Z a->kvs[i]?=Z kv->H a=Z (.tup [kV kv.1,kv.2])))(h5:∀d,H d=Y->Q (.ref d) (upd H d (.dK (ja [] kvs))))
theorem cB(hc:X.calm=O):cL X (.type "dict") x8:=by
 intro gd s σ H xs us Q I r h;let(p,ps,kvs,U,hp,hl,ak,q):=h;let(u,U,ru):=vals1 r;cases ru;have hh:=I.ok.hd hc;obtain⟨its,rv,z,ob⟩:∃its:Δ,Vals (ps.map V.ref) its/\(ps.map V.ref).length<=mu/\∃(o:Obj)(n:Nat),s.heap.get? p=Z o/\o.dict=Y/\o.data=.seq its.toArray n/\(o.cls=.type "tuple" \/ o.cls=.type "list"):=by
  obtain hp|hp:=hp
  ·let(its,rv,((o,ho,h1,n,h2),o',K,h3),z):=I.Rh hp;rw[ho]at K;cases K;exact(its,rv,z,o,n,ho,h3,h2,.inl h1)
  let(z,its,n,rv,e):=(I.hok p _ hp);exact(its,rv,z,_,n,e,U,U,.inr U)
 let(pairs,kv,uJ):=Ar I rv hl ak;refine callType_codes (Q₁:=λobj g=>obj=.ref s.heap.objs.size/\g={s with heap:=s.heap.push {cls:=.type "dict",data:=.dict #[]}}) F.kt_called_dict (F.kt_typeCall_dict_1 _) F.entry_dict_init (kt_code_dict_new _ (U,U)) ?_;rintro obj g ⟨rfl,rfl⟩;have P:(s.heap.push {cls:=.type "dict",data:=.dict #[]}).DictOf (a8 X.prog X.w) s.heap.objs.size []:=Heap.DictOf.new s.heap;refine(P.typeIs,F.args_dict_init_2 _ _,(dN (dN (wpAny_notOrdered_dict P.typeIs (kA ?_)))));let(o,n,ho,ay,av,aP):=ob;have ar:=rv.length;rw[cU]at ar z;have aQ:=kv.length;refine ie (pairs:=pairs) hh P (rl (kz ho)) (o,n,gs _ ho,ay,av,aP) (by simp only[Yg];lia) (by rw[qg];lia) (λi v hv=>?_) λh' tk hk hd=>?_
 ·let(a,oa,key,val,k,m,e1,e2,e3,e4,e5,e6):=uJ i v (hv:);exact(a,oa,key,val,k,m,e1,e2,e3,gs _ e4,e5,e6)
 refine(U,.ref s.heap.objs.size,_,I.laid (λb u e=>hk b u (rl (kz e)) (gs _ e)) (kB _) (uU ?_ ?_ (KV.merge kv .nil) hd),U,q _ (I.hok.fresh (kB _)))
 ·have:=fw kvs [];simp only[Yg]at this;lia
 have:=I.big;exact beq_eq_false_iff_ne.mpr (D7 this)
end
def cO:ϓ->Option (ϔ)
 |[]=>Z []|.t [k,x]::r=>match k.key,cO r with|some k,Z r=>Z ((Prod.mk k x)::r)|_,_=>Y
 |_=>Y
def dg(ks more:ϔ):ϔ:=more.foldl (λacc p=>ix acc p.1 p.2) ks
section
variable{K:BT}{dl:Dl}
def Au(h:cO (x::r)=Z g):∃k y k0 q,x=.t [k,y]/\k.key=Z k0/\cO r=Z q/\g=(k0,y)::q:=by
 unfold cO at h;split at h
 ·rename_i z;cases z
 ·rename_i k y K z;cases z;split at h
  ·cases h;exact(_,_,_,_,U,(by assumption),(by assumption),U)
  cases h
 cases h
def aC.pairs{vs:Ω}(h:aC K dl H vs xs F):∀{g:ϔ},F=[]->cO xs=Z g ->
  ∃(ps:Θ)(kvs:ϐ),vs=ps.map V.ref/\ps.length=kvs.length/\(∀(i:Nat)(a:J)(kv:Key×V),ps[i]?=Z a->kvs[i]?=Z kv->H a=Z (.tup [kV kv.1,kv.2]))/\a9 K dl H kvs g []:=
 h.ind (M:=λvs xs F=>∀{g:ϔ},F=[]->cO xs=Z g ->   ∃(ps:Θ)(kvs:ϐ),vs=ps.map V.ref/\ps.length=kvs.length/\(∀(i:Nat)(a:J)(kv:Key×V),ps[i]?=Z a->kvs[i]?=Z kv->H a=Z (.tup [kV kv.1,kv.2]))/\a9 K dl H kvs g []) (λ{g} _ h=>by cases h;exact([],[],U,U,λi a kv h=>by simp at h,.nil)) λ_ _ _ _ _ _ h _ ih g e q=>by
  let(e1,e2):=DE.mp e;let(k,y,k0,r0,U,ek,er,U):=Au q;let(ps,kvs,U,hl,ht,hk):=ih e2 er;let(a,ws,U,ha,Q):=h.tup;cases Q with|@cons w1 _ _ _ G1 G2 P z =>cases z with|@cons w2 _ _ _ G3 G4 h2 h3 =>cases h3;have e3:=P.key ek;subst e3;let(z1,z2):=DE.mp e1;rw[qp]at z2;subst z1 z2;refine(a::ps,(k0,w2)::kvs,U,by simp[hl],λi b kv h1 h2=>?_,.cons h2 hk);cases i with|zero =>simp at h1 h2;subst h1 h2;exact ha|succ i=>exact ht i b kv (h1:) (h2:)
theorem a9.dg{kvs':ϐ}{kts':ϔ}{kvs:ϐ}{g:ϔ}{F:Θ}(h:a9 K dl H kvs g F):F=[]->∀{vs:ϐ}{ts:ϔ},a9 K dl H vs ts []->a9 K dl H (ja vs kvs) (L2.dg ts g) []:=
 h.ind (λ_ _ _ h=>h) λ_ _ _ _ _ _ _ h1 _ q e _ _ h=>by
  let(P,z):=DE.mp e;subst P;exact q z (a9.put h1 h)
def NO:QC:=λts Q=>on1 ts λt=>match t with|.t xs=>T.ims xs=O/\Ex3 (λg=>cO xs=Z g) (λg=>(.d (dg [] g))) Q|.l xs=>T.ims xs=O/\Ex3 (λg=>cO xs=Z g) (λg=>(.d (dg [] g))) Q|_=>False
def c9:mG K x8 NO:=by
 intro dl H vs ts F Q R D r hq k;have go:∀p ws xs,vs=[.ref p]->(H p=Z (.tup ws)\/H p=Z (.lst ws))->aC K dl H ws xs []->(Ex3 (λg=>cO xs=Z g) (λg=>(.d (dg [] g))) Q)->x8 vs H R:=by rintro p ws xs rfl hp rs ⟨g,e,hq⟩;let(ps,kvs,U,hl,V,hk):=rs.pairs U e;refine(p,ps,kvs,U,hp,hl,V,λd hd=>?_);have ev:=(Evo.refl D).new (o:=.dK (ja [] kvs)) hd;have h2:=a9.dg (kvs':=[]) (kts':=[]) hk U .nil;exact k _ _ [d] _ ev (.d aA (h2.d5 (ev.tf D) (λ_ z=>z) cc),λb P=>by rw[fy.mp P];exact D.nd0 hd) (λb P=>by rw[fy.mp P];exact hd) ad hq
 replace hq:=on1.inv hq;let(t,U,hq):=hq;cases t with|t xs =>let(v,U,q):=r.one;let(p,ws,U,h1,h2):=q.r.tup;have e:=h2.im hq.1;subst e;exact go p ws _ U (.inl h1) h2 hq.2|l xs =>let(v,U,q):=r.one;let(p,ws,G,U,_,h1,h2):=q.r.lst;have e:=h2.im hq.1;subst e;exact go p ws _ U (.inr h1) h2 hq.2|_=>exact hq.elim
end
variable{j:Nat}{x:Str}{py:Pos}{P:Da}{mg:Υ}{base:Do}{fd:Ch}{ps:Γ}
section
variable{X:Cx}{K:BT}{a b:Ev}{ta tb:TE}{qa qb:QE}{pos:Pos}
def RO(hc:X.calm=O)(hN:X.N.Nodup)(hi:X.N[i]?=Z x)(hj:X.N[j]?=Z y)(z:i≠j)
  (hx:BC X x) (V:BC X y) (Q:QPE X K a ta qa) (P:QPE X K b tb qb)
  (hw:swappedStores [.Tuple [.Name x q,.Name y py] kt pt] (.Tuple [a,b] k2 g) X.env=pure (Z [x,y]))
  (hs:‹swapsWithSole [.Tuple [.Name x q,.Name y py] kt pt] (.Tuple [a,b] k2 g) pos.line X.env=pure false›)
  (h1:‹mJ [a,b] X.env=(ϊ,eval a X.env)::mJ [b] X.env›) (h2:‹AC X b []›):
  QPS X K (.Assign [.Tuple [.Name x q,.Name y py] kt pt] (.Tuple [a,b] k2 g) pos) (Rm i j (dy ta (dy tb iP))) (Vg i j qa qb):=
 (Si hc hN hi hj z hx V (cn Q.h (cn P.h eB h2) h1) hw hs,Na Q.s P.s)
def j4:PSp:=λts Q=>on2 ts λt u=>match t with
 |.cz=>match u with|.i m=>0<m/\m<18446744073709551616/\∀r,0<=r->r<m->Q (.i r)|_=>False
 |_=>False
theorem fj(F:bg P w K mg base CX0 k f fd ps Iw):bg P w K mg base CX0 k f fd ps (spQ K j4):=by
 refine F.imp λvs H Q E h=>?_;let(dl,ts,Fp,Qp,D,r,h,fin):=h;replace h:=on2.inv h;let(t,u,U,h):=h;split at h
 ·split at h
  ·let(v,w',F1,F2,U,r1,r2):=r.two;let(a,l,U,hm,_):=r1.r.dea;let(U,_):=r2.r.int;refine(a,l,_,U,D _ hm,h.1,h.2.1,λr H' r0 ak D' q=>fin _ _ [] H' (λb o e n _=>q b o e (n _ hm).1 (n _ hm).2,λp hp=>?_,λb x e=>(x,DG _,by
    let(s2,n2,l2,Q2):=D _ hm;exact q b _ e (j7 e Q2.hd (λz=>nomatch z)) (j7 e Q2.hl (λz=>nomatch z)))) (.c (.i _)) cc lu (h.2.2 r r0 ak))
   by_cases e:p=(a,l)
   ·rw[e];exact D'
   let(s1,n1,l1,Q1):=D p hp;let(s2,n2,l2,Q2):=D _ hm;let(s3,n3,l3,Q3):=D';have pa:p.1≠a:=λz=>by
    have z1:=Q1.hd;have z2:=Q2.hd;rw[z]at z1;rw[z1]at z2;have z3:=by injection (Option.some.inj z2)
    have z4:=congrArg (λkv=>bV kv (.inr "left")) z3;exact e (Prod.ext z (V.ref.inj (Option.some.inj z4)))
   have pl:=j7 Q1.hd Q2.hl (λz=>nomatch z);have ar:=j7 Q1.hl Q2.hd (λz=>nomatch z);by_cases g:p.2=l
   ·exact(s1,n1,l3,q _ _ Q1.hd pa pl,by rw[g];exact Q3.hl,Q1.s0,Q1.s1,Q1.n0,Q3.l0)
   exact(s1,n1,l1,q _ _ Q1.hd pa pl,q _ _ Q1.hl ar g,Q1.s0,Q1.s1,Q1.n0,Q1.l0)
  exact h.elim
 exact h.elim
end
section
variable{X:Cx}{K:BT}{a b e o:Ev}{tk tv:TE}{qk qv:QE}{pos pos':Pos}
theorem aC.set{dl:Dl}(hw:aM K dl H w t []):∀{vs:Ω}{xs:ϓ}{F:Θ}(j:Nat),aC K dl H vs xs F->F=[]->aC K dl H (vs.set j w) (xs.set j t) []
 |_,_,_,_,.nil,_=>.nil|_,_,_,0,.cons h r,e=>by
  let(q,g):=DE.mp e;subst q g;exact .cons hw r
 |_,_,_,j+1,.cons h r,e=>by
  let(q,g):=DE.mp e;subst q g;exact .cons h (aC.set hw j r U)
def IE{i:Nat}(hk:jE K tk qk)(hv:jE K tv qv):lj K (iQ tv (Ly (cp i) tk Ji)) (Qh i qk qv):=λdl be hs H σ q Dq D (F,r) hq E=>by
 refine hv dl H σ q _ _ r.rd hq λw t F1 H1 Q r1 hq=>?_;split at hq
 ·rename_i xs ei;let(v,P,rp):=(r.evo Q).g i _ _ ei U;refine(v,P,hk dl H1 σ q _ _ (r.rd.evo Q) hq λy u F2 H2 e2 r2 hq=>?_);split at hq
  ·let(j,hj,hm,ht,hq):=hq;let(U,_):=r2.r.int;obtain rfl:=r1.r.im ht;have V:=rp.evo Q.d e2;let(p,vs,G,U,eF,h1,h2):=V.r.lst;have eG:=h2.im hm;subst eG;exact(p,vs,_,j,U,U,h1,by rw[h2.len];exact hj,(E.nx _ _ _ (r.x6 ei P eF (Q.trans e2) (aC.set (r1.evo Q.d e2).r j h2 U) lu nofun) hq))
  exact hq.elim
 exact hq.elim
def yb(ho:PE X o (cp i))(hk:QPE X K a tk qk)(hv:QPE X K b tv qv)(hs:‹swapsWithSole [.Subscript o a pos'] b pos.line X.env=pure false›)(hw:‹swappedStores [.Subscript o a pos'] b X.env=pure none›)
  (h1:‹(assignEach [.Subscript o a pos'] X.env).map (·.2)=[assign (.Subscript o a pos') X.env]›)
  (q:∀v,assign (.Subscript o a pos') X.env v=(do
let g <- holding [v] (eval o X.env)
let iv <- holding [v,g] (eval a X.env)
standAt pos'
holding [v,g,iv] (setItem g iv v)
release [v,g,iv] []):=by intro _;rfl):QPS X K (.Assign [.Subscript o a pos'] b pos) (iQ tv (Ly (cp i) tk Ji)) (Qh i qk qv):=
 (yn hv.h (Kc ho hk.h set_list q) hs hw h1,IE hk.s hv.s)
end
variable{elts:List Ev}{pos':Pos}{t1:Bool}{t2:Bool}
section
variable{X:Cx}{K:BT}{dl:Dl}
def sJ(xs ys:ϓ):ϓ:=(xs.zip ys).map λp=>.t [p.1,p.2]
def DN{xs ys:ϓ}{i:Nat}{z:T}(h:(sJ xs ys)[i]?=Z z):∃x y,xs[i]?=Z x/\ys[i]?=Z y/\z=.t [x,y]:=by unfold sJ at h;rw[fN]at h;let(p,hp,U):=gV.mp h;rw[Fq]at hp;exact(p.1,p.2,hp.1,hp.2,U)
def mP:(sJ xs ys).length=min xs.length ys.length:=by simp[sJ]
def Tv:rE K dl (Itz K O O a b) (sJ xs ys) [(.ref a,.t xs),(.ref b,.t ys)] where
 go:=λH i D h hi=>by
  let(F,r):=h (.ref a,.t xs) ad;let(F',V):=h (.ref b,.t ys) ad;let(p,vs,e,h1,h2):=r.r.tup;cases e;let(p',g,e',Q,P):=V.r.tup;cases e';rw[mP]at hi;have l1:i<vs.length:=by rw[h2.len];lia
  have l2:i<g.length:=by rw[P.len];lia
  exact(vs,g,vs[i],g[i],SqT.of h1,SqT.of Q,by simp[l1],by simp[l2])
 yld:=λH i x fp v H' D h hx y=>by
  have r:=h (.ref a,.t xs) ad;have V:=h (.ref b,.t ys) ad;let(p,vs,e,h1,h2):=r.r.tup;cases e;let(p',g,e',Q,P):=V.r.tup;cases e';let(x1,y1,a0,aW,U):=DN hx;let(w1,G1,a4,aQ,ar):=h2.get a0;let(w2,G2,a3,aP,ak):=P.get aW;let(q,u1,u2,hq,U,U,ay,av):=y;have e1:=ay vs (SqT.of h1);rw[a4]at e1;cases e1;have e2:=av g (SqT.of Q);rw[a3]at e2;cases e2;have rs:=Rps.cons (aQ,λb hb=>r.n b (ar b hb)) (Rps.cons (aP,λb hb=>V.n b (ak b hb)) (.nil,cc));refine((Evo.refl D).new hq,_,rs.tup D hq,λc hb=>.inr ?_);rw[qp]at hb;obtain z|z:=jn.mp hb
  ·exact(_,ad,ar c z)
  exact((.ref b,.t ys),ad,ak c z)
 stop:=λH D h=>by
  let(F,r):=h (.ref a,.t xs) ad;let(F',V):=h (.ref b,.t ys) ad;let(p,vs,e,h1,h2):=r.r.tup;cases e;let(p',g,e',Q,P):=V.r.tup;cases e';refine(vs,g,SqT.of h1,SqT.of Q,?_);rw[mP,h2.len,P.len];lia
variable{a b:Ev}{ta:TE}{tl:TA}{ql:QA}{pos p:Pos}
def asZ(ql:QA):QI:=λq Q=>ql q λts=>match ts with|[.t xs,.t ys]=>Q (sJ xs ys)|_=>False
def N9{q}{ta:TA}(P:X.K=K)(hg:Gl X "zip")(hm:X.mg "zip"=Y)(Q:bootBuiltins "zip"=Z (.type "zip"))(z:PA X [a,b] ta)(hs:mJ [a,b] X.env=[(ϊ,eval a X.env),(ϊ,eval b X.env)])(g:AD X b):
  PI X (.Tuple elts q pos') (.Call (.Name "zip" p) [a,b] [] pos) (TJ K t1 t2 ta):=by subst P;exact SD hg hm Q z hs g
def RP{x1}(hg:Gl X "zip")(hm:X.mg "zip"=Y)(eQ:bootBuiltins "zip"=Z (.type "zip"))(ha:QPA X K [a,b] tl ql)(hs:‹mJ [a,b] X.env=[(ϊ,eval a X.env),(ϊ,eval b X.env)]›)(V:‹AD X b›)(hK:‹X.K=K›):
  QPI X K (.Tuple elts x1 pos') (.Call (.Name "zip" p) [a,b] [] pos) (TJ K O O tl) (asZ ql):=(N9 hK hg hm eQ ha.h hs V,λdl H σ q Q R rd hq k=>ha.s dl H σ q _ _ rd hq λvs ts F H' e1 r _ P=>by
 split at P
 ·let(v,w,F1,F2,U,r1,r2):=r.two;let(l1,z,U,h1,h2):=r1.r.tup;let(l2,g,U,h3,h4):=r2.r.tup;exact(l1,l2,U,(z,SqT.of h1),(g,SqT.of h3),k _ _ _ H' e1 Tv (λp hp=>by
   simp only[kC,v5,or_false]at hp;obtain rfl|rfl:=hp
   ·exact(_,r1)
   exact(_,r2)) P)
 exact P.elim)
end
variable{H2:Hp}
section
variable{X:Cx}{K:BT}{e a b:Ev}{tl:TA}{ql:QA}{pos p cq p2:Pos}{dl:Dl}
def Ab(ql:QA):QE:=λq Q=>ql q λts=>on2 ts λt u=>match t with|.t xs=>(match u with|.t ys=>T.ims xs=O/\T.ims ys=O/\Q (.l (sJ xs ys))|_=>False)|_=>False
def Gi{vs:Ω}{xs:ϓ}{F:Θ}(h:aC K dl H2 vs xs F):F=[]->∀{ws:Ω}{ys:ϓ}{G:Θ},aC K dl H2 ws ys G->G=[]->∀{ps:Θ},ps.length=min vs.length ws.length ->
  (∀(j:Nat) p x y,ps[j]?=Z p->vs[j]?=Z x->ws[j]?=Z y->H2 p=Z (.tup [x,y]))->aC K dl H2 (ps.map V.ref) (sJ xs ys) []:=
 h.ind (λ_ _ _ _ _ _ ps hl _=>by have e:=vq.mp (by rw[hl];exact Nat.zero_min _);subst e;exact .nil) λv x vs xs F G h _ q e ws ys G' h' e' ps hl hp=>by
  let(e1,Q):=DE.mp e;subst e1;cases h' with|nil =>have e:=vq.mp (by rw[hl];exact Nat.min_zero _);subst e;exact .nil|cons h' g =>let(P,z):=DE.mp e';subst P;cases ps with|nil=>simp at hl|cons p ps =>exact aC.cons (.t (hp 0 p _ _ U U U) (aC.cons h (aC.cons h' .nil))) (q Q g z (by simp at hl;omega) λj p x y h1 h2 h3=>hp (j+1) p x y h1 h2 h3)
def zQ(ha:PR K 2 tl ql):lr K (sR K tl) (Ab ql):=by
 intro dl H σ q Q R rd hq k;refine ha dl H σ q _ _ rd hq λvs ts F H1 V r1 _ g=>?_;replace g:=on2.inv g;let(t,u,U,g):=g;split at g
 ·split at g
  ·let(v,w,F1,F2,U,ar,ak):=r1.two;let(l1,ay,U,h1,h2):=ar.r.tup;let(l2,av,U,h3,h4):=ak.r.tup;let(i1,i2,g):=g;obtain rfl:=h2.im i1;obtain rfl:=h4.im i2;refine(l1,l2,ay,av,U,SqT.of h1,SqT.of h3,λH2 L ps hL hl hn hf hk aP hp=>?_);have P:∀b o,H1 b=Z o->H2 b=Z o:=λb o e=>by
    rw[hk b (λz=>by rw[(hf b z).1]at e;cases e) (λz=>by rw[z,hL]at e;cases e)];exact e
   have ev:Evo dl H1 H2:=(λb o e _ _=>P b o e,λp hp=>(by let(s,n,ls,D):=V.d p hp;exact(s,n,ls,P _ _ D.hd,P _ _ D.hl,D.s0,D.s1,D.n0,D.l0)),λb x e=>(x,DG _,P _ _ e));let(_,Yi,z1,b1,c1):=(ar.evo V.d ev).r.tup;cases z1;rw[P _ _ h1]at b1;cases b1;let(_,Yh,z2,b2,c2):=(ak.evo V.d ev).r.tup;cases z2;rw[P _ _ h3]at b2;cases b2;exact k _ _ [L] H2 (V.trans ev) (.l aP (Gi c1 U c2 U hl hp),λb hb=>by rw[fy.mp hb];exact V.d.nd0 hL) (λb hb=>by rw[fy.mp hb];exact V.free hL) ad g
  exact g.elim
 exact g.elim
def CA(hK:X.K=K)(hg:Gl X "list")(hm:X.mg "list"=Y)(P:Gl X "zip")(z:X.mg "zip"=Y)(Q:QPA X K [a,b] tl ql)
  (hs:‹mJ [a,b] X.env=[(ϊ,eval a X.env),(ϊ,eval b X.env)]›) (q:‹AD X b›)
  (g:‹mJ [.Call (.Name "zip" p2) [a,b] [] cq] X.env=(ϊ,eval (.Call (.Name "zip" p2) [a,b] [] cq) X.env)::mJ [] X.env›) (V:‹X.calm=true›):
  QPF X K (.Call (.Name "list" p) [.Call (.Name "zip" p2) [a,b] [] cq] [] pos) (sR K tl) (Ab ql):=(by subst hK;exact CK hg hm P z Q.h hs q g V,zQ Q.s)
end
inductive sW(K:BT)(vs:Ω)(H:Hp)(Q:VK)(_:XK):Prop
 |mk(a:J)(ns:Ψ)(h1:vs=[.ref a])(h2:FzL K H a (ns.map V.int))(h3:ns.length<=63)(h4:∀H',Q (.bl O) H')
theorem Wm{K:BT}(h:PY H)(g:SqL K H a xs):FzL K H a xs:=by
 obtain(z |⟨o,z⟩)|z:=g
 ·obtain e |⟨o,ys,e⟩:=h a
  ·rw[e]at z;cases z
  rw[e]at z;cases z
 ·exact .inl (o,z)
 exact .inr z
variable{H':Hp}
theorem FzL.same{K:BT}(h:FzL K H a xs)(s:mH H H'):FzL K H' a xs:=by
 obtain⟨o,z⟩|z:=h
 ·exact .inl (o,s _ _ z)
 exact .inr z
variable{qual:Str}{st:EQ}{N:Γ}{n:Nat}
theorem Fun.Xn{K:BT}(F:Fun K x qual st f fd)(S:aH N ["_law_script"] (ax st))(hN:N.length=n+2)(g:cy st=s1::rest)
  (uO:∀(cdv:B)(A:Db)(outer:List Env)(s:ϋ)(H:Hp)(E:XK),e7 k (A.deeper (envOfC qual (ax st) s.heap.objs.size f cdv)) ->
∃t1 t qs,PS (zb CX0 P w K mg base N qual (ax st) f cdv A outer s H E).nox s1 t1/\wy (zb CX0 P w K mg base N qual (ax st) f cdv A outer s H E).nox K rest t qs /\
(∀(a:J)(ns:Ψ)(D:Ends),SqL K H a (ns.map V.int)->ns.length<=63->(∀(d l:J)(H':Hp),H d=Y->H l=Y->oC H' d l->mH H H'->D.nx ([Z (.ref a),Z (.ref d)]++rG n Y) H')->t1 D ([Z (.ref a),Y]++rG n Y) H) /\
∀ns:Ψ,ns.length<=63->qs {nx:=λ_=>False,rt:=λt=>t=.b O} ([.r (.z ns),.r .cz]++rG n .no)):bg P w K mg base CX0 (k+1) f fd ["_law_script"] (sW K):=by
 refine F.ok S (λvs H Q E h=>?_) (λcdv A outer s H vs Q E hr h=>?_)
 ·let(a,ns,U,_):=h;rfl
 let(a,ns,U,hS,hlen,k):=h;let(t1,t,qs,h1,q,r1,hq):=uO cdv A outer s H E hr;rw[g];refine(_,bQ h1 q.h,?_);have es:start N [V.ref a]=[Z (.ref a),Y]++rG n none:=by unfold start;rw[hN];rfl
 rw[es];refine r1 a ns _ hS.sq hlen λd l H' hd hl D1 sm=>?_;have Dq:Dls [(d,l)] H':=λp hp=>by rw[fy.mp hp];exact D1
 have rp:Rps K [(d,l)] H' [.ref a,.ref d] [.z ns,.cz] ([]++([]++[])):=(.cons (.z (hS.same sm)) (.cons (.x (l:=l) (fy.mpr U)) .nil),cc);have R:=wI (n:=n+2) Dq rp ad;refine q.s [(d,l)] H' [] H' _ _ _ _ R (hq ns hlen) (λ_ _ _ _ z=>z.elim,λ_ _ _ _ z=>z.elim,λ_ _ _ _ z=>z.elim,λv t F H2 _ r' _ _ _ hz=>?_,λ_ _ _ _ _ _ _ _ _ _ _ _ z=>z.elim);subst hz;let(U,_):=r'.r.bl;exact k H2
variable{tp:Bool}{p1:Pos}{p2:Pos}{cq:Pos}
section
variable{X:Cx}{K:BT}{dl:Dl}
def gx(xs:ϓ):ϓ:=xs.zipIdx.map λp=>.t [.i (p.2:Nat),p.1]
def bM{z:T}(h:(gx xs)[i]?=Z z):∃x,xs[i]?=Z x/\z=.t [.i (i:Nat),x]:=by unfold gx at h;rw[fN]at h;let(p,hp,U):=gV.mp h;rw[List.getElem?_zipIdx]at hp;let(x,hx,U):=gV.mp hp;exact(x,hx,ad)
def aU:(gx xs).length=xs.length:=by simp[gx]
def EJ{xs:ϓ}:rE K dl (Ite K O a) (gx xs) [(.ref a,.t xs)] where
 go:=λH i D h hi=>by
  let(F,r):=h (.ref a,.t xs) ad;let(p,vs,e,h1,h2):=r.r.tup;cases e;rw[aU]at hi;have l1:i<vs.length:=by rw[h2.len];omega
  exact(vs,vs[i],SqT.of h1,by simp[l1])
 yld:=λH i x fp v H' D h hx y=>by
  have r:=h (.ref a,.t xs) ad;let(p,vs,e,h1,h2):=r.r.tup;cases e;let(x1,ak,U):=bM hx;let(w1,G1,ar,V,g):=h2.get ak;let(q,u1,hq,U,U,Q):=y;have e1:=Q vs (SqT.of h1);rw[ar]at e1;cases e1;have rs:Rps K dl H [.int (i),w1] [.i (i),x1] ([]++(G1++[])):=Rps.cons (.i _,nofun) (Rps.cons (V,λb P=>r.n b (g b P)) (.nil,nofun));refine((Evo.refl D).new hq,_,rs.tup D hq,λc P=>.inr ?_);rw[qp]at P;exact(_,ad,g c P)
 stop:=λH D h=>by
  let(F,r):=h (.ref a,.t xs) ad;let(p,vs,e,h1,h2):=r.r.tup;cases e;exact(vs,SqT.of h1,by rw[aU,h2.len];exact kB _)
variable{e a b:Ev}{te ta:TE}{qe:QE}{tl:TA}{ql:QA}{pos p:Pos}
def X5(ql:QA):QI:=λq Q=>ql q λts=>match ts with|[.t xs]=>Q (gx xs)|_=>False
def iy{ta:TA}(z:X.K=K)(hg:Gl X "enumerate")(hm:X.mg "enumerate"=Y)(P:bootBuiltins "enumerate"=Z (.type "enumerate"))(q:PA X [a] ta)(hs:AD X a):
  PI X (.Tuple elts g pos') (.Call (.Name "enumerate" p) [a] [] pos) (qF K tp ta):=by subst z;exact Oa hg hm P q hs
def yd{x1}(hg:Gl X "enumerate")(hm:X.mg "enumerate"=Y)(eQ:bootBuiltins "enumerate"=Z (.type "enumerate"))(V:QPA X K [a] tl ql)(hs:‹AD X a›)(hK:‹X.K=K›):
  QPI X K (.Tuple elts x1 pos') (.Call (.Name "enumerate" p) [a] [] pos) (qF K O tl) (X5 ql):=(iy hK hg hm eQ V.h hs,λdl H σ q Q R rd hq k=>V.s dl H σ q _ _ rd hq λvs ts F H' e1 r _ z=>by
 split at z
 ·let(v,U,P):=r.one;let(l1,g,U,h1,h2):=P.r.tup;exact(l1,U,(g,SqT.of h1),k _ _ _ H' e1 EJ (λp hp=>by rw[fy.mp hp];exact(_,P)) z)
 exact z.elim)
def Vj(qe:QE):QE:=λq Q=>qe q λt=>match t with|.t xs=>T.ims xs=O/\Q (.l xs.reverse)|_=>False
def aC.snoc(hv:aM K dl H v t []){vs:Ω}(h:aC K dl H vs ts F):F=[]->aC K dl H (vs++[v]) (ts++[t]) []:=
 h.ind (λ_=>.cons hv .nil) λ_ _ _ _ _ _ h _ g e=>by
  let(z,q):=DE.mp e;subst z;exact .cons h (g q)
def aC.rev{vs:Ω}(h:aC K dl H vs ts F):F=[]->aC K dl H vs.reverse ts.reverse []:=
 h.ind (λ_=>.nil) λ_ _ _ _ _ _ h _ g e=>by
  let(z,q):=DE.mp e;subst z;rw[Y5,Y5];exact aC.snoc h (g q) U
def yr(hK:X.K=K)(hc:X.calm=O)(V:Gl X "list")(P:X.mg "list"=Y)(Q:Gl X "reversed")(z:X.mg "reversed"=Y)(he:PE X e te)
  (q:AD X e) (g:mJ [.Call (.Name "reversed" p2) [e] [] cq] X.env=[(ϊ,eval (.Call (.Name "reversed" p2) [e] [] cq) X.env)]):
  PE X (.Call (.Name "list" p1) [.Call (.Name "reversed" p2) [e] [] cq] [] pos) (oU K te):=by subst hK;exact An hc V P Q z he q g
def z6(hc:X.calm=O)(ay:Gl X "list")(ar:X.mg "list"=Y)(av:Gl X "reversed")(ak:X.mg "reversed"=Y)(he:QPE X K e te qe)
  (V:‹AD X e›) (P:‹mJ [.Call (.Name "reversed" p2) [e] [] cq] X.env=[(ϊ,eval (.Call (.Name "reversed" p2) [e] [] cq) X.env)]›) (hK:‹X.K=K›):
  QPF X K (.Call (.Name "list" p1) [.Call (.Name "reversed" p2) [e] [] cq] [] pos) (oU K te) (Vj qe):=
 (yr hK hc ay ar av ak he.h V P,λdl H σ q Q R rd hq k=>he.s dl H σ q _ _ rd hq λv t F H1 e1 r g=>by
  split at g
  ·let(i1,g):=g;obtain rfl:=r.r.im i1;let(l,vs,U,h1,h2):=r.r.tup;refine(l,vs,U,SqT.of h1,λp hp=>?_);have rs:Rps K dl H1 vs.reverse _ []:=(h2.rev U,cc);exact k _ _ [p] _ (e1.new hp) (rs.lst e1.d hp) (λb hb=>by rw[fy.mp hb];exact e1.free hp) ad g
  exact g.elim)
inductive Jq(x:V)(vs:Ω)(H:Hp)(Q:VK):Prop
 |mk(a p:J)(ps:Θ)(kvs more:ϐ)(h1:x=.ref a)(h2:vs=[.ref p])(h3:H a=Z (.dK kvs))(h4:H p=Z (.lst (ps.map V.ref)))(h5:ps.length=more.length)(h6:(∀(i:Nat)(b:J)(kv:Key×V),ps[i]?=Z b->more[i]?=Z kv->H b=Z (.tup [kV kv.1,kv.2])))(h7:kvs.length+more.length<=mu)(h8:Q .non (upd H a (.dK (ja kvs more))))
def KR(hc:X.calm=O):MtR X "dict.update" Jq:=by
 intro gd s σ H x vs v us Q I rx rv h;let(a,p,ps,kvs,more,U,U,ha,hp,hl,P,hz,q):=h;cases rx;let(u,U,ru):=rv.one;cases ru;have hh:=I.ok.hd hc;let(z1,ar,av,r1,d1):=LF I.hok ha;let(ay,its,n,g,e):=(I.hok p _ hp);let(pairs,kv,uJ):=Ar I g hl P;have ak:=g.length;rw[cU]at ak;have aP:=Paired.length kv;have l1:=Paired.length r1;have V:=j7 hp ha (λz=>nomatch z);refine call_meetsIn PySem.F.slot_dict_update d1.typeIs PySem.F.entry_dict_update (PySem.F.args_dict_update_2 _ _) (S:=λA R s'=>s'=s/\A=X.A/\R=wants (EP X gd σ Q) X.xe) (λA R s' (e1,e2,e3)=>?_) (U,U,U);subst e1 e2 e3;refine dN (dN (wpAny_notOrdered_dict d1.typeIs (kA (ie (pairs:=pairs) hh d1 V (_,n,e,U,U,.inr U) ap (by rw[qg];lia) (λi v hv=>?_) λh' tk hk hd=>?_))))
 ·let(b,ob,key,val,k,m,e1,e2,e3,e4,e5,e6):=uJ i v (hv:);exact(b,ob,key,val,k,m,e1,e2,e3,e4,e5,e6)
 refine(.non,_,?_,U,q);have K:=sF (fw more kvs) hz;have he:∃q,h'.get? a=Z q:=let(q,_,_,hq,_):=hd;(q,hq);exact I.write (by rw[ha];exact True.intro) (.inl U) (λb q hb z=>hk b q hb z) he (uU K ar (KV.merge kv r1) hd)
def RV(i:Nat)(qe:QE):QS:=λD q=>match q[i]? with
 |some (.o (.d xs))=>qe q λt=>match t with|.l ys=>T.imk xs=O/\T.ims ys=O/\Ex4 (λg=>cO ys=Z g) (λg=>xs.length+g.length<=mu) (λg=>(q.set i (.o (.d (dg xs g))))) D.nx|_=>False
 |_=>False
variable{o:Ev}{apos aY:Pos}
def M5{i:Nat}(he:lr K te qe):lj K (sT (tBM K "dict" Jq (cp i) (dy te iP))) (RV i qe):=λdl be hs H σ q Dq D (F,r) hq E=>by
 unfold RV at hq;split at hq
 ·rename_i xs ei;let(v,hv,rp):=r.g i _ _ ei U;let(p,vs,G,U,eF,h1,h2):=rp.r.dic;refine(_,hv,.inr (.inr (.inl (U,.inl (_,h1)))),he dl H σ q _ _ r.rd hq λw t F' H' e1 r1 f1 n1 z=>?_);split at z
  ·let(ar,ak,ay,ek,hl,z):=z;have V:=rp.evo r.d e1;let(p',Q,G',e',aQ,av,P):=V.r.dic;cases e';obtain rfl:=P.im ar;let(p2,ws,G2,U,aP,h3,h4):=r1.r.lst;obtain rfl:=h4.im ak;let(ps,more,U,hlen,ht,hk):=h4.pairs U ek;exact(p,p2,ps,Q,more,U,U,av,h3,hlen,ht,by rw[P.len,hk.len];exact hl,(E.nx _ _ _ (r.Je ei hv e1 (a9.dg (kvs':=[]) (kts':=[]) hk U P)) z))
  exact z.elim
 exact hq.elim
def RM{d6:Pos}(z:X.calm=O)(ho:PE X o (cp i))(he:QPF X K e te qe)(P:‹X.K=K›)(V:‹attributeBase o "update" X.env (eval o X.env)=eval o X.env›)
  (q:‹At X aY [e]›)
  (cP:‹(apos.endLine==aY.line)=true›) (hs:‹AC X e []›) (Q:‹(backTo aY (mJ [] X.env)).any (·.1)=false›)
  (g:‹swapsWith (.Call (.Attribute o "update" apos) [e] [] aY) Y d6.line X.env=pure false›):
  QPS X K (.Expr (.Call (.Attribute o "update" apos) [e] [] aY) d6) (sT (tBM K "dict" Jq (cp i) (dy te iP))) (RV i qe):=
 (yl (by subst P;exact Et PySem.F.plainAttrs_dict PySem.F.slot_dict_update PySem.F.type_dict_update (KR z) ho (cn he.h eB hs) V q cP hs Q) g,M5 he.s)
end
variable{d:J}{l:J}
section
variable{X:Cx}{K:BT}{dl:Dl}{v:V}{F:Θ}
def aM.rj(h:aM K dl H v (.fd o vs ts) F):∃a,v=.ref a/\F=[]/\H a=Z (.frz o (.dK vs))/\a9 K dl H vs ts []:=by cases h with|fd h r=>exact(_,rfl,rfl,h,r)
def Tp:Key->T
 |.inl i=>.i i|.inr s=>.s s
def Ld(k:Key):aM K dl H (kV k) (Tp k) []:=by cases k with|inl i=>exact .i i|inr s=>exact .s s
theorem a9.ks:∀{vs:ϐ}{ts:ϔ}{F:Θ},a9 K dl H vs ts F->vs.map (·.1)=ts.map (·.1)
 |_,_,_,.nil=>rfl|_,_,_,.cons _ r=>by rw[ro,ro,a9.ks r]
def Lh{o:Obj}{vs:ϐ}{ts:ϔ}:rE K dl (Itd a o vs) (ts.map λp=>Tp p.1) [(.ref a,.fd o vs ts)] where
 go:=λH i D h hi=>by
  let(F,r):=h (.ref a,.fd o vs ts) ad;let(_,e,_,h1,h2):=r.r.rj;cases e;rw[cU]at hi;exact(h1,by rw[h2.len];exact hi)
 yld:=λH i x fp v H' D h hx y=>by
  have r:=h (.ref a,.fd o vs ts) ad;let(_,e,_,h1,h2):=r.r.rj;let(U,kv,ek,U):=y;rw[fN]at hx;let(p,hp,U):=gV.mp hx;have e:=by
   have h1:(vs.map (·.1))[i]?=Z kv.1:=by rw[fN,ek];rfl
   rw[h2.ks,fN,hp]at h1;exact(Option.some.inj h1).symm
  rw[e];exact(.refl D,[],.c (Ld _),nofun)
 stop:=λH D h=>by
  let(F,r):=h (.ref a,.fd o vs ts) ad;let(_,e,_,h1,h2):=r.r.rj;cases e;exact(h1,by rw[cU,h2.len];exact kB _)
variable{tg e a:Ev}{te:TE}{qe:QE}
def X4(qe:QE):QI:=λq Q=>qe q λt=>match t with|.fd _ _ ts=>Q (ts.map λp=>Tp p.1)|_=>False
def Jz(h:QPE X K e te qe):QPI X K tg e (Lm te) (X4 qe):=(Kb h.h,λdl H σ q Q R rd hq k=>h.s dl H σ q _ _ rd hq λv t F H' z r g=>by
 split at g
 ·let(p,U,U,h1,h2):=r.r.rj;exact(p,_,_,U,h1,k _ _ _ H' z Lh (λp hp=>by rw[fy.mp hp];exact(_,r)) g)
 exact g.elim)
def oC.oth{a:J}(D:oC H d l)(h1:a≠d)(h2:a≠l):oC (upd H a o) d l:=by let(s,n,ls,Q):=D;exact(s,n,ls,by rw[au h1.symm];exact Q.hd,by rw[au h2.symm];exact Q.hl,Q.s0,Q.s1,Q.n0,Q.l0)
end
section
variable{K:BT}{dl:Dl}{F:Θ}
theorem aC.lookup{ns:Γ}{vs:Ω}{ts:ϓ}{F:Θ}{u:T}(r:aC K dl H vs ts F)(h:(ns.zip ts).lookup f=Z u):∃w G,(ns.zip vs).lookup f=Z w/\aM K dl H w u G/\∀b∈G,b∈F:=by
 induction ns generalizing vs ts F with
 |nil=>cases h
 |cons n ns q =>
   cases r with
   |nil=>cases h
   |cons h1 r =>
  rw[List.zip_cons_cons,wh]at h ⊢;cases e:(f==n)with
  |true =>
   rw[e]at h;cases h;exact(_,_,U,h1,λb g=>qh _ g)
  |false =>rw[e]at h;let(w,G,a1,a2,z):=q r h;exact(w,G,a1,a2,λb g=>pq _ (z b g))
end
section
variable{X:Cx}{K:BT}{dl:Dl}{a b:Ev}{ta tb:TE}{qa qb:QE}{pos:Pos}
def W3(qa qb:QE):QE:=λq Q=>qa q λt=>qb q λu=>match t,u with|.l xs,.i k=>Ex2 (λx=>atI xs k=Z x) Q|_,_=>False
def i3(ha:QPF X K a ta qa)(hb:QPE X K b tb qb)(hs:kY b:=by intro _ _;rfl)(hK:‹X.K=K›):QPF X K (.Subscript a b pos) (tOp (rIx K) ta tb) (W3 qa qb):=by
 refine(by subst hK;exact wM C6 ha.h hb.h hs,λdl H σ q Q R rd hq k=>(ha.s dl H σ q _ _ rd hq λv t F H1 e1 P f1 n1 V=>(hb.s dl H1 σ q _ _ (rd.evo e1) V λw u G H2 e2 r2 g=>?_)));have P:=P.evo e1.d e2;split at g
 ·let(U,U):=r2.r.int;let(p,vs,G,U,U,h1,h2):=P.r.lst;let(z,hz,hq):=g;let(j,hj,hi):=oq hz h2.len.symm;let(v,G',hv,rv,hs):=h2.Wl hj;have sub:∀c∈G',c∈p::G:=λc hc=>j5 _ (hs.subset hc);exact .inl (p,vs,_,v,U,U,SqL.of h1,vi hi hv,k v z G' H2 (e1.trans e2) (Rp.sub rv P.n sub) (λc hc=>f1 c (sub c hc)) ((vp.mp n1).2.sublist hs) hq)
 exact g.elim
end
section
variable{X:Cx}{K:BT}{dl:Dl}{a e:Ev}{te:TE}{qe:QE}{tl:TA}{ql:QA}{pos p:Pos}
def WG(ql:QA):QJ:=λq Q=>ql q λts=>match ts with|[.t xs]=>T.ims xs=O/\Q (gx xs) q|_=>False
def iZ{x1}(hg:Gl X "enumerate")(hm:X.mg "enumerate"=Y)(eQ:bootBuiltins "enumerate"=Z (.type "enumerate"))(ha:QPA X K [a] tl ql)(hs:‹AD X a›)(hK:‹X.K=K›):
  QPJ X K (.Tuple elts x1 pos') (.Call (.Name "enumerate" p) [a] [] pos) (qF K O tl) (WG ql):=(iy hK hg hm eQ ha.h hs,λdl be hs H σ q Q R (F0,r0) hq k=>ha.s dl H σ q _ _ r0.rd hq λvs ts F H' e1 r _ g=>by
 split at g
 ·let(i1,g):=g;let(v,U,V):=r.one;obtain rfl:=V.r.im i1;have q1:=(r0.evo e1).hold V λj u hj b hb z=>nomatch z;let(l1,P,U,h1,h2):=V.r.tup;exact(l1,U,(P,SqT.of h1),k _ _ _ H' q (F0,q1) EJ g)
 exact g.elim)
def R4(qe:QE):QE:=λq Q=>qe q λt=>match t with|.l xs=>T.ims xs=O/\Q (.l xs.reverse)|_=>False
def Ao(hK:X.K=K)(hc:X.calm=O)(V:Gl X "list")(P:X.mg "list"=Y)(Q:Gl X "reversed")(z:X.mg "reversed"=Y)(he:PE X e te)
  (q:AD X e) (g:mJ [.Call (.Name "reversed" p2) [e] [] cq] X.env=[(ϊ,eval (.Call (.Name "reversed" p2) [e] [] cq) X.env)]):
  PE X (.Call (.Name "list" p1) [.Call (.Name "reversed" p2) [e] [] cq] [] pos) (sS K te):=by subst hK;exact ug hc V P Q z he q g
def z7(hc:X.calm=O)(ay:Gl X "list")(ar:X.mg "list"=Y)(av:Gl X "reversed")(ak:X.mg "reversed"=Y)(he:QPE X K e te qe)
  (V:‹AD X e›) (P:‹mJ [.Call (.Name "reversed" p2) [e] [] cq] X.env=[(ϊ,eval (.Call (.Name "reversed" p2) [e] [] cq) X.env)]›) (hK:‹X.K=K›):
  QPF X K (.Call (.Name "list" p1) [.Call (.Name "reversed" p2) [e] [] cq] [] pos) (sS K te) (R4 qe):=
 (Ao hK hc ay ar av ak he.h V P,λdl H σ q Q R rd hq k=>he.s dl H σ q _ _ rd hq λv t F H1 e1 r g=>by
  split at g
  ·let(i1,g):=g;let(l,vs,G,U,U,h1,h2):=r.r.lst;obtain rfl:=h2.im i1;refine(l,vs,U,SqL.of h1,λp hp=>?_);have rs:Rps K dl H1 vs.reverse _ []:=(h2.rev U,cc);exact k _ _ [p] _ (e1.new hp) (rs.lst e1.d hp) (λb hb=>by rw[fy.mp hb];exact e1.free hp) ad g
  exact g.elim)
end
variable{A:Db}
section
def uI(hr:e7 k A):A.units+150<cLine:=by have:=hr.un;lia
end
def qD1(qk qv:QE):QE:=λq Q=>qk q λt=>qv q λu=>match t.key with|some k=>u.fl=O/\Q (.d [(k,u)])|none=>False
section
variable{X:Cx}{K:BT}{ek ev:Ev}{tk tv:TE}{qk qv:QE}{pos:Pos}
def TF.dict{kv kw:ϐ}(hp:H p=Z (.dK kv)):TF H (upd H p (.dK kw)):=
 have ne:∀{a:J}{o:HO},H a=Z o->(∀kv,o ≠ .dK kv)->a≠p:=λh n e=>by rw[e,hp]at h;exact n _ (Option.some.inj h).symm
 (λa vs h=>by rw[au (ne h nofun)];exact h,λa o u h=>by rw[au (ne h nofun)];exact h,λa φ h=>by rw[au (ne h nofun)];exact h,λa xs h=>(xs,by rw[au (ne h nofun)];exact h),λa x h=>(x,DG _,by rw[au (ne h nofun)];exact h))
def JE(hk:QPE X K ek tk qk)(hv:QPE X K ev tv qv):QPF X K (.Dict [Z ek] [ev] pos) (Qc [(tk,tv)]) (qD1 qk qv):=by
 refine(Eo (nc hk.h hv.h En) U U ad (by show 1<=15;decide),λdl H σ q Q R rd hq k=>λp hp=>?_);have e0:=(Evo.refl rd.d).new (o:=.dK []) hp;have nd:=rd.d.nd0 hp;refine hk.s dl _ σ q _ _ (rd.evo e0) hq λv t F H1 e1 r1 av=>(hv.s dl H1 σ q _ _ ((rd.evo e0).evo e1) av λw u G H2 e2 r2 g=>?_);split at g
 ·rename_i kk aQ;let(ay,g):=g;let(U,U):=r2.r.v ay;have aP:=r1.r.key aQ;have ak:=e2.k p _ (e1.k p _ aA nd nofun) nd nofun;have tf:=TF.dict (kw:=[(kk,u.v)]) ak;refine(ak,[(kk,u.v)],by rw[aP];rfl,(by show 1<=15;decide),?_);have e3:Evo dl H (upd H2 p (.dK [(kk,u.v)])):=by
   refine(λb o V hn nr=>?_,λd hd=>?_,λb x V=>?_)
   ·have P:b≠p:=λz=>by rw[z,hp]at V;cases V
    rw[au P];exact e2.k b o (e1.k b o (by rw[au P];exact V) hn nr) hn nr
   ·let(s0,n0,ar,D0):=e2.d d hd;have n1:=(nd d hd).1;have n2:=(nd d hd).2;exact(s0,n0,ar,{D0 with hd:=by rw[au n1.symm];exact D0.hd,hl:=by rw[au n2.symm];exact D0.hl})
   have P:b≠p:=λz=>by rw[z,hp]at V;cases V
   let(y,hy,e4):=(e1.trans e2).r b x (by rw[au P];exact V);exact(y,hy,by rw[au P];exact e4)
  exact k _ _ [p] _ e3 (.d aA (.cons (r2.r.d5 tf (λ_ z=>z) cc) .nil),λb V=>by rw[fy.mp V];exact nd) (λb V=>by rw[fy.mp V];exact hp) ad g
 exact g.elim
end
section
variable{X:Cx}{σ:St}{s:ϋ}{x:Int}
def Inv.Qo(I:Inv X gd σ H s){u:HO}(q:H a=Z u)(g:∀o v,u ≠ .frz o v):∀o v,X.be a≠Z (.frz o v):=λo v e=>by
 have:=I.base.k9 a o v e;rw[q]at this;exact g o v (Option.some.inj this)
def Inv.Ih(I:Inv X gd σ H s)(g:H a=Z (.lst [.int x])):Inv X gd σ (upd H a (.room x)) s:=by let(_,its,n,r,e):=(I.hok a _ g);exact I.zW g nofun nofun nofun (I.Qo g (λ_ _ z=>nomatch z)) (its,n,r,e)
def Inv.SR(I:Inv X gd σ H s)(g:H a=Z (.room x)):Inv X gd σ (upd H a (.lst [.int x])) s:=by let(its,n,r,e):=(I.hok a _ g);exact I.zW g nofun nofun nofun (I.Qo g (λ_ _ z=>nomatch z)) (by show 1<=mu;decide,its,n,r,e)
end
variable{dl:Dl}{p3:Pos}
section
variable{X:Cx}{K:BT}{a b e o:Ev}{ta tb te:TE}{qa qb qe:QE}{pos:Pos}
inductive Jn(x:V)(y:V)(H:Hp)(Q:VK):Prop
 |mk(p r:_)(h1:x=.ref p)(h2:y=.int 0)(h3:H p=Z (.room r))(h4:Q (.int r) H)
def EH:IxR X Jn:=by intro value slice gd s σ H x y v u Q I K z h hs;let(p,m,U,U,hq,q):=h;cases K;let(t,U):=z;let(its,n,r,e):=(I.hok p _ hq);have P:PlainL s.heap p its.toArray:=(_,n,e,U,U,U);let(w,ew,g):=r.get (show [V.int m][0]?=Z (.int m)from U);have fin:EP X gd σ Q w s:=(.int m,H,I,g,q);exact item_listR P.isList (DG 0) ac (ew:) fin hs
inductive Jh(o:V)(i:V)(v:V)(H:Hp)(Q:(Hp->Prop)):Prop
 |mk(p x y:_)(h1:o=.ref p)(h2:i=.int 0)(h3:v=.int y)(h4:H p=Z (.room x))(h5:Q (upd H p (.room y)))
def IT:Us X Jh:=by intro gd s σ H o i v V iv u Q I K P rv h;let(p,x,y,U,U,U,hp,q):=h;have I1:=I.SR hp;refine thn (set_list gd s σ _ (.ref p) (.int 0) (.int y) V iv u (λH'=>H'=upd H p (.lst [.int y])) I1 K P rv (p,[.int x],0,0,U,U,aA,U,by rw[fQ];rfl)) λ_ s' z=>?_;let(H',I',z):=z;subst z;have g:=I'.Ih aA;rw[fQ]at g;exact(_,g,q)
def P5(te:TE):TE:=λσ H Q=>te σ H λv H1=>∃a x,v=.ref a/\H1 a=Z (.lst [.int x])/\Q v (upd H1 a (.room x))
def Ob(he:PE X e te):PE X e (P5 te):=by left;refine thn (he gd s σ H _ I h) λu s' g=>?_;let(v,H',K,r,a,x,P,z,q):=g;exact(v,_,K.Ih z,r,q)
def Evo.fresh{a:J}{o:HO}(e:Evo dl H H')(g:H a=Y)(nd:Nd dl a):Evo dl H (upd H' a o):=
 (λb u h n r=>by rw[au (bj h g)];exact e.k b u h n r,λp hp=>(e.d p hp).oth (nd p hp).1 (nd p hp).2,λb x h=>let(y,q,z):=e.r b x h;(y,q,by rw[au (bj h g)];exact z))
def Vf(qe:QE):QE:=λq Q=>qe q λt=>match t with|.l [.i x]=>Q (.rm x)|_=>False
def NF(he:QPF X K e te qe):QPF X K e (P5 te) (Vf qe):=(Ob he.h,λdl H σ q Q R rd hq k=>he.s dl H σ q _ _ rd hq λv t F H1 e1 P f1 n1 g=>by
 cases t with
 |l xs =>
  cases xs with
  |cons y V =>
   cases y with
   |i x =>
    cases V with
    |nil =>
     let(p,vs,G,U,U,h1,h2):=P.r.lst;cases h2 with
     |cons h3 h4 =>
      cases h4;let(U,U):=h3.int;exact(p,x,U,h1,k _ (.rm x) [] _ (e1.fresh (f1 p j0) (P.n p j0)) (.rm aA (DG _),nofun) nofun lu g)
    |cons _ _=>exact g.elim
   |_=>exact g.elim
  |nil=>exact g.elim
 |_=>exact g.elim)
def R5:Q2:=λt u Q=>match t,u with|.rm m,.i k=>k=0/\∀r,r<=m->Q (.i r)|_,_=>False
def Ng:HE K Jn R5:=by
 intro dl H x y t u F G Q R D q g hq k;unfold R5 at hq;cases t with
 |rm m =>
  cases u with|i k =>let(p,m,U,h1,h2,_):=q.r.roo;let(U,_):=g.r.int;let(U,hq):=hq;exact(p,m,U,U,h1,k _ (.i m) [] H (.refl D) (.i m,nofun) (hq m h2))|_=>exact hq.elim
 |_=>exact hq.elim
def NG(q:QPE X K a ta qa)(g:QPE X K b tb qb)(hs:kY b:=by intro _ _;rfl):QPE X K (.Subscript a b pos) (tOp Jn ta tb) (qOp R5 qa qb):=(wM EH q.h g.h hs,tj Ng q.s g.s)
def CB(i:Nat)(qe:QE):QS:=λD q=>match q[i]? with
 |some x=>match x.get with
  |some (.rm u)=>qe q λt=>match t with|.i k=>0<=k/\D.nx (q.set i (.r (.rm (u-k))))|_=>False
  |_=>False
 |none=>False
def Qg:R2:=rI0 λi j=>.int (i-j)
def IS{α:Type}{xs:List α}{i:Nat}{x:α}(h:xs[i]?=Z x):xs.set i x=xs:=by let(hl,e):=jm.mp h;subst e;exact List.set_getElem_self hl
def F9{i:Nat}(he:jE K te qe):lj K (iQ (tOp Qg (tOp Jn (cp i) (tC (.int 0))) te) (Ly (cp i) (tC (.int 0)) Jh)) (CB i qe):=λdl be hs H σ q Dq D (F,r) hq E=>by
 unfold CB at hq;split at hq
 ·rename_i x ex;split at hq
  ·rename_i u eg;let(v,hv,rp):=r.g i x _ ex eg;let(p,m,U,h1,h2,hF):=rp.r.roo;refine(_,hv,p,m,U,U,h1,he dl H σ q _ _ r.rd hq λw t F1 H1 V r1 Q=>?_);split at Q
   ·rename_i k;let(hk,Q):=Q;let(U,_):=r1.r.int;let(y,hy,e2):=V.r p m h1;have nd:=r.d.nd h1 nofun nofun;refine(m,k,U,U,_,hv,p,y,m-k,U,U,U,e2,?_);have ev:Evo dl H (upd H1 p (.room (m-k))):=by
     refine(λb o P n nr=>?_,λd hd=>(V.d d hd).oth (nd d hd).1 (nd d hd).2,λb z P=>?_)
     ·have ne:b≠p:=λz=>by rw[z,h1]at P;exact nr _ (Option.some.inj P).symm
      rw[au ne];exact V.k b o P n nr
     by_cases eb:b=p
     ·subst eb;rw[h1]at P;cases P;exact(_,Int.sub_le_self _ hk,aA)
     let(z',ak,e3):=V.r b z P;exact(z',ak,by rw[au eb];exact e3)
    have R2:=(r.evo ev).Sg (t:=.rm (u-k)) (jm.mp ex).1 (.rm aA ap,nofun) (λ_ _ _ _ _ _=>v5);rw[IS hv]at R2;exact E.nx _ _ _ (_,R2) Q
   exact Q.elim
  exact hq.elim
 exact hq.elim
def zX{p4 Q P z:Pos}{g V:Nat}(ho:PE X (.Name x p1) (cp i))(ak:PE X (.Name x p3) (cp i))(he:QPE X K e te qe)
  (hs:‹swapsWithSole [.Subscript (.Name x p1) (.Constant (.int 0) g p4) pos'] (.BinOp (.Subscript (.Name x p3) (.Constant (.int 0) V Q) P) .Sub e z) pos.line X.env=pure false›) (hw:‹swappedStores [.Subscript (.Name x p1) (.Constant (.int 0) g p4) pos'] (.BinOp (.Subscript (.Name x p3) (.Constant (.int 0) V Q) P) .Sub e z) X.env=pure none›)
  (h1:‹(assignEach [.Subscript (.Name x p1) (.Constant (.int 0) g p4) pos'] X.env).map (·.2)=[assign (.Subscript (.Name x p1) (.Constant (.int 0) g p4) pos') X.env]›)
  (ha:∀v,assign (.Subscript (.Name x p1) (.Constant (.int 0) g p4) pos') X.env v=(do
let q <- holding [v] (eval (.Name x p1) X.env)
let iv <- holding [v,q] (eval (.Constant (.int 0) g p4) X.env)
standAt pos'
holding [v,q,iv] (setItem q iv v)
release [v,q,iv] []):=by intro _;rfl):
  QPS X K (.Assign [.Subscript (.Name x p1) (.Constant (.int 0) g p4) pos'] (.BinOp (.Subscript (.Name x p3) (.Constant (.int 0) V Q) P) .Sub e z) pos) (iQ (tOp Qg (tOp Jn (cp i) (tC (.int 0))) te) (Ly (cp i) (tC (.int 0)) Jh)) (CB i qe):=
 (yn (cW CL (wM EH ak bX (λ_ _=>rfl)) he.h) (Kc ho bX IT ha) hs hw h1,F9 he.s)
end
def T.dof:T->Option (ϔ)
 |.d ks=>Z ks|.fd _ _ ks=>Z ks|.dp _ ks=>Z ks|_=>Y
variable{neg:Bool}{td:TE}{qd:QE}
section
variable{X:Cx}{K:BT}{v:V}{F:Θ}{a b c e:Ev}{ta tb tk tx te:TE}{qa qb qk qx qe:QE}{pos apos aY:Pos}
theorem aM.dof{t:T}(h:aM K dl H v t F)(e:t.dof=Z ks):∃a vs G,v=.ref a/\Rd H a (.dK vs)/\a9 K dl H vs ks G/\∀b∈G,b∈F:=by
 cases t with
 |d g =>
  cases e;let(a,vs,G,U,U,h1,h2):=h.dic;exact(a,vs,G,U,.inl h1,h2,λ_ q=>j5 _ q)
 |fd o vs g =>
  cases e;let(a,U,U,h1,h2):=h.rj;exact(a,vs,[],U,.inr (_,h1),h2,λ_ q=>q)
 |dp a g =>
  cases e;let(vs,G,U,U,h1,h2):=h.dpp;exact(a,vs,G,U,.inl h1,h2,λ_ q=>j5 _ q)
 |_=>cases e
def gG.rd{a:J}{kvs:ϐ}{k:Key}(e:Rd H a (.dK kvs)):gG H a (kV k) (bV kvs k):=.inl (kvs,k,e,U,U)
def JP(neg:Bool):Q2:=λt u Q=>match u.dof with
 |some ks=>match t.key with|some k=>Q (.b (if neg then !(bH ks k).isSome else(bH ks k).isSome))|none=>False
 |none=>False
def mW:dD K (Nz neg) (JP neg):=by
 intro dl H x y t u F G Q R D r1 V hq k;unfold JP at hq;split at hq
 ·rename_i ks P;split at hq
  ·rename_i k0 ek;let(p,vs,G,U,h1,h2,_):=V.r.dof P;rw[r1.r.key ek];refine(p,_,U,gG.rd h1,k _ _ [] H (.refl D) (.c (.b _)) cc lu ?_);have e:(bV vs k0).isSome=(bH ks k0).isSome:=by
    obtain⟨q,g⟩|⟨_,_,_,q,g,_⟩:=h2.look k0
    ·rw[q,g];rfl
    rw[q,g];rfl
   rw[e];exact hq
  exact hq.elim
 exact hq.elim
def gI:Q2:=λt u Q=>match t.dof with
 |some ks=>match u.key with|some k=>Ex2 (λx=>bH ks k=Z x) Q|none=>False
 |none=>False
inductive Jo(x:V)(y:V)(H:Hp)(Q:VK):Prop
 |mk(a kvs k v:_)(h1:x=.ref a)(h2:y=kV k)(h3:Rd H a (.dK kvs))(h4:bV kvs k=Z v)(h5:Q v H)
def Le:IxR X Jo:=by intro value slice gd s σ H x y v u Q I P K h hs;let(a,kvs,k,w,U,U,V,hv,q):=h;cases P;let(z,hd,vs,rel,dd):=gU I.hok V;let(w',hw,g):=ku.some_of (by rw[<- hv];exact rel.val k);exact subscriptTail_builtinR dd.typeIs PySem.F.slot_dict_getitem.lookup (wpAny_getItem_of (lG K) dd.mapOf hw (U,w,H,I.tok _,g,q)) hs
def IH:HE K Jo gI:=by
 intro dl H x y t u F G Q R D r1 r2 hq k;unfold gI at hq;split at hq
 ·rename_i ks P;split at hq
  ·rename_i k0 ek;let(z,g,hq):=hq;let(p,vs,G,U,h1,h2,sub):=r1.r.dof P;rw[r2.r.key ek];obtain⟨q,V⟩|⟨t',v,G',q,V,z3,z4⟩:=h2.look k0
   ·rw[q]at g;cases g
   rw[q]at g;cases g;exact(p,vs,k0,v,U,U,h1,V,k v _ G' H (.refl D) (Rp.sub z3 r1.n λb hb=>sub b (z4 b hb)) hq)
  exact hq.elim
 exact hq.elim
def cN(q:QPE X K a ta qa)(g:QPE X K b tb qb)(hs:kY b:=by intro _ _;rfl):QPE X K (.Subscript a b pos) (tOp Jo ta tb) (qOp gI qa qb):=(wM Le q.h g.h hs,tj IH q.s g.s)
def Eh(qd qk qx:QE):QE:=λq Q=>qd q λd=>match d.dof with
 |some ks=>qk q λu=>match u.key with|some k=>qx q λx=>Q ((bH ks k).getD x)|none=>False
 |none=>False
def yg{d f:Ev}(hu:X.A.units+1<cLine)(hd:QPE X K d td qd)(hk:QPE X K e tk qk)(hx:QPE X K f tx qx)(m:M2 X d "get" apos e f aY:=by exact(U,U,U,U)):QPE X K (.Call (.Attribute d "get" apos) [e,f] [] aY) (B9 td tk tx) (Eh qd qk qx):=
 (Aq hu hd.h hk.h hx.h m,λdl H σ q Q R rd hq k=>hd.s dl H σ q _ _ rd hq λv t F H1 V r1 hq=>by
  split at hq
  ·rename_i ks g;let(p,vs,G,U,h1,h2,sub):=r1.r.dof g;refine(p,U,.inl (vs,h1),hk.s dl H1 σ q _ _ (rd.evo V) hq λy u F2 H2 P r2 hq=>?_);split at hq
   ·rename_i k0 ek;refine hx.s dl H2 σ q _ _ ((rd.evo V).evo P) hq λz w F3 H3 e3 r3 hq=>?_;have rp:=(r1.evo V.d P).evo P.d e3;let(p',av,G',e',ar,ak,UW):=rp.r.dof g;cases e';rw[r2.r.key ek];refine(_,gG.rd ar,?_);obtain⟨z1,z2⟩|⟨t,v,G2,z1,z2,z3,z4⟩:=ak.look k0
    ·rw[z2];rw[z1]at hq;exact k _ _ F3 H3 ((V.trans P).trans e3) r3 hq
    rw[z2];rw[z1]at hq;exact k _ _ G2 H3 ((V.trans P).trans e3) (Rp.sub z3 rp.n λb hb=>UW b (z4 b hb)) hq
   exact hq.elim
  exact hq.elim)
inductive wJ(xs:Ω)(H:Hp)(Q:VK):Prop
 |mk(p:J)(kvs:ϐ)(h1:xs=[.ref p])(h2:Rd H p (.dK kvs))(h3:∀d,H d=Y->Q (.ref d) (upd H d (.dK kvs)))
theorem eV:cL X (.type "dict") wJ:=by
 intro gd s σ H xs us Q I r h;let(p,kvs,U,hp,q):=h;let(u,U,ru):=vals1 r;cases ru;let(z,ak,vs,kv,dd):=gU I.hok hp;refine callType_codes (Q₁:=λobj K=>obj=.ref s.heap.objs.size/\K={s with heap:=s.heap.push {cls:=.type "dict",data:=.dict #[]}}) F.kt_called_dict (F.kt_typeCall_dict_1 _) F.entry_dict_init (kt_code_dict_new _ (U,U)) ?_;rintro obj K ⟨rfl,rfl⟩;have mv:(s.heap.push {cls:=.type "dict",data:=.dict #[]}).DictOf (a8 X.prog X.w) s.heap.objs.size []:=Heap.DictOf.new s.heap;have av:p<s.heap.objs.size:=by let(o,_,_,e,_):=dd;exact kz e
 have g:(s.heap.push {cls:=.type "dict",data:=.dict #[]}).DictOf (a8 X.prog X.w) p vs:=by let(o,es,ep,e,r):=dd;exact(o,es,ep,gs _ e,r)
 have V:(vs.map (·.1)).Nodup:=by let(o,es,ep,_,_,_,_,_,n):=dd;exact n
 have aP:=Paired.length kv;refine(mv.typeIs,F.args_dict_init_2 _ _,?_);refine dN ?_;refine dN (wpAny_notOrdered_dict mv.typeIs ?_);refine kA ?_;refine dN (Tz g.typeIs (dN (dN (dN (Ys g.typeIs isSubtype_dict_dict (dN (Rj g.typeIs F.slot_dict_iter.lookup (kA (wpAny_mergeDict (D7 av) ak mv g λh' P ay ar=>?_)))))))));rw[merged_nil_of_nodup _ V]at P;refine dN (kA (kA (U,.ref s.heap.objs.size,_,I.laid (λb u e=>?_) (kB _) (uU z ?_ kv P),U,q _ (I.hok.fresh (kB _)))))
 ·rw[ar.2 b (rl (kz e))];exact gs _ e
 have:=I.big;exact beq_eq_false_iff_ne.mpr (D7 this)
def pB:QC:=λts Q=>match ts with
 |[t]=>match t.dof with|some ks=>T.imk ks=O/\Q (.d ks)|none=>False
 |_=>False
def fR:mG K wJ pB:=by
 intro dl H vs ts F Q R D r hq k;unfold pB at hq;split at hq
 ·split at hq
  ·rename_i ks q;let(v,U,P):=r.one;let(p,kvs,G,U,h1,h2,sub):=P.r.dof q;obtain rfl:=h2.im hq.1;refine(p,kvs,U,h1,λd hd=>?_);have ev:Evo dl H (upd H d (.dK kvs)):=(Evo.refl D).new hd;exact k _ _ [d] _ ev (.d aA (h2.d5 (ev.tf D) (λ_ z=>z) cc),λb g=>by rw[fy.mp g];exact D.nd0 hd) (λb g=>by rw[fy.mp g];exact hd) ad hq.2
  exact hq.elim
 exact hq.elim
def P9(te:TE):TE:=λσ H Q=>te σ H λv H1=>∃a kvs,v=.ref a/\H1 a=Z (.dK kvs)/\∀o,Q v (upd H1 a (.frz o (.dK kvs)))
def Oe(he:PE X e te):PE X e (P9 te):=by left;refine thn (he gd s σ H _ I h) λu s' g=>?_;let(v,H',P,r,a,kvs,V,z,q):=g;let(_,o,K):=P.freeze z;exact(v,_,K,r,q o)
def Vo(qe:QE):QE:=λq Q=>qe q λt=>match t with|.d ks=>T.imk ks=O/\∀o vs,Q (.fd o vs ks)|_=>False
def TF.Ws{kv:ϐ}{o:Obj}{u:HO}(hp:H p=Z (.dK kv)):TF H (upd H p (.frz o u)):=
 have ne:∀{a:J}{o:HO},H a=Z o->(∀kv,o ≠ .dK kv)->a≠p:=λh n e=>by rw[e,hp]at h;exact n _ (Option.some.inj h).symm
 (λa vs h=>by rw[au (ne h nofun)];exact h,λa o u h=>by rw[au (ne h nofun)];exact h,λa φ h=>by rw[au (ne h nofun)];exact h,λa xs h=>(xs,by rw[au (ne h nofun)];exact h),λa x h=>(x,DG _,by rw[au (ne h nofun)];exact h))
def rQ(he:QPF X K e te qe):QPF X K e (P9 te) (Vo qe):=(Oe he.h,λdl H σ q Q R rd hq k=>he.s dl H σ q _ _ rd hq λv t F H1 V P f1 n1 g=>by
 split at g
 ·rename_i ks;let(p,vs,G,U,U,h1,h2):=P.r.dic;obtain rfl:=h2.im g.1;exact(p,vs,U,h1,λo=>k _ (.fd o vs ks) [] _ (V.fresh (f1 p j0) (P.n p j0)) (.fd aA (h2.d5 (TF.Ws h1) (λ_ z=>z) cc),cc) cc lu (g.2 o vs))
 exact g.elim)
end
variable{be:Hp}{q:Sq}
section
variable{X:Cx}{K:BT}{t:TS}{qt:QS}
inductive Im(i:Nat)(t:TS)(D:Ends)(σ:St)(H:Hp):Prop
 |mk(a kvs:_)(h1:σ[i]?=Z (Z (.ref a)))(h2:H a=Z (.dK kvs))(h3:∀o,t D σ (upd H a (.frz o (.dK kvs))))
def Sj(h:PS X st t):PS X st (Im i t):=by intro gd s σ H D I z;let(a,kvs,_,g,k):=z;let(_,o,q):=I.freeze g;exact h gd s σ _ D q (k o)
def JN(i:Nat)(qt:QS):QS:=λD q=>match q[i]? with|some (.o (.d ks))=>T.imk ks=O/\∀o vs,qt D (q.set i (.o (.fd o vs ks)))|_=>False
theorem Rel.frz{o:Obj}(r:Rel K dl be hs H σ q F)(ei:q[i]?=Z (.o (.d ks)))(hv:σ[i]?=Z (Z (.ref a)))(eF:F i=[a])(rp:Rp K dl H (.ref a) (.d ks) (F i))(h1:H a=Z (.dK vs))(h2:a9 K dl H vs ks []):kr K dl be hs (upd H a (.frz o (.dK vs))) σ (q.set i (.o (.fd o vs ks))):=by
 refine(Ga F i [],?_);have tf:=TF.Ws (o:=o) (u:=.dK vs) h1;have na:=rp.n a (by rw[eF];exact j0);let(o1,o2,o3):=r.o i _ ei;have st:∀{w:V}{u:T}{Fw:Θ},Rp K dl H w u Fw->a ∉ Fw->Rp K dl (upd H a (.frz o (.dK vs))) w u Fw:=λ{w u Fw} h np =>
  (h.r.d5 tf (λ_ z=>z) λb P ob e=>(by have n0:b≠a:=λz=>np (by rw[<- z];exact P);rw[au n0];exact e),h.n)
 refine(λd hd=>(r.d d hd).oth (na d hd).1 (na d hd).2,λj x u h3 h4=>?_,λj x h3 h4=>?_,λj Q=>?_,λj u h3=>?_,λp hp=>?_,(λb ob P nb nr=>?_,λb x P=>?_),by simp[r.l])
 ·obtain⟨rfl,rfl,_⟩|⟨ne,h3⟩:=get_set h3
  ·cases h4;exact(_,hv,by rw[bR];exact(.fd aA (h2.d5 tf (λ_ z=>z) cc),cc))
  let(w,h5,h6):=r.g j x u h3 h4;exact(w,h5,by rw[bu ne];exact st h6 (o3 j ne a (by rw[eF];exact j0)))
 ·obtain⟨rfl,rfl,_⟩|⟨ne,h3⟩:=get_set h3
  ·cases h4
  rw[bu ne];exact r.n j x h3 h4
 ·rw[Ye]at Q;by_cases e:j=i
  ·rw[e,bR]
  rw[bu e];exact r.z j Q
 ·obtain⟨rfl,e,_⟩|⟨ne,h3⟩:=get_set h3
  ·rw[bR];exact(lu,λ_ z=>absurd z v5,λ_ _ _ z=>absurd z v5)
  rw[bu ne];let(p1,p2,p3):=r.o j u h3;refine(p1,p2,λk hk b P=>?_);by_cases ek:k=i
  ·rw[ek,bR];exact v5
  rw[bu ek];exact p3 k hk b P
 ·let(Fp,h3,h4):=r.h p hp;refine(Fp,st h3 (h4 i _ ei a (by rw[eF];exact j0)),λj u Q b P z=>?_);obtain⟨rfl,e,_⟩|⟨ne,Q⟩:=get_set Q
  ·rw[bR]at P;cases P
  rw[bu ne]at P;exact h4 j u Q b P z
 ·have n0:b≠a:=λz=>by rw[z,o2 a (by rw[eF];exact j0)]at P;cases P
  rw[au n0];exact r.f.k b ob P nb nr
 have n0:b≠a:=λz=>by rw[z,o2 a (by rw[eF];exact j0)]at P;cases P
 rw[au n0];exact r.f.r b x P
def IK{i:Nat}(h:lj K t qt):lj K (Im i t) (JN i qt):=λdl be hs H σ q Dq D (F,r) hq E=>by
 unfold JN at hq;split at hq
 ·rename_i ks P;let(v,hv,z):=r.g i _ _ P U;let(a,vs,G,U,Q,h1,h2):=z.r.dic;obtain rfl:=h2.im hq.1;exact(a,vs,hv,h1,λo=>h dl be hs _ σ _ Dq D (r.frz P hv Q z h1 h2) (hq.2 o vs) E)
 exact hq.elim
def ph(h:QPS X K st t qt):QPS X K st (Im i t) (JN i qt):=(Sj h.h,IK h.s)
end
section
variable{X:Cx}{σ:St}{s:ϋ}{u1 u2 v1 v2:HO}{C:J}{fs:List (Str×V)}
def Inv.Jd(I:Inv X gd σ H s)(ne:d≠a)(V:H a=Z v1)(hd:H d=Z v2)(t1:∀xs,v1 ≠ .tup xs)(t2:∀xs,v2 ≠ .tup xs)(b1:∀ps,v1 ≠ .tbl ps)(b2:∀ps,v2 ≠ .tbl ps)(z1:∀o v,v1 ≠ .frz o v)(z2:∀o v,v2 ≠ .frz o v)(w1:∀c,v1 ≠ .own c)(w2:∀c,v2=.own c->c=a)
  (Xh:di X.prog X.w (upd (upd H a u1) d u2) s.heap a u1) (Xg:di X.prog X.w (upd (upd H a u1) d u2) s.heap d u2):Inv X gd σ (upd (upd H a u1) d u2) s:=by
 have g:∀{b:J}{o:HO},H b=Z o->o≠v1->b≠a:=λe n z=>by rw[z,V]at e;exact n (Option.some.inj e).symm
 have K:∀{b:J}{o:HO},H b=Z o->o≠v2->b≠d:=λe n z=>by rw[z,hd]at e;exact n (Option.some.inj e).symm
 have n0:∀{b:J},H b=Y->b≠a/\b≠d:=λ{b} e=>(λz=>(by rw[z,V]at e;cases e),λz=>(by rw[z,hd]at e;cases e));have st:∀{b:J},b≠a->b≠d->upd (upd H a u1) d u2 b=H b:=λh1 h2=>by rw[au h2,au h1]
 refine(I.ok,I.os,I.bare,(I.base.keep,I.base.slot,λb o e n hx=>?_,I.base.there,λb xs e=>?_,λb o v e=>?_,λb ps e=>?_),I.loc,I.cell,?_,λx c e=>?_,λp hp=>?_,λb o e=>?_,I.len)
 ·have:=I.base.free b o e n hx;rw[st (n0 this).1 (n0 this).2];exact this
 ·have:=I.base.sO b xs e;rw[st (g this λz=>t1 _ z.symm) (K this λz=>t2 _ z.symm)];exact this
 ·have:=I.base.k9 b o v e;rw[st (g this λz=>z1 _ _ z.symm) (K this λz=>z2 _ _ z.symm)];exact this
 ·let(more,this):=I.base.sQ b ps e;refine(more,?_);rw[st (g this λz=>b1 _ z.symm) (K this λz=>b2 _ z.symm)];exact this
 ·rw[st (n0 I.free).1 (n0 I.free).2];exact I.free
 ·rw[st (n0 (I.gw x c e)).1 (n0 (I.gw x c e)).2];exact I.gw x c e
 ·let(p1,p2,p3):=I.pin p hp;exact(p1,by rw[st (n0 p2).1 (n0 p2).2];exact p2,p3)
 by_cases P:b=d
 ·subst P;rw[aA]at e;cases e;exact Xg
 by_cases Q:b=a
 ·subst Q;rw[au P,aA]at e;cases e;exact Xh
 rw[st Q P]at e;refine(I.hok b o e).d5 (λ_ _ _ q=>q) (λc q=>?_) λc xs q=>?_
 ·rw[st (g q λz=>w1 _ z.symm) (λz=>by rw[z,hd]at q;exact Q (w2 b (Option.some.inj q)))];exact q
 rw[st (g q λz=>t1 _ z.symm) (K q λz=>t2 _ z.symm)];exact q
def Inv.UM(I:Inv X gd σ H s)(g:H a=Z (.ins C d fs)):d≠a/\fs.length<=1000/\H d=Z (.own a)/\Inv X gd σ (upd (upd H a (.ext (zo a C d))) d (.ext (XD d fs))) s:=by
 let(hd,hl,ne,e,mA,n,r,w):=(I.hok a _ g);exact(ne,hl,hd,I.Jd ne g hd nofun nofun nofun nofun (λ_ _ z=>nomatch z) (λ_ _ z=>nomatch z) nofun (λc z=>by cases z;rfl)
(e,(_,e),λh1 h2 p k=>k _ p) (XD.ok (mA,n,r,w)))
def Inv.W8(I:Inv X gd σ H s)(ne:d≠a)(hl:fs.length<=1000)(g:H a=Z (.ext (zo a C d)))(hd:H d=Z (.ext (XD d fs))):Inv X gd σ (upd (upd H a (.ins C d fs)) d (.own a)) s:=by have e:=(I.hok a _ g).1;let(mA,n,r,w):=(I.hok d _ hd).1;refine I.Jd ne g hd nofun nofun nofun nofun (λ_ _ z=>nomatch z) (λ_ _ z=>nomatch z) nofun (λc z=>nomatch z) (aA,hl,ne,e,mA,n,r,w) ?_;let(o,_,_,q,_):=n;exact(o,q)
end
variable{C:J}{prs:Γ}
section
variable{X:Cx}{K:BT}{e:Ev}{es:List Ev}{te:TE}{qe:QE}{tl:TA}{ql:QA}{pos p:Pos}{f:Str}
def Qb(K:BT)(ta:TE)(f:Str):TE:=λσ H Q=>ta σ H λx H1=>∃a C fs v,x=.ref a/\ObH H1 a C fs/\fs.length<=1000/\Cls K C/\cf K C f/\fs.lookup f=Z v/\Q v H1
def Oh(he:PE X e te)(hb:attributeBase e f X.env (eval e X.env)=eval e X.env):PE X (.Attribute e f pos) (Qb X.K te f):=by
 left;refine Pu hb (thn (he gd s σ H _ I h) λu s1 z=>?_);let(x,H1,I1,rx,a,C,fs,v,ex,(dx,ne,h1,h2),hl,c,n,l,q):=z;subst ex;obtain rfl:=rx;refine De (I1.W8 ne hl h1 h2) (by rw[au ne.symm,aA]) c n l λu' s2 I2 ru=>(v,H1,?_,ru,q);let(_,_,_,V):=I2.UM (by rw[au ne.symm,aA]);have e:upd (upd (upd (upd H1 a (.ins C dx fs)) dx (.own a)) a (.ext (zo a C dx))) dx (.ext (XD dx fs))=H1:=by
  funext b;by_cases g:b=dx
  ·rw[g,aA,h2]
  by_cases P:b=a
  ·rw[au g,P,aA,h1]
  rw[au g,au P,au g,au P]
 rw[e]at V;exact V
def Vp(C:J)(f:Str)(qe:QE):QE:=λq Q=>qe q λt=>match t with|.ob g ns ts=>g=C/\ns.length<=1000/\Ex2 (λx=>(ns.zip ts).lookup f=Z x) Q|_=>False
def a7(hc:Cls K C)(hn:cf K C f)(he:QPE X K e te qe)(z:‹attributeBase e f X.env (eval e X.env)=eval e X.env›)(hK:‹X.K=K›):QPE X K (.Attribute e f pos) (Qb K te f) (Vp C f qe):=(by subst hK;exact Oh he.h z,λdl H σ q Q R rd hq k=>he.s dl H σ q _ _ rd hq λv t F H1 e1 V g=>by
 split at g
 ·let(U,hl,x,hx,g):=g;let(a,vs,U,U,ho,rs):=V.r.obj;let(w,G,e2,P,s2):=rs.lookup hx;refine(a,_,_,w,U,ho,?_,hc,hn,e2,k _ _ G H1 e1 (P,λb z=>nomatch s2 b z) g);rw[QX];exact sF (Nat.min_le_left _ _) hl
 exact g.elim)
inductive xG(C:J)(ns:Γ)(vs:Ω)(H:Hp)(Q:VK)(_:XK):Prop
 |mk(x dx args:_)(h1:vs=.ref x::args)(h2:args.length=ns.length)(h3:H x=Z (.ins C dx []))(h4:Q .non (upd H x (.ins C dx (ns.zip args))))
def Ik(C:J)(ns:Γ)(t:TA):TE:=λσ H Q=>t σ H λvs H1=>vs.length=ns.length/\∀x dx,H1 x=Y->H1 dx=Y->dx≠x->Q (.ref x) (upd (upd H1 x (.ext (zo x C dx))) dx (.ext (XD dx (ns.zip vs))))
theorem Kg{g:J}{ns:Γ}{k:Nat}(M:Mk X.K C g)(G:bg X.prog X.w X.K X.mg X.base CX0 k g fd prs (xG C ns))(hr:e7 (k+1) X.A)(hg:Gl X x)(hm:X.mg x=Z (.ref C))(hb:Binds X.K fd prs [])(ha:PA X (e::es) tl)
  (ak:autoParam (AS x) zdc._auto_1) (he:‹AC X e es›) (V:‹AM X pos es›):
  PE X (.Call (.Name x p) (e::es) [] pos) (Ik C ns tl):=by
 left;refine QL (yJ I hg hm (W.callWith_K I.ok.mod.kin M.kp (thn (ha pos gd s σ H _ I h) λus s1 (vs,H1,I1,r,q)=>(I1.kIn,(thn (Jc (Q:=λv H2=>∃a dx fs,v=.ref a/\H2 a=Z (.ins C dx fs)/\Q v (upd (upd H2 a (.ext (zo a C dx))) dx (.ext (XD dx fs)))) M G hr hb .nil Km I1 r λx dx hx hd ne=>(x,dx,vs,ad,q.1,aA,U,x,dx,ns.zip vs,U,aA,?_)) λu s' (v,H',I',rv,a,dx,fs,e1,e2,qq)=>?_))) he V) ak)
 ·have e:upd (upd (upd (upd (upd H1 dx (.own x)) x (.ins C dx [])) x (.ins C dx (ns.zip vs))) x (.ext (zo x C dx))) dx (.ext (XD dx (ns.zip vs)))=upd (upd H1 x (.ext (zo x C dx))) dx (.ext (XD dx (ns.zip vs))):=by
   funext b;by_cases z:b=dx
   ·rw[z,aA,aA]
   by_cases P:b=x
   ·rw[au z,au z,P,aA,aA]
   rw[au z,au P,au P,au P,au z,au z,au P]
  rw[e];exact q.2 x dx hx hd ne
 let(_,_,_,I2):=I'.UM e2;exact(v,_,I2,rv,qq)
def R3(C:J)(ns:Γ)(ql:QA):QE:=λq Q=>ql q λts=>T.ims ts=O/\ts.length=ns.length/\Q (.ob C ns ts)
def iu(hK:X.K=K)(M:Mk K C g)(G:bg X.prog X.w X.K X.mg X.base CX0 k g fd prs (xG C ns))(hr:e7 (k+1) X.A)(hg:Gl X x)(hm:X.mg x=Z (.ref C))(hb:Binds X.K fd prs [])(ha:QPA X K (e::es) tl ql)
  (ak:autoParam (AS x) zdc._auto_1) (he:‹AC X e es›) (V:‹AM X pos es›):
  QPF X K (.Call (.Name x p) (e::es) [] pos) (Ik C ns tl) (R3 C ns ql):=by
 subst hK;refine(Kg M G hr hg hm hb ha.h ak he V,λdl H σ q Q R rd hq k=>ha.s dl H σ q _ _ rd hq λvs ts F H1 e1 P _ hz=>?_);let(z1,z2,z3):=hz;obtain rfl:=P.r.im z1;refine(P.r.len.trans z2,λx dx hx hd ne=>?_);have ev:Evo dl H1 (upd (upd H1 x (.ext (zo x C dx))) dx (.ext (XD dx (ns.zip vs)))):=((Evo.refl e1.d).new hx).new (by rw[au ne];exact hd);have r2:=P.evo e1.d ev;exact k _ _ [] _ (e1.trans ev) (.ob (dx,ne,by rw[au ne.symm,aA],aA) r2.r,cc) cc lu z3
end
variable{tg:Ev}{e:Ev}{g:Tg}
section
variable{X:Cx}{K:BT}
inductive Jj(K:BT)(x:V)(y:V)(H:Hp)(Q:VK):Prop
 |mk(p q vs:_)(h1:x=.ref p)(h2:y=.ref q)(h3:SqL K H p vs)(h4:SqL K H q [])(h5:Q (.bl (!vs.isEmpty)) H)
def Av(hu:X.A.units+1<cLine)(hK:X.K=K):OpR X (compareOp .NotEq) (Jj K):=by
 subst hK;intro gd s σ H x y v u Q I V P h;let(p,q,vs,U,U,h1,h2,k):=h;cases V;cases P;let(its,r1,p1,_):=I.list h1;let(z,g,p2,_):=I.list h2;have l1:=r1.length;have l2:=g.length;have e2:z.length=0:=l2.symm;by_cases hl:its.length=z.length
 ·refine SeqAt.RcNeAt.lists (e:=λ_=>O) p1.isList p2.isList (hl:) ap (λj g1 g2=>?_) X.prog X.w X.xe _ (.bl _,H,I,U,?_)
  ·let(a,ea,ra):=g.at' g2;simp at ea
  have e:vs=[]:=vq.mp ap;subst e;have e3:its.toArray.size=0:=by simp;exact vq.mp ap
  rw[e3];exact k
 refine SeqAt.RcNeAt.lists_lengths p1.isList p2.isList (hl:) ap X.prog X.w X.xe _ (.bl _,H,I,U,?_);cases vs with|nil=>exact absurd l1.symm (by rw[<- l2]at hl;exact hl)|cons _ _=>exact k
def JK:Q2:=λt u Q=>match t,u with|.l xs,.l []=>Q (.b (!xs.isEmpty))|_,_=>False
def wH:dD K (Jj K) JK:=by
 intro dl H x y t u F G Q R D P q hq k;unfold JK at hq;cases t with
 |l xs =>
  cases u with
  |l ys =>
   cases ys with
   |nil =>
    let(p,vs,G1,U,U,h1,h2):=P.r.lst;let(V,g,G2,U,U,h3,h4):=q.r.lst;cases h4;refine(p,V,vs,U,U,SqL.of h1,SqL.of h3,k _ _ [] H (.refl D) (.c (.b _)) nofun lu ?_);have e:vs.isEmpty=xs.isEmpty:=by have:=h2.len;cases vs <;> cases xs <;> simp at this ⊢
    rw[e];exact hq
   |cons _ _=>exact hq.elim
  |_=>exact hq.elim
 |_=>exact hq.elim
def VD{q g:TI}(h1:PI X tg e q)(h2:PI X tg e g):PI X tg e (λσ H R=>q σ H R\/g σ H R):=by
 intro gd s σ H R I h;obtain h|h:=h
 ·exact h1 gd s σ H R I h
 exact h2 gd s σ H R I h
def asP(i:Nat):QJ:=λq Q=>match q[i]? with|some (.r (.l xs))=>Q xs q|some (.r (.t xs))=>Q xs q|_=>False
def Jw{i:Nat}(h:PE X e (cp i))(hK:‹X.K=K›):QPJ X K tg e (λσ H R=>wZ K (cp i) σ H R\/Lk K (cp i) σ H R) (asP i):=(VD (nh hK h) (yq hK h),λdl be hs H σ q Q R (F0,r0) hq k=>by
 have hold:∀{t:T}{v:V},q[i]?=Z (.r t)->Rp K dl H v t (F0 i)->Rel K dl be ((v,t)::hs) H σ q F0:=λ{t v} e r=>r0.hold r λj u hj b hb=>by
  have ne:i≠j:=λz=>by rw[z,hj]at e;cases e
  exact(r0.o j u hj).2.2 i ne b hb
 unfold asP at hq;split at hq
 ·rename_i xs P;let(v,hv,r):=r0.g i _ _ P U;have r1:=hold P r;let(p,vs,G,U,_,h1,h2):=r.r.lst;exact .inl (_,hv,p,U,(vs,SqL.of h1),k _ _ _ H q (F0,r1) nI hq)
 ·rename_i xs P;let(v,hv,r):=r0.g i _ _ P U;have r1:=hold P r;let(p,vs,U,h1,h2):=r.r.tup;exact .inr (_,hv,p,U,(vs,SqT.of h1),k _ _ _ H q (F0,r1) C7 hq)
 exact hq.elim)
def JG(g:Tg)(i:Nat):QS:=λD q=>match q[i]? with|some (.r t)=>Ex2 (λq'=>g.put t q=Z q') D.nx|_=>False
def IA{i:Nat}:lj K (iQ (cp i) (g.h K)) (JG g i):=λdl be hs H σ q Dq D (F,r) hq E=>by
 unfold JG at hq;split at hq
 ·rename_i t Q;let(q',P,hz):=hq;let(v,hv,rp):=r.g i _ _ Q U;exact(v,hv,Cu r rp (λj u V b hb=>(r.o j u V).2.2 i (λz=>by rw[z,V]at Q;cases Q) b hb) P λak r'=>E.nx _ _ _ r' hz)
 exact hq.elim
def ya{pos:Pos}(he:PE X e (cp i))(hg:PG X tg (g.h K))(hs:‹swapsWithSole [tg] e pos.line X.env=pure false›)(hw:‹swappedStores [tg] e X.env=pure none›)
  (h1:‹(assignEach [tg] X.env).map (·.2)=[assign tg X.env]›):QPS X K (.Assign [tg] e pos) (iQ (cp i) (g.h K)) (JG g i):=(yn he hg hs hw h1,IA)
def nJ:rE K dl (Ite K ϊ a) (gx xs) [(.ref a,.l xs)] where
 go:=λH i D h hi=>by
  let(F,r):=h (.ref a,.l xs) ad;let(p,vs,G,e,_,h1,h2):=r.r.lst;cases e;rw[aU]at hi;have l1:i<vs.length:=by rw[h2.len];omega
  exact(vs,vs[i],SqL.of h1,by simp[l1])
 yld:=λH i x fp v H' D h hx y=>by
  have r:=h (.ref a,.l xs) ad;let(p,vs,G,e,eF,h1,h2):=r.r.lst;cases e;let(x1,V,U):=bM hx;let(w1,G1,ak,Q,ar):=h2.get V;let(q,u1,hq,U,U,P):=y;have e1:=P vs (SqL.of h1);rw[ak]at e1;cases e1;have sub:∀b∈G1,b∈fp (.ref a,.l xs):=λb g=>by rw[eF];exact j5 _ (ar b g)
  have rs:Rps K dl H [.int (i),w1] [.i (i),x1] ([]++(G1++[])):=Rps.cons (.i _,cc) (Rps.cons (Q,λb g=>r.n b (sub b g)) (.nil,cc));refine((Evo.refl D).new hq,_,rs.tup D hq,λc g=>.inr ?_);rw[qp]at g;exact(_,ad,sub c g)
 stop:=λH D h=>by
  let(F,r):=h (.ref a,.l xs) ad;let(p,vs,G,e,_,h1,h2):=r.r.lst;cases e;exact(vs,SqL.of h1,by rw[aU,h2.len];exact kB _)
def QV(i:Nat):QJ:=λq Q=>match q[i]? with|some (.o (.l xs))=>Q (gx xs) (q.set i (.r (.l xs)))|some (.r (.l xs))=>Q (gx xs) q|_=>False
def Jy{a:Ev}{x1}{pos p:Pos}{i:Nat}(hg:Gl X "enumerate")(hm:X.mg "enumerate"=Y)(eQ:bootBuiltins "enumerate"=Z (.type "enumerate"))(h:PE X a (cp i))(hs:‹AD X a›)(ak:‹AC X a []›)(hK:‹X.K=K›):
  QPJ X K (.Tuple elts x1 pos') (.Call (.Name "enumerate" p) [a] [] pos) (qF K ϊ (dy (cp i) iP)) (QV i):=(iy hK hg hm eQ (cn h eB ak) hs,λdl be hs H σ q Q R (F0,V) hq k=>by
 unfold QV at hq;split at hq
 ·rename_i xs e1;let(v,hv,r):=V.g i _ _ e1 U;have r1:=(V.down e1).hold r λj u P b hb=>by
   obtain⟨_,z,_⟩|⟨ne,P⟩:=get_set P
   ·cases z
   exact(V.o j u P).2.2 i (λz=>ne z.symm) b hb
  let(p,vs,G,U,_,h1,h2):=r.r.lst;exact(_,hv,p,U,(vs,SqL.of h1),k _ _ _ H _ (F0,r1) nJ hq)
 ·rename_i xs e1;let(v,hv,r):=V.g i _ _ e1 U;have r1:=V.hold r λj u P b hb=>(V.o j u P).2.2 i (λz=>by subst z;rw[e1]at P;cases P) b hb;let(p,vs,G,U,_,h1,h2):=r.r.lst;exact(_,hv,p,U,(vs,SqL.of h1),k _ _ _ H _ (F0,r1) nJ hq)
 exact hq.elim)
def Ox:OpR X (compareOp .IsNot) (λx y H Q=>∃c d,x=.bl c/\y=.bl d/\Q (.bl (c != d)) H):=by intro gd s σ H x y v u Q I z g h;let(c,d,U,U,q):=h;cases z;cases g;exact isnot_bool (.bl _,H,I,U,q)
def JJ:Q2:=λt u Q=>match t,u with|.b c,.b d=>Q (.b (c != d))|_,_=>False
def IF:dD K (λx y H Q=>∃c d,x=.bl c/\y=.bl d/\Q (.bl (c != d)) H) JJ:=by
 intro dl H x y t u F G Q R D q g hq k;unfold JJ at hq;cases t with
 |b c =>
  cases u with|b d =>let(U,U):=q.r.bl;let(U,U):=g.r.bl;exact(_,_,U,U,k _ _ [] H (.refl D) (.c (.b _)) nofun lu hq)|_=>exact hq.elim
 |_=>exact hq.elim
end
def Dep:Nat->T->Prop
 | 0,t=>(∃x,t=.s x)\/∃x,t=.i x|n+1,t=>(∃x,t=.s x)\/(∃x,t=.i x)\/∃ts,t=.t ts/\∀x∈ts,Dep n x
theorem Dep.s:Dep n (.s x):=by cases n <;> exact .inl (x,U)
theorem Dep.i{x:Int}:Dep n (.i x):=by
 cases n
 ·exact .inr (x,U)
 exact .inr (.inl (x,U))
theorem Dep.t(h:∀x∈ts,Dep n x):Dep (n+1) (.t ts):=.inr (.inr (ts,U,h))
def Dep.mono{t:T}(h:Dep n t)(hm:n<=m):Dep m t:=by
 induction n generalizing m t with
 |zero =>
  obtain⟨x,rfl⟩|⟨x,rfl⟩:=h
  ·exact Dep.s
  exact Dep.i
 |succ n g =>
  obtain⟨x,rfl⟩|⟨x,rfl⟩|⟨ts,rfl,h⟩:=h
  ·exact Dep.s
  ·exact Dep.i
  obtain⟨k,rfl⟩:∃k,m=k+1:=(m-1,ap);exact Dep.t λx hx=>g (h x hx) ap
variable{N':Γ}{sc:Scope}{fp:Θ}
section
variable{X:Cx}{K:BT}{a b:Ev}{es:List Ev}{te ta tb:TE}{qe qa qb:QE}{tl:TA}{ql:QA}{pos p:Pos}{k k':Nat}{f:J}
structure Dn(K:BT)(mg:Υ)(x:Str)(st:EQ)(f:J)(fd:Ch)(ps:Γ):Prop where
 F:Fun K x x st f fd
 m:mg x=Z (.ref f)
 b:Binds K fd ps []
def aJ{ps:PSp}(F:bg X.prog X.w X.K X.mg X.base CX0 k f fd prs (spQ K ps))(hr:e7 k' X.A)(D:Dn X.K X.mg x st f fd prs)(z:QPA X K (e::es) tl ql)(hk:k<=k':=by first|decide|omega)(hg:Gl X x:=by exact U)
  (q:autoParam (AS x) zdc._auto_1) (he:‹AC X e es›) (g:‹AM X pos es›):
  QPF X K (.Call (.Name x p) (e::es) [] pos) (DX (spQ K ps) [] E0 tl) (cH ps ql):=NL F (hr.mono hk) hg D.m D.F.kp D.b z q he g
def aw:QPA X K [] iP bP:=zm.w aj
def ah:QPE X K (.Constant (.int i) j pos) (tC (.int i)) (qC (.i i)):=ZB bw
def bW(hm:X.mg "len"=Y)(q:QPA X K (e::es) tl ql)(hg:Gl X "len":=by exact U)(z:X.K=K:=by exact U)
  (he:‹AC X e es›) (g:‹AM X pos es›):QPF X K (.Call (.Name "len" p) (e::es) [] pos) (tCB (Jm K) tl) (qCB Gp ql):=bK (Hv z) Nf hg hm bn q ac ac he g
def aB(i:Nat)(g:X.N.Nodup)(he:QPF X K e te qe)(hi:‹X.N[i]?=Z x›)(hx:Loc X.env.scope x:=by first|exact .inl rfl|exact .inr U)(hs:‹swapsWith e (Z (.Name x pos')) pos.line X.env=pure false›)(hf:AT X x:=by first|exact .inl rfl|exact .inr rfl|assumption):
  QPS X K (.Assign [.Name x pos'] e pos) (iQ te (fP i)) (iw i qe):=RN g hi hx he hs hf
def aZ(i:Nat)(g:X.N.Nodup)(hi:‹X.N[i]?=Z x›)(hx:Loc X.env.scope x:=by first|exact .inl rfl|exact .inr U)(hf:AT X x:=by first|exact .inl rfl|exact .inr rfl|assumption):PG X (.Name x pos) (fP i):=ni g hi hx hf
def cb{cl:List (Str×J)}{s₂:ϋ}{H₂:Hp}(i:Nat)(g:N'.Nodup:=by decide +kernel)(hi:‹N'[i]?=Z x›)(hx:Loc (blk X N' sc cl C s₂ H₂ fp).env.scope x:=by first|exact .inl rfl|exact .inr U)(hf:‹(blk X N' sc cl C s₂ H₂ fp).env.scope.names.lookup x=Z .local›):PG (blk X N' sc cl C s₂ H₂ fp) (.Name x pos) (fP i):=ni g hi hx (.inr hf)
def cM{q g:Str}{t1 t2:TG}{j:Nat}(h1:PG X (.Name q p1) t1)(h2:PG X (.Name g p2) t2)(Q:X.K=K:=by exact U)(P:X.calm=true:=by exact U)
  (hn:‹(assignEach [.Name q p1,.Name g p2] X.env).length=2›) (z:‹(assignEach [.Name q p1,.Name g p2] X.env).findIdx? (·.1)=none›):PG X (.Tuple [.Name q p1,.Name g p2] j pos) (Ph K 2 (ES t1 (ES t2 TY))):=i6 Q P (bG h1 (bG h2 i5)) hn z
def bO(g:X.A.units+1<cLine)(z:QPE X K a ta qa)(q:QPE X K b tb qb)(P:X.K=K:=by exact U):QPT X K (.Compare a [.Eq] [b] pos) (DV (tOp (RL K) ta tb)) (jW (qOp CD qa qb)):=bE (yy g P) rL (bB _) z q
def tX(q:QPE X K a ta qa)(g:QPE X K b tb qb):=bE (pos:=pos) Qm (oV (K:=K) (g':=λi j=>.b (decide (i<j))) λ_ _ _ _=>.b _) (bB _) q g
def Vc(q:QPE X K a ta qa)(g:QPE X K b tb qb):=bE (pos:=pos) VG (oV (K:=K) (g':=λi j=>.b (decide (i<=j))) λ_ _ _ _=>.b _) (bB _) q g
def Ju(q:QPE X K a ta qa)(g:QPE X K b tb qb):=bE (pos:=pos) Ex (oV (K:=K) (g':=λi j=>.b (decide (j<i))) λ_ _ _ _=>.b _) (bB _) q g
end
abbrev NI(K:BT)(x:Str)(f:J):Prop:=W.nsIn K mainGlobals x=Z (Z (.ref f))
abbrev LK(K:BT)(f:J)(x q:Str)(st:EQ)(oc:B)(od:Option J)(kV dc pm:B)(an:Option J)(cd ct:B)(sl:Array (Option B)):Prop:=K.lookup f=Z (oc,od,.func (W.fnOf x q (dJ st) (cy st) (ax st) .none kV dc pm an cd ct),sl)
abbrev CI(K:BT)(cd:B)(x:Str):Prop:=W.codeIn K cd x=O
abbrev KI(K:BT)(f:J):Prop:=W.keepIn K (.ref f)=O
variable{p4:Str}
section
variable{K:BT}{q:Str}{f:J}{oc kV dc pm cd ct:B}{od an:Option J}{sl:Array (Option B)}
abbrev NB(K:BT)(x:Str):Prop:=W.nsIn K mainGlobals x=Z Y
inductive DY(K:BT)(x:Str)(st:EQ)(f:J):Prop
 |mk(n:NI K x f)(fd:Ch)(F:Fun K x x st f fd)
inductive DM(K:BT)(C:J)(x q:Str)(st:EQ)(f:J):Prop
 |mk(M:Meth K C x f)(fd:Ch)(F:Fun K x q st f fd)
def DY.of(n:NI K x f)(l:LK K f x x st oc od kV dc pm an cd ct sl)(c:CI K cd x)(k:KI K f):DY K x st f:=(n,_,yT l c k)
theorem DM.of(m:W.findIn K (.ref C) x=Z (Z (.ref f)))(l:LK K f x q st oc od kV dc pm an cd ct sl)(c:CI K cd q)(k:KI K f)(i:W.isFn K (.ref f)=O):DM K C x q st f:=((m,i,k),_,yT l c k)
theorem Fun.b1{p1:Str}(F:Fun K x q st f fd)(g:∀kV dc pm an cd ct u1,bindArgs (W.fnOf x q (dJ st) (cy st) (ax st) .none kV dc pm an cd ct) ([u1],[])=pure [(p1,u1)]:=by intros;rfl):Binds K fd [p1] []:=F.binds λkV dc pm an cd ct us hl=>VS (P:=λus=>bindArgs _ (us,[])=pure (ZT _ us)) (g kV dc pm an cd ct) us hl
theorem Fun.b2{p1 p2:Str}(F:Fun K x q st f fd)(g:∀kV dc pm an cd ct u1 u2,bindArgs (W.fnOf x q (dJ st) (cy st) (ax st) .none kV dc pm an cd ct) ([u1,u2],[])=pure [(p1,u1),(p2,u2)]:=by intros;rfl):Binds K fd [p1,p2] []:=F.binds λkV dc pm an cd ct us hl=>VR (P:=λus=>bindArgs _ (us,[])=pure (ZT _ us)) (g kV dc pm an cd ct) us hl
theorem Fun.b3{p1 p2 p3:Str}(F:Fun K x q st f fd)(z:∀kV dc pm an cd ct u1 u2 g,bindArgs (W.fnOf x q (dJ st) (cy st) (ax st) .none kV dc pm an cd ct) ([u1,u2,g],[])=pure [(p1,u1),(p2,u2),(p3,g)]:=by intros;rfl):Binds K fd [p1,p2,p3] []:=F.binds λkV dc pm an cd ct us hl=>VQ (P:=λus=>bindArgs _ (us,[])=pure (ZT _ us)) (z kV dc pm an cd ct) us hl
theorem Fun.b4{p1 p2 p3:Str}(F:Fun K x q st f fd)(Q:∀kV dc pm an cd ct u1 u2 z g,bindArgs (W.fnOf x q (dJ st) (cy st) (ax st) .none kV dc pm an cd ct) ([u1,u2,z,g],[])=pure [(p1,u1),(p2,u2),(p3,z),(p4,g)]:=by intros;rfl):Binds K fd [p1,p2,p3,p4] []:=F.binds λkV dc pm an cd ct us hl=>VP (P:=λus=>bindArgs _ (us,[])=pure (ZT _ us)) (Q kV dc pm an cd ct) us hl
theorem Fun.b5{p1 p2 p3 V:Str}(F:Fun K x q st f fd)(hb:∀kV dc pm an cd ct u1 u2 Q z g,bindArgs (W.fnOf x q (dJ st) (cy st) (ax st) .none kV dc pm an cd ct) ([u1,u2,Q,z,g],[])=pure [(p1,u1),(p2,u2),(p3,Q),(p4,z),(V,g)]:=by intros;rfl):Binds K fd [p1,p2,p3,p4,V] []:=F.binds λkV dc pm an cd ct us hl=>VO (P:=λus=>bindArgs _ (us,[])=pure (ZT _ us)) (hb kV dc pm an cd ct) us hl
end
mutual
def T.pln:T->Bool
 |.n=>O|.b _=>O|.i _=>O|.s _=>O|.t xs=>T.me xs|.zl xs=>T.me xs|.fd _ _ ks=>T.GC ks|.fz _=>O|_=>ϊ
def T.me:ϓ->Bool
 |[]=>O|x::r=>x.pln&&T.me r
def T.GC:ϔ->Bool
 |[]=>O| (_,x)::r=>x.pln&&T.GC r
end
def nof{A:Prop}(h:ϊ=O):A:=absurd h rF
theorem aM.plain{K:BT}(kt:∀a vs,H a=Z (.tup vs)->H' a=Z (.tup vs))(z:∀a o u,H a=Z (.frz o u)->H' a=Z (.frz o u)){v:V}{t:T}(h:aM K dl H v t F):t.pln=O->aM K dl H' v t F:=
 aM.rec (motive_2:=λv t F _=>T.me t=O->aC K dl H' v t F) (motive_3:=λv t F _=>T.GC t=O->a9 K dl H' v t F)
  (λ_=>.n) (λx _=>.b x) (λx _=>.i x) (λx _=>.s x) (λ_ h=>nof h) (λh _ g q=>.t (kt _ _ h) (g q)) (λ_ _ _ h=>nof h) (λ_ _ _ h=>nof h) (λ_ h=>nof h) (λ_ h=>nof h) (λ_ h=>nof h) (λh _ g q=>.fd (z _ _ _ h) (g q)) (λ_ h=>nof h) (λ_ _ _ h=>nof h)
  (λ_ _ h=>nof h) (λ_ _ _ h=>nof h) (λ_ _ _ h=>nof h) (λ_ _ _ h=>nof h) (λh _ g q=>.zl (z _ _ _ h) (g q)) (λ_ h=>nof h) (λ_ _ _ _ _ h=>nof h) (λh _=>.fz (z _ _ _ h)) (λ_=>.nil) (λ_ _ i1 i2 q=>.cons (i1 (uj _ _▸q).1) (i2 (uj _ _▸q).2)) (λ_=>.nil) (λ_ _ i1 i2 q=>.cons (i1 (uj _ _▸q).1) (i2 (uj _ _▸q).2)) h
theorem aC.plain{K:BT}(kt:∀a vs,H a=Z (.tup vs)->H' a=Z (.tup vs))(g:∀a o u,H a=Z (.frz o u)->H' a=Z (.frz o u)){vs:Ω}(h:aC K dl H vs ts F):T.me ts=O->aC K dl H' vs ts F:=
 h.ind (λ_=>.nil) (λ_ _ _ _ _ _ h _ z q=>.cons (h.plain kt g (uj _ _▸q).1) (z (uj _ _▸q).2))
theorem aM.J9{K:BT}{v:V}{t:T}{F:Θ}(h:aM K dl H v t F):t.pln=O->F=[]:=
 aM.rec (motive_3:=λ_ _ _ _=>True)
  (λ_=>rfl) (λ_ _=>rfl) (λ_ _=>rfl) (λ_ _=>rfl) (λ_ h=>nof h) (λ_ _ g=>g) (λ_ _ _ h=>nof h) (λ_ _ _ h=>nof h) (λ_ h=>nof h) (λ_ h=>nof h) (λ_ h=>nof h) (λ_ _ _ _=>rfl) (λ_ h=>nof h) (λ_ _ _ h=>nof h)
  (λ_ _ h=>nof h) (λ_ _ _ h=>nof h) (λ_ _ _ h=>nof h) (λ_ _ _ h=>nof h) (λ_ _ _ _=>rfl) (λ_ h=>nof h) (λ_ _ _ _ _ h=>nof h) (λ_ _=>rfl) (λ_=>rfl) (λ_ _ i1 i2=>uH i1 i2) trivial (λ_ _ _ _=>trivial) h
theorem aC.J9{K:BT}{dl:Dl}{H:Hp}{vs:Ω}{ts:ϓ}{F:Θ}(h:aC K dl H vs ts F):T.me ts=O->F=[]:=h.ind (λ_=>rfl) (λ_ _ _ _ _ _ h _ g=>uH h.J9 g)
section
variable{X:Cx}{K:BT}{σ:St}{s:ϋ}{o:Ev}{te:TE}{qe:QE}
def Inv.yV(I:Inv X gd σ H s)(g:H a=Z (.lst xs)):∃o,Inv X gd σ (upd H a (.frz o (.lst xs))) s:=by
 have q:∀o v,X.be a≠Z (.frz o v):=λo v e=>by
  have:=I.base.k9 a o v e;rw[g]at this;cases this
 let(z,its,n,r,e):=(I.hok a _ g);exact(_,I.zW g nofun nofun nofun q (e,z,its,n,r,e))
def Qa(te:TE):TE:=λσ H Q=>te σ H λv H1=>∃a xs,v=.ref a/\H1 a=Z (.lst xs)/\∀o,Q v (upd H1 a (.frz o (.lst xs)))
def Og(he:PE X e te):PE X e (Qa te):=by left;refine thn (he gd s σ H _ I h) λu s' g=>?_;let(v,H',P,r,a,xs,V,z,q):=g;let(o,K):=P.yV z;exact(v,_,K,r,q o)
def JO(qe:QE):QE:=λq Q=>qe q λt=>match t with|.l ts=>T.me ts=O/\Q (.zl ts)|_=>False
def rR(he:QPF X K e te qe):QPF X K e (Qa te) (JO qe):=(Og he.h,λdl H σ q Q R rd hq k=>he.s dl H σ q _ _ rd hq λv t F H1 e1 P f1 n1 g=>by
 split at g
 ·let(p,vs,G,U,U,h1,h2):=P.r.lst;obtain rfl:=h2.J9 g.1;refine(p,vs,U,h1,λo=>?_);have V:=e1.fresh (o:=.frz o (.lst vs)) (f1 p j0) (P.n p j0);have ne:∀{a:J}{u:HO},H1 a=Z u->(∀xs,u ≠ .lst xs)->a≠p:=λh n z=>by rw[z,h1]at h;exact n _ (Option.some.inj h).symm
  have ts:=h2.plain (H':=upd H1 p (.frz o (.lst vs))) (λa us h=>by rw[au (ne h nofun)];exact h) (λa o u h=>by rw[au (ne h nofun)];exact h) g.1;exact k _ (.zl _) [] _ V (.zl aA ts,cc) cc lu g.2
 exact g.elim)
def T.lst:T->Option (ϓ)
 |.l xs=>Z xs|.zl xs=>Z xs|_=>Y
def Rp.Xi(r:Rp K dl H v t F)(h:t.lst=Z ts):∃p vs G,v=.ref p/\SqL K H p vs/\aC K dl H vs ts G:=by
 cases t with
 |l xs=>cases h;let(p,vs,G,U,U,h1,h2):=r.r.lst;exact(p,vs,G,U,SqL.of h1,h2)
 |zl xs=>cases h;let(p,o,vs,U,U,h1,h2):=r.r.zls;exact(p,vs,[],U,.inl (.inr (o,h1)),h2)
 |_=>cases h
end
end L2
namespace L2
open PySem PySem.Spec PyProof.Rows
def ItV(v d:J)(h:Do):Prop:=h.IsItemsView v d
inductive Cw(x:V)(vs:Ω)(H:Hp)(Q:VK):Prop
 |mk(d kvs:_)(h1:x=.ref d)(h2:vs=[])(h3:Rd H d (.dK kvs))(h4:∀v,H v=Y->v≠d->Q (.ref v) (upd H v (.ext (ItV v d))))
variable{P:Da}{a:J}
section
variable{X:Cx}{o:Ev}{to:TE}{p apos aY:Pos}{H:Hp}
theorem Rd.lt(r:Rd H a u)(x:HOk P w H h):a<h.objs.size:=(r.ok x).lt
def KQ:MtR X "dict.items" Cw:=by
 intro gd s σ H x vs v us Q I P rv h;let(d,kvs,U,U,hd,q):=h;cases P;have g:=rv.zero;subst g;let(z,V,ws,r,dd):=gU I.hok hd;have lt:=Rd.lt hd I.hok;refine call_meetsIn PySem.F.slot_dict_items dd.typeIs PySem.F.entry_dict_items (PySem.F.args_dict_items_1 _) (meets_dict_items (a8 X.prog X.w) d V) ((ws,dd),?_);have K:(s.heap.push {cls:=.type "dict_items",data:=.fields #[.ref d]}).get? s.heap.objs.size=Z {cls:=.type "dict_items",data:=.fields #[.ref d]}:=kD s.heap U;have I1:=I.laid (o:=.ext (ItV s.heap.objs.size d)) (t':=s.toks) (λb u e=>gs _ e) (kB _)
  ((_,K,U,U),(_,K),λh1 h2 x k=>by let(o,ho,c):=x;exact(o,k o ho,c))
 exact(.ref s.heap.objs.size,_,I1,U,q _ (I.hok.fresh (kB _)) (D7 lt))
def Il(to:TE):TE:=λσ H Q=>to σ H λx H1=>Cw x [] H1 Q
def Kh(ho:PE X o to)(cQ:‹attributeBase o "items" X.env (eval o X.env)=eval o X.env›)(cP:‹(apos.endLine==aY.line)=true›):PE X (.Call (.Attribute o "items" apos) [] [] aY) (Il to):=by left;refine wpAny_Call_method0_late cQ cP (thn (ho gd s σ H _ I h) λv s1 g=>?_);let(x,H1,P,V,K):=g;let(d,kvs,U,e,hd,q):=id K;cases V;let(z,hS,ws,r,dd):=gU P.hok hd;exact("dict","dict.items",PySem.F.plainAttrs_dict,PySem.F.slot_dict_items,PySem.F.type_dict_items,dd.typeIs,dd.mapOf.noDict,Calls.callWith_builtin U (PySem.evalArgs_none (KQ gd s1 σ H1 (.ref d) [] (.ref d) [] Q P U .nil K)))
def kT:Key->T
 |.inl i=>.i i|.inr x=>.s x
def Ql(p:Key×T):T:=.t [kT p.1,p.2]
end
variable{elts:List Ev}{pos':Pos}
section
variable{X:Cx}{K:BT}{a b:Ev}{ta:TE}{qa:QE}{pos p:Pos}
def WH(qa:QE):QJ:=λq Q=>qa q λt=>match t with|.l xs=>Q (gx xs) q|_=>False
def tZ{x1}(hm:X.mg "enumerate"=Y)(ha:QPF X K a ta qa)(hg:Gl X "enumerate":=by exact U)(hs:‹AD X a›)(ak:‹AC X a []›)(hK:‹X.K=K›):
  QPJ X K (.Tuple elts x1 pos') (.Call (.Name "enumerate" p) [a] [] pos) (qF K ϊ (dy ta iP)) (WH qa):=(iy hK hg hm bn (cn ha.h eB ak) hs,λdl be hs H σ q Q R (F0,P) hq k=>ha.s dl H σ q _ _ P.rd hq λv t F H' e1 r f n V=>by
 split at V
 ·have r1:=(P.evo e1).hold r λj u hj b hb z=>(P.iO hb).no (f b z);let(l1,g,G,U,U,h1,h2):=r.r.lst;exact(l1,U,(g,SqL.of h1),k _ _ _ H' q (F0,r1) nJ V)
 exact V.elim)
end
end L2
namespace L2
open PySem PySem.Spec PyProof.Rows
section
variable{K:BT}{dl:Dl}{H:Hp}
end
end L2
namespace PySem
open Sem (wp)
section
variable{prog:Da}{w:Cl}{A:Db}{E:Φ}
def wb:typeLookup (.type "zip") "keys"=pure none:=am_miss_of_fast bi
def lg:typeLookup (.type "zip") "__getattr__"=pure none:=bn
def gF:entryFor table "zip.__getattribute__"=Z Builtin.«object.__getattribute__»:=
 entryFor_alias (id':="object.__getattribute__") bn bi bi bn
def uw(a:J)(vs:Array B)(sl:Array (Option B))(u:Tok):
  Meets (Builtin.«object.__getattribute__» ([.ref a,.str "keys" u],[])) (λA R s=>s.heap.get? a=Z {cls:=.type "zip",dict:=Y,data:=.fields vs,slots:=sl}/\raisesAttr (.ref a) "keys" A R s):=
 Meets.of_wp λprog w A R s hs=>by
  let(hp,g,d,tk,os):=s;let(hx,hs):=hs;have hT:((hp,g,d,tk,os):ϋ).TypeIs (.ref a) "zip":=(_,hx,U);have q:=wb;unfold Builtin.«object.__getattribute__»;repeat (any_goals (first|assumption|wp_step))
  exact wpAny_raiseAttrError hs.1 hs.2 (attrMsg_fits bi (by size_fits))
set_option maxRecDepth 8000 in
theorem wc{s:ϋ}{a:J}{vs:Array B}{sl:Array (Option B)}{Q:Option B->ϋ->Prop}
  (hx:s.heap.get? a=Z {cls:=.type "zip",dict:=Y,data:=.fields vs,slots:=sl}) (K:A.handled=Y)
  (h:∀h' tk,(∀b o,s.heap.get? b=Z o->h'.get? b=Z o)->Q Y {s with heap:=h',toks:=tk}):
  wpAny (model prog w) A (getAttr? (.ref a) "keys") Q E s:=by
 let(hp,g,d,tk,os):=s;have hT:∀q,((hp,g,d,q,os):ϋ).TypeIs (.ref a) "zip":=λ_=>(_,hx,U);have f1:=sub_AttributeError;have V:=F.slot_zip_getattribute.lookup;have f4:=F.slot_zip_getattribute.bind (.ref a);have P:=lg;unfold getAttr? getAttrBy? getAttrBy;repeat (any_goals (first|assumption|exact hT _|((with_reducible show wpAny _ _ (call (B.builtin "zip.__getattribute__") _ _) _ _ _);refine call_meets F.slot_zip_getattribute (hT _) gF (F.args_zip_getattribute_2 _ _) (uw a vs sl _) (hx,K,λh' q e z=>?_))|wp_step))
 let(t',u',he):=z.there;show wpAny _ _ (getattributeRaised _ _ _ _ _ _ _) _ _ _;unfold getattributeRaised;repeat (any_goals (first|assumption|wp_step))
 exact h _ _ z.keeps
end
end PySem
namespace L2
open PySem PySem.Spec PyProof.Rows
def lE:ϓ->Option (List Key)
 |[]=>Z []|x::r=>match x.key,lE r with|some k,Z ks=>Z (k::ks)|_,_=>Y
variable{dl:Dl}{H:Hp}
theorem aC.Qr{K:BT}{xs:ϓ}{vs:Ω}{F:Θ}{ks:List Key}(h:aC K dl H vs xs F)(e:lE xs=Z ks):vs=ks.map kV:=by
 induction xs generalizing vs F ks with
 |nil=>cases h;cases e;rfl
 |cons x r g =>
  cases h with
  |cons h1 h2 =>
   unfold lE at e;split at e
   ·next k ks z q =>cases e;rw[h1.key z,g h2 q];rfl
   cases e
end L2
namespace PySem
open Sem (wp)
section
variable{prog:Da}{w:Cl}{A:Db}{E:Φ}{s:ϋ}
def pX{id:String}(hk:builtinKind id=Y)(hp:plainId id=O)(K:entryFor table id=Z b)(q:argsOk id (args,kw))
  (g:wpAny (model prog w) A.in1 (b (args,kw)) (λfin s'=>match fin with
|.done f=>(match(Except.ok f:Result)with|.ok (.ret v)=>Q v s' |.ok _=>False|.error e=>E e s')
|.again z=>z.quiet=O/\codeAny (model prog w) A z (λr s'=>match r with|.ok (.ret v)=>Q v s' |.ok _=>False|.error e=>E e s') s') E s):
  wpAny (model prog w) A (call (.builtin id) args kw) Q E s:=by
 refine wpAny_call (codeAny_call_builtin hp K ?_);simp only[checkBuiltinCall,hk];cases P:Manifest.signature? id with|none=>exact kA g|some sig =>simp only[argsOk,P]at q;have h2:=q;show wpAny _ A.in1 (Bind.checkArgs id sig (args,kw)) _ _ s;rw[h2];exact kA g
end
end PySem
namespace L2
open PySem PySem.Spec PyProof.Rows
variable{dl:Dl}{H:Hp}{ns:Ψ}{x:Str}{pos':Pos}
section
variable{X:Cx}{K:BT}{e:Ev}{te:TE}{qe:QE}{pos:Pos}
theorem lO:∀{ns:Ψ}{its:Δ},Vals (ns.map V.int) its->∀(i:Nat)(v:B),its[i]?=Z v->∃t,v=.int (ns.getD i 0) t
 |[],_,h,i,v,e=>by cases h;simp at e
 |n::r,_,h,i,v,e=>by
  cases h with|cons h1 h2 =>cases i with|zero =>simp at e;let(t,g):=h1;exact(t,by rw[<- e,g];rfl)|succ i =>let(t,g):=lO h2 i v (e:);exact(t,by rw[g];rfl)
def aC.VX{vs:Ω}(h:aC K dl H vs (ns.map T.i) F):vs=ns.map V.int/\F=[]:=by let(U,U):=h.vs (by unfold fls;rw[ZI,PX];exact λ_ _=>rfl);exact(by rw[tr];rfl,U)
def Vr(i:Nat)(qe:QE):QS:=λD q=>∃n,q[i]?=Z (.o (.i n))/\qe q λt=>match t with|.i m=>D.nx (q.set i (.o (.i (n+m))))|_=>False
def NC{i:Nat}(hN:X.N.Nodup)(he:QPE X K e te qe)(hi:‹X.N[i]?=Z x›)(hx:Loc X.env.scope x:=by first|exact .inl rfl|exact .inr U)(hf:AT X x:=by first|exact .inl rfl|exact .inr rfl|assumption):
  QPS X K (.AugAssign (.Name x pos') .Add e pos) (US i te (ipI λi j=>i+j)) (Vr i qe):=(Sk hN hi hx he.h Tx hf,λdl be hs H σ q Dq D (F,r) hq E=>by
 let(n,Q,hq):=hq;let(v,hv,V):=r.g i _ _ Q U;let(U,hF):=V.r.int;refine(_,hv,he.s dl H σ q _ _ r.rd hq λw t Fw H1 e1 r1 P=>?_);split at P
 ·rename_i m;let(U,_):=r1.r.int;exact(n,m,U,U,E.nx H1 _ _ (r.Gs e1 (.c (.i (n+m))) nofun lu) P)
 exact P.elim)
end
end L2
namespace L2
open PySem PySem.Spec PyProof.Rows
variable{elts:List Ev}{pos':Pos}{tl:TA}{ql:QA}
section
variable{X:Cx}{K:BT}{a:Ev}{pos:Pos}
def WE(ql:QA):QI:=λq Q=>ql q λts=>match ts with|[.l xs]=>Q (gx xs)|_=>False
def JA{x1}{p:Pos}(hg:Gl X "enumerate")(hm:X.mg "enumerate"=Y)(eQ:bootBuiltins "enumerate"=Z (.type "enumerate"))(V:QPA X K [a] tl ql)(hs:‹AD X a›)(hK:‹X.K=K›):
  QPI X K (.Tuple elts x1 pos') (.Call (.Name "enumerate" p) [a] [] pos) (qF K ϊ tl) (WE ql):=(iy hK hg hm eQ V.h hs,λdl H σ q Q R rd hq k=>V.s dl H σ q _ _ rd hq λvs ts F H' e1 r _ z=>by
 split at z
 ·let(v,U,P):=r.one;let(l1,g,G,U,_,h1,h2):=P.r.lst;exact(l1,U,(g,SqL.of h1),k _ _ _ H' e1 nJ (λp hp=>by rw[fy.mp hp];exact(_,P)) z)
 exact z.elim)
end
section
variable{K:BT}{b:Ev}
inductive onL(t:T)(Q:ϓ->Prop):Prop
 |mk(xs:ϓ)(h1:t.lst=Z xs)(h2:Q xs)
def NM:QC:=λts Q=>on1 ts λt=>onL t λxs=>T.ims xs=O/\Q (.l xs)
def sZ:mG K (λxs H Q=>∃p ys,xs=[.ref p]/\(SqL K H p ys\/SqT K H p ys)/\∀l,H l=Y->Q (.ref l) (upd H l (.lst ys))) NM:=by intro dl H vs ts F Q R D r hq k;replace hq:=on1.inv hq;let(t,U,xs,hx,hi,hq):=hq;let(v,U,g):=r.one;let(p,vs,G,U,h1,h2):=g.Xi hx;obtain rfl:=h2.im hi;refine(p,vs,U,.inl h1,λl hl=>?_);have rs:Rps K dl H vs _ []:=(h2,λc q=>nomatch q);exact k _ _ _ _ ((Evo.refl D).new hl) (rs.lst D hl) (λb z=>by rw[fy.mp z];exact hl) ad hq
end
end L2
namespace PySem
open Sem (wp)
section
variable{prog:Da}{w:Cl}{A:Db}{R:Result->ϋ->Prop}{I:J}{fp wr:Θ}{n:Nat}{P:Nat->B->Prop}{St:Nat->Do->Prop}{κ:Type}[DecidableEq κ]{knd:KeyKind prog w κ}
def bU(xs more:List (List κ×J×B)):List (List κ×J×B):=more.foldl (λacc p=>storedH acc p.1 p.2.1 p.2.2) xs
def sV(xs:List (List κ×J×B))(k:List κ)(a:J)(v:B):(storedH xs k a v).length<=xs.length+1:=by unfold storedH;split <;> simp
def j9(more:List (List κ×J×B)):∀(xs:List (List κ×J×B)),(bU xs more).length<=xs.length+more.length:=by
 induction more with
 |nil=>intro xs;exact kB _
 |cons p r g =>intro xs;have h1:=g (storedH xs p.1 p.2.1 p.2.2);have h2:=sV xs p.1 p.2.1 p.2.2;show(bU (storedH xs p.1 p.2.1 p.2.2) r).length<=_;simp only[qf];lia
def nF(xs more:List (List κ×J×B))(p:List κ×J×B):bU xs (more++[p])=storedH (bU xs more) p.1 p.2.1 p.2.2:=by unfold bU;rw[Y9];rfl
def ig(x:(tupleKind knd).is h ks b)(k:∀o,h.get? b=Z o->h'.get? b=Z o):(tupleKind knd).is h' ks b:=by let(o,its,m,h1,r):=x;exact(o,its,m,k o h1,r)
def Heap.DictOfH.at{h h':Do}(x:h.DictOfH (tupleKind knd) S xs)(k:∀o,h.get? S=Z o->h'.get? S=Z o)(q:∀z∈xs,∀o,h.get? z.2.1=Z o->h'.get? z.2.1=Z o):h'.DictOfH (tupleKind knd) S xs:=by let(o,es,ep,h1,h2,h3,h4,h5,h6):=x;exact(o,es,ep,k o h1,h2,h3,h4,λz g=>ig (h5 z g) (q z g),h6)
def mem_storedH{k:List κ}(h:z∈storedH xs k a v):z.2.1=a\/∃y∈xs,y.2.1=z.2.1:=by
 unfold storedH at h;split at h
 ·let(y,q,U):=kf.mp h;refine .inr (y,q,?_);unfold putAt;split <;> rfl
 obtain g|g:=jn.mp h
 ·exact .inr (z,g,U)
 rw[fy.mp g];exact .inl U
def qy:∀{xs:List (List κ×J×B)}{z:List κ×J×B},z∈bU xs more->(∃y∈xs,y.2.1=z.2.1)\/∃y∈more,y.2.1=z.2.1:=by
 induction more with
 |nil=>intro xs z h;exact .inl (z,h,U)
 |cons p r K =>
  intro xs z h;obtain⟨y,g,e⟩|⟨y,g,e⟩:=K h
  ·obtain q |⟨u,P,q⟩:=mem_storedH g
   ·exact .inr (p,j0,by rw[<- e,q])
   exact .inl (u,P,by rw[q,e])
  exact .inr (y,j5 _ g,e)
theorem gE(hu:A.units+3<cLine)(W:Walks prog w A.in1 I fp wr n P St)(S:J)(a0:S ∉ fp)(res:B)(h0:Do)(pairs:List (List κ×J×B))(hsz:pairs.length<=mu)(a5:pairs.length=n)
  (ar:∀z∈pairs,(tupleKind knd).is h0 z.1 z.2.1/\z.2.1 ∉ wr/\z.2.1≠S)
  (hp:∀i v,P i v->∃(a b:J)(o:Obj)(val:B)(k:List κ)(m:Nat),v=.ref a/\pairs[i]?=Z (k,b,val)/\h0.get? a=Z o/\o.cls=.type "tuple" /\ o.data=.seq #[.ref b,val] m/\a ∉ wr/\a≠S):
  ∀(j i:Nat)(s:ϋ),n-i=j->i<=n->St i s.heap->s.heap.DictOfH (tupleKind knd) S (bU [] (pairs.take i))->(∀b o,b ∉ wr->b≠S->h0.get? b=Z o->s.heap.get? b=Z o) ->
  (∀h' tk,(∀b o,b ∉ wr->b≠S->s.heap.get? b=Z o->h'.get? b=Z o)->h'.DictOfH (tupleKind knd) S (bU [] pairs)->R (.ok (.ret res)) {s with heap:=h',toks:=tk}) ->
  codeAny (model prog w) A (.builtin "dict.update.loop" ([.ref S,.ref I,rawInt i,res],[])) R s:=by
 have aW:=λh=>a0 (W.sub _ h);have sub:∀{i:Nat}{z:List κ×J×B},z∈bU [] (pairs.take i)->z.2.1 ∉ wr/\z.2.1≠S:=λ{i z} h=>by
  obtain⟨y,hy,_⟩|⟨y,hy,e⟩:=qy h
  ·cases hy
  rw[<- e];exact(ar y (QH hy)).2
 intro j;induction j with
 |zero =>
  intro i s hk hi ak hS Q hR;have bp:i=n:=ap;subst bp;refine HJ F.bz ?_;rw[Zh F.aN _];refine dN (W.done s _ _ ak λh' tk g=>?_);refine dN (kA (kA (hR h' tk (λb o K _ e=>g b o K e) ?_)));have hS:=hS.at (λo=>g S o aW) λz V o=>g _ o (sub V).1;rw[<- a5,ox]at hS;exact hS
 |succ j ih =>
  intro i s hk hi ak hS Q hR;have aP:=YE hk;refine HJ F.bz ?_;refine dN (W.item i s _ _ aP ak λv h' tk hP q9 g=>?_);let(a,b,o,val,k,m,U,av,ho,hc,hd,aQ,bt):=hp i v hP;have ay:=g a o aQ (Q a o aQ bt ho);have bT:=hS.at (λo=>g S o aW) λz V o=>g _ o (sub V).1;have V:=ar _ (g5 av);have uL:(tupleKind knd).is h' k b:=ig V.1 λo e=>g b o V.2.1 (Q b o V.2.1 V.2.2 e);refine dN (DF (dN (wpAny_tryCatch ?_)));refine dN (Tz (o,ay,hc) ?_);refine dN (wpAny_seqItems ay hd (kA ?_));have a6:(bU [] (pairs.take i)).length<=mu:=by have h1:=j9 (pairs.take i) [];rw[qr,Yg]at h1;lia
  refine DF (wpAny_dictSet_heap (hsz:=a6) ?_ uL bT λb0 wj a4=>?_)
  ·rw[Zh F.aN _];exact tupleKind_room_in1 ap
  have e:bU [] (pairs.take (i+1))=storedH (bU [] (pairs.take i)) k b val:=by rw[p7,av];exact nF _ _ _
  rw[<- e]at wj;have fr:∀b o,b≠S->h'.get? b=Z o->b0.get? b=Z o:=λb o K eb=>(a4.2 b K).trans eb;exact kA (HI F.aN _,ih (i+1) _ (by rw[Y6,hk];rfl) aP (W.frame _ _ _ q9 λb K o eb=>fr b o (λz=>a0 (z▸K)) eb) wj (λb o K q eb=>fr b o q (g b o K (Q b o K q eb))) λh3 a3 bh bD=>(hR h3 a3 (λb o K q eb=>bh b o K q (fr b o q (g b o K eb))) bD))
theorem mT{E:Φ}{s:ϋ}{S p:J}{its:Array B}{pairs:List (List κ×J×B)}{id:String}{res:B}(hu:A.units+3<cLine)(hh:A.handled=Y)(hS:s.heap.DictOfH (tupleKind knd) S [])(av:p≠S)
  (ho:∃(o:Obj)(n:Nat),s.heap.get? p=Z o/\o.dict=Y/\o.data=.seq its n/\(o.cls=.type "tuple" \/ o.cls=.type "list")) (hsz:pairs.length<=mu) (ay:pairs.length=its.size)
  (Q:∀z∈pairs,(tupleKind knd).is s.heap z.1 z.2.1)
  (hp:∀(i:Nat)(v:B),its[i]?=Z v->∃(a b:J)(o:Obj)(val:B)(k:List κ)(m:Nat),v=.ref a/\pairs[i]?=Z (k,b,val)/\s.heap.get? a=Z o/\o.cls=.type "tuple" /\ o.data=.seq #[.ref b,val] m)
  (hR:∀h' tk,(∀b o,b≠S->s.heap.get? b=Z o->h'.get? b=Z o)->h'.DictOfH (tupleKind knd) S (bU [] pairs)->R (.ok (.ret res)) {s with heap:=h',toks:=tk}):
  wpAny (model prog w) A.in1 (Builtin.Dict.updateFrom id S (.ref p) [] res) (λfin s'=>match fin with|.done f=>R (.ok f) s' |.again c'=>c'.quiet=O/\codeAny (model prog w) A c' R s') (λe s'=>R (.error e) s') s:=by
 let(o,n,hg,V,K,g):=ho;have P:∀{a:J}{oa:Obj}{m:Nat}{us:Array B},s.heap.get? a=Z oa->oa.data=.seq us m->a≠S:=λ{a oa m us} e4 e6 z=>by
  let(o,_,_,e,hc,hd,_):=hS;rw[<- z,e4]at e;cases e;rw[e6]at hd;cases hd
 have fin:∀(h1:Do) tk h2 I St,(∀b o,s.heap.get? b=Z o->h1.get? b=Z o)->(∀b o,h1.get? b=Z o->h2.get? b=Z o)->h1.objs.size<=I->Walks prog w A.in1 I [I,p] [I] its.size (λi v=>its[i]?=Z v) St->St 0 h2 ->
   codeAny (model prog w) A (.builtin "dict.update.loop" ([.ref S,.ref I,rawInt 0,res],[])) R {s with heap:=h2,toks:=tk}:=by
  intro h1 tk h2 I St k1 k2 hI W ar;have q:∀b o,s.heap.get? b=Z o->b≠I:=λb o e z=>by
   have:=kz (k1 b o e);exact absurd (ui this hI) (by rw[z];exact Wo _)
  have aP:S ∉ [I,p]:=λz=>by
   let(o,_,_,e,_):=hS;obtain z|z:=kC.mp z
   ·exact q S o e z
   exact av (fy.mp z).symm
  refine gE (knd:=knd) hu W S aP res s.heap pairs hsz ay (λz hz=>?_) (λi v hP=>?_) its.size 0 _ U (zt _) ar ?_ (λb o _ _ e=>k2 b o (k1 b o e)) λh' ak hk aQ=>?_
  ·have hk:=Q z hz;let(oz,iz,mz,e1,e2,e3,_):=hk;exact(Q z hz,λy=>q _ oz e1 (fy.mp y),P e1 e3)
  ·let(a,b,oa,val,k,m,e1,e2,e4,e5,e6):=hp i v hP;exact(a,b,oa,val,k,m,e1,e2,e4,e5,e6,λz=>q a oa e4 (fy.mp z),P e4 e6)
  ·exact hS.at (λo e=>k2 _ _ (k1 _ _ e)) λz hz=>nomatch hz
  exact hR h' ak (λb o hb e=>hk b o (λz=>q b o e (fy.mp z)) hb (k2 b o (k1 b o e))) aQ
 obtain g|g:=g
 ·refine dN (Tz (o,hg,g) ?_);refine dN (js hg g K V hh λh1 tk k1=>?_);refine dN (UU ?_);have hT:h1.IsTuple p its:=(o,k1 _ _ hg,g,n,K);exact dN (wpAny_pyIter_tuple hT (kA (HI F.aN _,(fin h1 tk _ h1.objs.size _ k1 (λb o e=>gs _ e) (kB _) (Walks.tuple (show A.in1.handled=Y from hh) _ p (rl (kz (k1 _ _ hg))) its) ((_,kD _ U,U,U),hT.push _)))))
 refine dN (Tz (o,hg,g) ?_);refine dN (kc hg g K V hh λh1 tk k1=>?_);refine dN (UU ?_);have hT:h1.IsList p its:=(o,k1 _ _ hg,g,n,K);exact dN (wpAny_pyIter_list hT (kA (HI F.aN _,(fin h1 tk _ h1.objs.size _ k1 (λb o e=>gs _ e) (kB _) (Walks.list (show A.in1.handled=Y from hh) _ p (rl (kz (k1 _ _ hg))) its) ((_,kD _ U,U,U),hT.push _)))))
end
end PySem
namespace L2
open PySem PySem.Spec PyProof.Rows
variable{H:Hp}{gd:Ξ}{kvs:ϑ}
section
variable{X:Cx}
def cD(kvs more:ϑ):ϑ:=more.foldl (λacc kv=>putK acc kv.1 kv.2) kvs
def KT.merge:∀{more:ϑ}{rs:List (List Key×J×B)}{kvs:ϑ}{xs:List (List Key×J×B)},KT H more rs->KT H kvs xs->KT H (cD kvs more) (bU xs rs):=by
 intro more rs kvs xs r;induction r generalizing kvs xs with
 |nil=>intro q;exact q
 |@cons p q ps qs h t z =>
  intro g;let(h1,h2,h3):=h;have e:=KT.put g p.1 h2 h3;have K:KT H (putK kvs p.1 p.2) (storedH xs q.1 q.2.1 q.2.2):=by rw[<- h1];exact e
  exact z K
theorem gn:∀(more kvs:ϑ),(cD kvs more).length<=kvs.length+more.length
 |[],kvs=>by show kvs.length<=kvs.length+0;lia|p::r,kvs=>by
  have h1:=gn r (putK kvs p.1 p.2);have h2:=gM kvs p.1 p.2;show(cD (putK kvs p.1 p.2) r).length<=_;rw[qf];lia
inductive Jp(xs:Ω)(H:Hp)(Q:VK):Prop
 |mk(p:J)(ps bs:Θ)(kvs:ϑ)(h1:xs=[.ref p])(h2:H p=Z (.lst (ps.map V.ref)))(h3:ps.length=kvs.length)(h3':bs.length=kvs.length)(h4:∀(i:Nat)(a b:J)(kv:List Key×V),ps[i]?=Z a->bs[i]?=Z b->kvs[i]?=Z kv->H a=Z (.tup [.ref b,kv.2])/\H b=Z (.tup (kv.1.map kV)))(h5:∀d,H d=Y->Q (.ref d) (upd H d (.dT (cD [] kvs))))
def GD{σ:St}{s:ϋ}(I:Inv X gd σ H s):∀{ps bs:Θ}{kvs:ϑ}{us:Δ},Vals (ps.map V.ref) us->ps.length=kvs.length->bs.length=kvs.length->(∀(i:Nat)(a b:J)(kv:List Key×V),ps[i]?=Z a->bs[i]?=Z b->kvs[i]?=Z kv->H a=Z (.tup [.ref b,kv.2])/\H b=Z (.tup (kv.1.map kV))) ->
  ∃pairs:List (List Key×J×B),KT H kvs pairs/\∀(i:Nat)(v:B),us[i]?=Z v->∃(a b:J)(o:Obj)(val:B)(k:List Key)(m:Nat),v=.ref a/\pairs[i]?=Z (k,b,val)/\s.heap.get? a=Z o/\o.cls=.type "tuple" /\ o.data=.seq #[.ref b,val] m:=by
 intro ps;induction ps with
 |nil =>
  intro bs kvs us r hl _ _;have e:kvs=[]:=by cases kvs with|nil=>rfl|cons _ _=>simp at hl
  subst e;cases r;exact([],.nil,λi v h=>by simp at h)
 |cons p ps ih =>
  intro bs kvs us r hl K h;cases kvs with
  |nil=>simp at hl|cons kv kvs =>
   cases bs with|nil=>simp at K|cons b bs =>
   cases r with
   |@cons _ u _ us r1 Q =>
    let(pairs,h1,h2):=ih Q (hl:) (K:) λi p b kv z q g=>h (i+1) p b kv (z:) (q:) (g:);let(hp,hq):=h 0 p b kv ad ad ad;let(its,P,(o,ho,hc,m,hd),_):=I.tuple (SqT.of hp);cases P with
    |@cons _ key _ rest k1 k2 =>
     cases k2 with
     |@cons _ val _ UY k3 k4 =>
      cases k4;cases(k1);refine((kv.1,b,val)::pairs,.cons (U,hq,k3) h1,λi v hv=>?_);cases i with
      |zero =>
       simp at hv;subst hv;cases(r1);exact(p,b,o,val,kv.1,m,U,ad,ho,hc,hd)
      |succ i =>let(a,b',oa,Rc,k,m',z,q,g):=h2 i v (hv:);exact(a,b',oa,Rc,k,m',z,(q:),g)
def KT.keys{xs:List (List Key×J×B)}(r:KT H kvs xs):∀z∈xs,H z.2.1=Z (.tup (z.1.map kV)):=by
 induction r with
 |nil=>intro z g;cases g
 |@cons p q ps qs h t K =>
  intro z g;obtain e|e:=kC.mp g
  ·rw[e,<- h.1];exact h.2.1
  exact K z e
theorem Du(hu:X.A.units+5<cLine)(hc:X.calm=O):cL X (.type "dict") Jp:=by
 intro gd s σ H xs us Q I r h;let(p,ps,bs,kvs,U,hp,hl,av,ak,q):=h;let(u,U,ru):=vals1 r;cases ru;have hh:=I.ok.hd hc;obtain⟨its,rv,K,ob⟩:∃its:Δ,Vals (ps.map V.ref) its/\(ps.map V.ref).length<=mu/\∃(o:Obj)(n:Nat),s.heap.get? p=Z o/\o.dict=Y/\o.data=.seq its.toArray n/\(o.cls=.type "tuple" \/ o.cls=.type "list"):=by let(K,its,n,rv,e):=(I.hok p _ hp);exact(its,rv,K,_,n,e,U,U,.inr U)
 let(pairs,kv,uJ):=GD I rv hl av ak;refine callType_codes (Q₁:=λobj g=>obj=.ref s.heap.objs.size/\g={s with heap:=s.heap.push {cls:=.type "dict",data:=.dict #[]}}) F.kt_called_dict (F.kt_typeCall_dict_1 _) F.entry_dict_init (kt_code_dict_new _ (U,U)) ?_;rintro obj g ⟨rfl,rfl⟩;have P:(s.heap.push {cls:=.type "dict",data:=.dict #[]}).DictOfH (tupleKind (a8 X.prog X.w)) s.heap.objs.size []:=Heap.DictOfH.new s.heap;refine(P.typeIs,F.args_dict_init_2 _ _,(dN (dN (wpAny_notOrdered_dict P.typeIs (kA ?_)))));let(o,n,ho,aP,ay,aQ):=ob;have ar:=rv.length;rw[cU]at ar K;have aW:=Paired.length kv;refine mT (E:=λ_ _=>True) (pairs:=pairs) ?_ hh P (rl (kz ho)) (o,n,gs _ ho,aP,ay,aQ) ap (by rw[qg];lia) (λz K=>?_) (λi v hv=>?_) λh' tk hk hd=>?_
 ·show X.A.units+1+3<cLine;omega
 ·exact ig (ke I.hok (kv.keys z K)) λo e=>gs _ e
 ·let(a,b,oa,val,k,m,e1,e2,e4,e5,e6):=uJ i v (hv:);exact(a,b,oa,val,k,m,e1,e2,gs _ e4,e5,e6)
 refine(U,.ref s.heap.objs.size,_,I.laid (λb u e=>hk b u (rl (kz e)) (gs _ e)) (kB _) ?_,U,q _ (I.hok.fresh (kB _)));let(q',es,ep,hq,h2,h3,h4,_,h5):=hd;refine(?_,?_,_,KT.keeps (KT.merge kv .nil) λc ys ec=>by rw[au (λz=>by rw[z,I.hok.fresh (kB _)]at ec;cases ec)];exact ec,q',es,ep,hq,h2,h3,h4,h5)
 ·have:=gn kvs [];simp only[Yg]at this;lia
 have:=I.big;exact beq_eq_false_iff_ne.mpr (D7 this)
end
variable{d:J}{dl:Dl}
section
variable{X:Cx}{K:BT}{a b e:Ev}{ta tb te:TE}{qa qb qe:QE}{pos p:Pos}
def Inv.ET{σ:St}{s:ϋ}(I:Inv X gd σ H s)(g:H d=Z (.dT kvs)):∃o,Inv X gd σ (upd H d (.frz o (.dT kvs))) s:=by
 have K:∀o v,X.be d≠Z (.frz o v):=λo v e=>by
  have:=I.base.k9 d o v e;rw[g]at this;cases this
 let(z,hs,vs,r,o,es,ep,e,c):=(I.hok d _ g);exact(o,I.zW g nofun nofun nofun K (e,z,hs,vs,KT.keeps r λc ys q=>by rw[au (j7 q g (λz=>nomatch z))];exact q,o,es,ep,e,c))
def Ew:T->Option (List Key×V)
 |.t [.t ks,.i x]=>(lE ks).map λk=>(k,.int x)|_=>Y
def kP:ϓ->Option (ϑ)
 |[]=>Z []|x::r=>match Ew x,kP r with|some p,Z ps=>Z (p::ps)|_,_=>Y
def GF{x:T}{p:List Key×V}(h:Ew x=Z p):∃ks n,x=.t [.t ks,.i n]/\lE ks=Z p.1/\p.2=.int n:=by
 cases x with
 |t l =>
  cases l with
  |nil=>cases h
  |cons a r =>
   cases a with
   |t ks =>
    cases r with
    |nil=>cases h
    |cons b r =>
     cases b with
     |i n =>
      cases r with|nil =>let(k,h1,U):=gV.mp h;exact(_,_,U,h1,U)|cons _ _=>cases h
     |_=>cases h
   |_=>cases h
 |_=>cases h
def aC.cO{xs:ϓ}{vs:Ω}{F:Θ}(h:aC K dl H vs xs F)(e:kP xs=Z kvs):∃ps bs:Θ,vs=ps.map V.ref/\ps.length=kvs.length/\bs.length=kvs.length/\∀(i:Nat)(a b:J)(kv:List Key×V),ps[i]?=Z a->bs[i]?=Z b->kvs[i]?=Z kv->H a=Z (.tup [.ref b,kv.2])/\H b=Z (.tup (kv.1.map kV)):=by
 induction xs generalizing vs F kvs with
 |nil=>cases h;cases e;exact([],[],U,U,U,λi a b kv h=>by simp at h)
 |cons x r P =>
  cases h with
  |cons h1 h2 =>
   unfold kP at e;split at e
   ·rename_i p ps q g;cases e;let(ks,n,U,hk,hv):=GF q;let(qs,bs,U,l1,l2,Q):=P h2 g;let(a,us,U,ha,hr):=h1.tup;cases hr with
    |cons g1 g2 =>
     cases g2 with
     |cons g3 g4 =>
      cases g4;let(b,ws,U,hb,hw):=g1.tup;let(U,_):=g3.int;have ew:=hw.Qr hk;subst ew;refine(a::qs,b::bs,U,by simp[l1],by simp[l2],λi a' b' kv q g z=>?_);cases i with
      |zero=>cases q;cases g;cases z;rw[hv];exact(ha,hb)
      |succ i=>exact Q i a' b' kv (q:) (g:) (z:)
   cases e
def Rq(te:TE):TE:=λσ H Q=>tCB Jp (dy te iP) σ H λv H1=>∃d kvs,v=.ref d/\H1 d=Z (.dT kvs)/\∀o,Q v (upd H1 d (.frz o (.dT kvs)))
def R8(qe:QE):QE:=λq Q=>qe q λt=>match t with|.l xs=>Ex3 (λkvs=>kP xs=Z kvs) (λkvs=>.fz (.dT (cD [] kvs))) Q|_=>False
def JD(hu:X.A.units+150<cLine)(hm:X.mg "dict"=Y)(he:QPF X K e te qe)(hg:Gl X "dict":=by exact U)(hc:X.calm=true:=by exact U)
  (hv:bootBuiltins "dict"=Z (.type "dict"):=by kernel_rfl) (hs:‹AC X e []›) (V:‹(backTo pos (mJ [] X.env)).any (·.1)=false›):
  QPF X K (.Call (.Name "dict" p) [e] [] pos) (Rq te) (R8 qe):=(by
 left;refine thn (wN (Du ap hc) hg hm hv (cn he.h eB hs) ac ac hs V gd s σ H _ I h) λu s' ak=>?_;let(v,H',I',r,d,kvs,g,e2,q):=ak;let(o,I2):=I'.ET e2;exact(v,_,I2,r,q o),λdl H σ q Q R rd hq k=>he.s dl H σ q _ _ rd hq λv t F H1 g r1 f1 n1 P=>by
 split at P
 ·let(kvs,hk,hq):=P;let(p,vs,G,U,U,h1,h2):=r1.r.lst;let(ps,bs,U,l1,l2,hh):=h2.cO hk;exact(p,ps,bs,kvs,U,h1,l1,l2,hh,λd hd=>(d,_,U,aA,λo=>(k _ _ [] _ ((g.new hd).fresh (g.free hd) (g.d.nd0 hd)) (.fz aA,nofun) nofun lu hq)))
 exact P.elim)
def aM.fzz{v:V}(h:aM K dl H v (.fz u) F):∃a o,v=.ref a/\F=[]/\H a=Z (.frz o u):=h.inv
def Vm:Q2:=λt u Q=>match t,u with|.fz (.dT kvs),.t ks=>Ex2 (λp:List Key×Int=>lE ks=Z p.1/\bV kvs p.1=Z (.int p.2)) λp=>Q (.i p.2)|_,_=>False
def t5(hu:X.A.units+150<cLine)(ha:QPE X K a ta qa)(g:QPE X K b tb qb)(hs:Ut b:=by intro _ _;rfl):QPF X K (.Subscript a b pos) (Qd ta tb) (qOp Vm qa qb):=(gK ap ha.h g.h hs,λdl H σ q Q R rd hq k=>ha.s dl H σ q _ _ rd hq λv t F H1 V P hq=>g.s dl H1 σ q _ _ (rd.evo V) hq λw u G H2 e2 r2 hq=>by
 have P:=P.evo V.d e2;unfold Vm at hq;cases t with
 |fz o =>
  cases o with
  |dT kvs =>
   cases u with|t ks =>let(p,(hk,hv),hq):=hq;let(d,o,U,U,hd):=P.r.fzz;let(b,vs,U,g,hr):=r2.r.tup;have ev:=hr.Qr hk;subst ev;exact(d,_,U,.inr (_,p.1,b,.inr (o,hd),U,g,hv.symm),k _ _ [] H2 (V.trans e2) (.c (.i _)) nofun lu hq)|_=>exact hq.elim
  |_=>exact hq.elim
 |_=>exact hq.elim)
end
def Iti(d:J)(o:Obj)(kvs:ϐ):It:=
 (λi H=>H d=Z (.frz o (.dK kvs))/\i<kvs.length,
λi H v H'=>∃(p:J)(kv:Key×V),H p=Y/\v=.ref p/\H'=upd H p (.tup [kV kv.1,kv.2])/\kvs[i]?=Z kv,
λi H=>H d=Z (.frz o (.dK kvs))/\kvs.length<=i)
variable{P:Da}{elts:List Ev}
theorem B3{K:BT}{x1}{pos:Pos}(d it:J)(o:Obj)(kvs:ϐ)(es:Array DictEntry)(ep:Nat)(ho:o.data=.dict es ep):
  Turn P w K (.Tuple elts x1 pos) (Iti d o kvs) [it] it (λi h=>∃ok q,IsItemIter h it d i kvs.length ep ok q) where
 mem:=by simp
 obj:=λi h st b g=>by
  have e:=(g:);subst e;let(ok,q,e):=st;exact(_,e,λv z=>by cases z)
 keep:=λi h h' st k=>let(ok,q,e):=st;(ok,q,k it ad _ e)
 item:=by
  intro X hP hw hK hc i gd s σ H E I hf st hg;subst hP hw hK;let(ok,q,h1):=st;let(hd,aP):=hg;let(_,vs,r,at_):=mw I hd ho;have l1:=Paired.length r;obtain⟨wv,hv⟩:∃wv,vs[i]?=Z wv:=(_,dQ ap);let(kv,ek,e1,e2):=Paired.at_ r hv;rw[l1]at h1;refine wpAny_pyNext_items_item h1 at_ hv λkey h' uL ar ay V3 av=>(_,U,(wpAny_letOwnedTupleGo_items ar λak Pc Lo=>?_));have hn:=I.hok.fresh (kB s.heap.objs.size);have le:=kz h1;have up:∀c o,c≠it->h'.get? c=Z o->ak.get? c=Z o:=λc o hc z=>Lo.extBut _ _ hc z;have I1:Inv X gd σ (upd H s.heap.objs.size (.tup [kV kv.1,kv.2])) {s with heap:=s.heap.push {cls:=.type "tuple",data:=.seq #[key,wv.2]}}:=
   I.laid (λb u z=>gs _ z) (kB _) (by show 2<=mu;decide,[key,wv.2],.cons (C5 (by rw[e1];exact uL)) (.cons e2 .nil),((_,kD _ U,U,_,U),_,kD _ U,U))
  have Q:∀b ∈ [it],rH X gd (upd H s.heap.objs.size (.tup [kV kv.1,kv.2])) b:=λb g=>by
   let(f0,r):=hf b g;rw[fy.mp g]at f0 r ⊢;exact(by rw[au (rl le)];exact f0,r)
  have I2:=by
   refine I1.kL (h':=ak) (t':=s.toks) (λb o g z=>?_) Q;simp only[kC,v5,or_false]at g;obtain⟨rfl,rfl⟩|z':=Zg z
   ·exact up _ _ g ay
   exact up _ _ g (av b o g z')
  rw[<- l1]at Pc;exact(.ref s.heap.objs.size,upd H s.heap.objs.size (.tup [kV kv.1,kv.2]),I2,U,(_,kv,hn,U,U,ek),(_,_,Pc),λb g=>(Q b g).1)
 done:=by intro X hP hw hK hc i gd s σ H E I hf st hg;subst hP hw hK;let(ok,q,h1):=st;let(hd,hle):=hg;let(_,vs,r,at_):=mw I hd ho;have l1:=Paired.length r;rw[l1]at h1;exact wpAny_pyNext_items_end (I.ok.hd hc) h1 at_ (P2 ap) λh' eb=>(U,I.kL (λb o g z=>eb b o (λy=>g (by simp[y])) z) hf)
 self:=λ_ _ _ _ _ st h=>by
  let(ok,q,h1):=st;exact W.kcp_self h1 h
variable{pos':Pos}{a:J}{ob:Obj}{H1:Hp}
section
variable{X:Cx}{K:BT}{o:Ev}{to:TE}{qo:QE}{apos aY:Pos}
def Dc(to:TE):TI:=λσ H R=>Il to σ H λx H1=>∃v d ob kvs,x=.ref v/\H1 v=Z (.ext (ItV v d))/\H1 d=Z (.frz ob (.dK kvs))/\R (Iti d ob kvs) H1
def Ak{x1}(ho:PE X o to)(cQ:‹attributeBase o "items" X.env (eval o X.env)=eval o X.env›)(cP:‹(apos.endLine==aY.line)=true›):PI X (.Tuple elts x1 pos') (.Call (.Attribute o "items" apos) [] [] aY) (Dc to):=by intro gd s σ H R I h;refine thn (Kh ho cQ cP gd s σ H _ I h) λu s1 P=>?_;let(x,H1,g,r1,v,d,ob,kvs,ex,hv,hd,q):=P;subst ex;cases r1;let(K,_):=(g.hok v _ hv);let(eo,z,ar,ak,r0,o',es,ep,V,c,Q,rest):=(g.hok d _ hd);rw[eo]at V;cases V;let(hs,vs,r,at_):=mw g hd Q;have l1:=Paired.length r;refine wpAny_pyIter_items K at_ ?_;refine(_,[s1.heap.objs.size],_,_,H1,U,g.kept (λb o e=>gs _ e),B3 d _ ob kvs es ep Q,(_,_,by rw[l1];exact kD _ U),λc hc=>?_,q);rw[fy.mp hc];exact g.Dh (kB _) (g.hok.fresh (kB _))
def a9.at2(h:a9 K dl H vs ts F):F=[]->∀{i:Nat}{kv:Key×V}{t:Key×T},vs[i]?=Z kv->ts[i]?=Z t->kv.1=t.1/\aM K dl H kv.2 t.2 []:=
 h.ind (λ_ _ _ _ h=>by simp at h) λk v x vs ts F G h _ g e {i kv t} h1 h2=>by
  let(z,q):=DE.mp e;subst z;cases i with
  |zero=>cases h1;cases h2;exact(U,h)
  |succ i=>exact g q (h1:) (h2:)
def AX{vs:ϐ}{ts:ϔ}:rE K dl (Iti a ob vs) (ts.map Ql) [(.ref a,.fd ob vs ts)] where
 go:=λH i D h hi=>by
  let(F,r):=h (.ref a,.fd ob vs ts) ad;let(_,e,_,h1,h2):=r.r.rj;cases e;rw[cU]at hi;exact(h1,by rw[h2.len];exact hi)
 yld:=λH i x fp v H' D h hx y=>by
  have r:=h (.ref a,.fd ob vs ts) ad;let(_,e,_,h1,h2):=r.r.rj;let(p,kv,hp,U,U,ek):=y;rw[fN]at hx;let(t,q,U):=gV.mp hx;let(Q,g):=h2.at2 U ek q;have rs:Rps K dl H [kV kv.1,kv.2] [kT t.1,t.2] ([]++([]++[])):=Rps.cons (by rw[Q];cases t.1;exact .i _;exact .s _,nofun) (Rps.cons (g,nofun) (.nil,nofun));exact((Evo.refl D).new hp,_,rs.tup D hp,λc P=>nomatch P)
 stop:=λH D h=>by
  let(F,r):=h (.ref a,.fd ob vs ts) ad;let(_,e,_,h1,h2):=r.r.rj;cases e;exact(h1,by rw[cU,h2.len];exact kB _)
def WD(qo:QE):QI:=λq Q=>qo q λt=>match t with|.fd _ _ ts=>Q (ts.map Ql)|_=>False
def IJ{σ:St}{R:It->Hp->Prop}{vs:ϐ}(hd:H1 d=Z (.frz ob (.dK vs)))(k:∀w,H1 w=Y->R (Iti d ob vs) (upd H1 w (.ext (ItV w d)))):Cw (.ref d) [] H1 λx H2=>∃v d ob kvs,x=.ref v/\H2 v=Z (.ext (ItV v d))/\H2 d=Z (.frz ob (.dK kvs))/\R (Iti d ob kvs) H2:=
 (d,vs,U,U,.inr (ob,hd),λw hw g=>(w,d,ob,vs,U,aA,by rw[au g.symm];exact hd,k w hw))
def zZ{V}(ho:QPE X K o to qo)(cQ:‹attributeBase o "items" X.env (eval o X.env)=eval o X.env›)(cP:‹(apos.endLine==aY.line)=true›):
  QPI X K (.Tuple elts V pos') (.Call (.Attribute o "items" apos) [] [] aY) (Dc to) (WD qo):=(Ak ho.h cQ cP,λdl H σ q Q R rd hq k=>ho.s dl H σ q _ _ rd hq λv t F H1 z P g=>by
 split at g
 ·let(d,U,U,h1,h2):=P.r.rj;refine IJ (σ:=σ) h1 λw hw=>k _ _ _ _ (z.new hw) AX (λp hp=>by rw[fy.mp hp];exact(_,P.evo z.d ((Evo.refl z.d).new hw))) g
 exact g.elim)
def Jx{x1}(ho:QPE X K o to qo)(cQ:‹attributeBase o "items" X.env (eval o X.env)=eval o X.env›)(cP:‹(apos.endLine==aY.line)=true›):
  QPJ X K (.Tuple elts x1 pos') (.Call (.Attribute o "items" apos) [] [] aY) (Dc to) (asJ (WD qo)):=(Ak ho.h cQ cP,λdl be hs H σ q Q R (F0,r0) hq k=>ho.s dl H σ q _ _ r0.rd hq λv t F H1 P V g=>by
 split at g
 ·let(d,U,U,h1,h2):=V.r.rj;refine IJ (σ:=σ) h1 λw hw=>?_;have ev:=(Evo.refl P.d).new (o:=.ext (ItV w d)) hw;exact k _ _ _ _ q (F0,(r0.evo (P.trans ev)).hold (V.evo P.d ev) λj u hj b hb z=>nomatch z) AX g
 exact g.elim)
end
end L2
namespace PySem
open Sem (wp)
section
variable{prog:Da}{w:Cl}{A:Db}{R:Result->ϋ->Prop}{I:J}{fp wr:Θ}{n:Nat}{P:Nat->B->Prop}{St:Nat->Do->Prop}{kw:List (Str×B)}
theorem GV(W:Walks prog w A.in1 I fp wr n P St)(bt:Nat->Nat->Bool)(XR:CmpOf prog w A.in1 .Lt P bt)(S:J)(aW:S ∉ fp):
  ∀(k j:Nat)(s:ϋ)(Q:B)(c:Nat),n-(j+1)=k->j+1<=n->St (j+1) s.heap->P (argBest bt j) Q ->
  s.heap.get? S=Z {cls:=.type "list",dict:=Y,data:=.seq #[Q,Q] c,slots:=#[]} ->
  (∀v h' tk,P (argBest bt (n-1)) v->(∀b o,b ∉ wr->b≠S->s.heap.get? b=Z o->h'.get? b=Z o)->R (.ok (.ret v)) {s with heap:=h',toks:=tk}) ->
  codeAny (model prog w) A (.builtin "min.loop" ([.ref I,.none,.ref S],kw)) R s:=by
 have aQ:S ∉ wr:=λh=>aW (W.sub _ h);have EO:(toString "min"++toString ".loop":String)="min.loop":=ac;intro k;induction k with
 |zero =>
  intro j s Q c hk hj ak V hS hR;have aP:j+1=n:=ap;refine HJ F.entry_min_loop ?_;refine dN (wpAny_seqItems hS U ?_);refine dN (wpAny_tryCatch (W.done s _ _ (aP▸ak) λh' tk q=>?_));have K:=q S _ aQ hS;refine dN (Uv K U (dN (wpAny_letGo (kA (hR Q _ tk (by rw[<- aP];exact V) λb o g z e=>(we _ _ (Ne.symm z)).trans (q b o g e))))))
 |succ k ih =>
  intro j s Q c hk hj ak V hS hR;have ar:=YE hk;refine HJ F.entry_min_loop ?_;refine dN (wpAny_seqItems hS U ?_);refine dN (wpAny_tryCatch (W.item (j+1) s _ _ ar ak λv h' tk hP q9 q=>?_));have K:=q S _ aQ hS;show wpAny _ A.in1 (tryCatch (holding [v,v] (richCompare .Lt v Q >>= _)) _ >>= _) _ _ _;refine dN (wpAny_tryCatch (DF (dN (XR (j+1) (argBest bt j) v Q _ _ _ hP V (dN (DF (wpAny_truthy_bool (dN (wpAny_letGo (kA ?_))))))))));cases hb:bt (j+1) (argBest bt j)with
  |true =>
   refine dN ?_;refine Uv K U (dN (wpAny_letGo ?_));rw[EO];refine kA (HI F.plain_min_loop _,ih (j+1) _ v _ (by rw[Y6,hk];rfl) ar (W.frame _ _ _ q9 λb a0 o e=>?_) (by simp only[argBest,hb,if_true];exact hP) (Fo _ K U)
λv' ay Ii av Lr=>?_)
   ·exact(we _ _ (λh:S=b=>aW (by rw[h];exact a0))).trans e
   exact hR v' ay Ii av λb o g z e=>Lr b o g z ((we _ _ (Ne.symm z)).trans (q b o g e))
  |false =>refine dN (wpAny_letGo ?_);rw[EO];refine kA (HI F.plain_min_loop _,ih (j+1) _ Q c (by rw[Y6,hk];rfl) ar q9 (by simp only[argBest,hb,Y2,if_false];exact V) K λv' ay Ii av Lr=>?_);exact hR v' ay Ii av λb o g z e=>Lr b o g z (q b o g e)
end
def F.Hy(a d:B):argsOk "min" ([a],[("default",d)]):=bn
section
variable{prog:Da}{w:Cl}{A:Db}{E:Φ}{s:ϋ}
theorem Hs{l:J}{its:Array B}{d:B}{Q:Φ}(val:Nat->Int)(hh:A.handled=Y)(hl:s.heap.IsTuple l its)(hv:∀(i:Nat) v,its[i]?=Z v->∃t,v=.int (val i) t)
  (hQ:∀v h' tk,(its.size=0->v=d)->(0<its.size->its[argBest (λi j=>decide (val i<val j)) (its.size-1)]?=Z v)->(∀b o,s.heap.get? b=Z o->h'.get? b=Z o)->Q v {s with heap:=h',toks:=tk}):
  wpAny (model prog w) A (call (.builtin "min") [.ref l] [("default",d)]) Q E s:=by
 have EO:(toString "min"++toString ".loop":String)="min.loop":=ac;let(ol,P,av,nl,ar):=id hl;refine pX F.kind_min F.plain_min F.entry_min (F.Hy _ _) ?_;refine dN (YO (show Builtin.Builtins.bindParams "min" ["key","default"] 0 ([],[("default",d)])=pure [Y,Z d]from by kernel_rfl) (dN (kA (dN (wpAny_pyIter_tuple hl (dN (Xx ?_)))))));rw[EO];have V:=kz P;have hsz:∀o:Obj,(s.heap.push o).objs.size=s.heap.objs.size+1:=λo=>BB _ _;have W:=Walks.tuple (prog:=prog) (w:=w) (A:=A.in1) hh s.heap.objs.size l (rl V) its;have K:(λi (h:Do)=>h.IsTupleIter s.heap.objs.size l i/\h.IsTuple l its) 0 ((s.heap.push {cls:=.type "tuple_iterator",data:=.fields #[.ref l,.int 0 0]}).push (~~~([]:Δ).toArray)):=
  ((_,gs _ (kD _ U),U,U),(ol,gs _ (gs _ P),av,nl,ar))
 have hS:((s.heap.push {cls:=.type "tuple_iterator",data:=.fields #[.ref l,.int 0 0]}).push (~~~([]:Δ).toArray)).get? (s.heap.objs.size+1)=Z {cls:=.type "list",dict:=Y,data:=.seq #[],slots:=#[]}:=by rw[<- hsz];exact kD _ U
 have q:s.heap.objs.size+1 ∉ [s.heap.objs.size,l]:=λz=>by
  obtain z|z:=kC.mp z
  ·exact absurd z (D7 (YB _))
  exact absurd (fy.mp z) (D7 (YU V))
 have aP:=λz=>q (kC.mpr (.inl (fy.mp z)));have up:∀b o,s.heap.get? b=Z o->((s.heap.push {cls:=.type "tuple_iterator",data:=.fields #[.ref l,.int 0 0]}).push (~~~([]:Δ).toArray)).get? b=Z o:=λb o e=>gs _ (gs _ e);have old:∀b o,s.heap.get? b=Z o->b ∉ [s.heap.objs.size]/\b≠s.heap.objs.size+1:=λb o e=>by
  have:=kz e;exact(λz=>rl this (fy.mp z),rl (YU this))
 rw[hsz];refine kA (HI F.plain_min_loop _,HJ F.entry_min_loop ?_);refine dN (wpAny_seqItems hS U ?_);by_cases h0:its.size=0
 ·exact dN (wpAny_tryCatch (W.done _ _ _ (by rw[h0];exact K) λh' tk g=>(dN (UU (kA (hQ d h' tk (λ_=>rfl) (λz=>absurd z ap) λb o e=>g b o (old b o e).1 (up b o e)))))))
 refine dN (wpAny_tryCatch (W.item 0 _ _ _ ap K λv h' tk hP q9 g=>?_));have ak:=g _ _ aP hS;show wpAny _ A.in1 (updateSeq (s.heap.objs.size+1) (λ_=>#[v,v]) >>= _) _ _ _;refine dN ?_;refine Uv ak U ?_;refine kA (HI F.plain_min_loop _,GV W _ (CmpOf.ints_lt val hv) (s.heap.objs.size+1) q _ 0 _ v _ U ap (W.frame _ _ _ q9 λb ay o e=>?_) hP (Fo _ ak U) λv' aW Ii aQ Lr=>?_)
 ·exact(we _ _ (λh=>q (by rw[h];exact ay))).trans e
 exact hQ v' aW Ii (λz=>absurd z h0) (λ_=>aQ) λb o e=>Lr b o (old b o e).1 (old b o e).2 ((we _ _ (Ne.symm (old b o e).2)).trans (g b o (old b o e).1 (up b o e)))
end
end PySem
namespace L2
open PySem PySem.Spec PyProof.Rows
def QY(ns:Ψ)(d n:Int):Prop:=(ns=[]->n=d)/\(ns ≠ []->n∈ns/\∀y∈ns,n<=y)
variable{ns:Ψ}{p3:Pos}
section
variable{X:Cx}{K:BT}{e:Ev}{te:TE}{qe:QE}{p pos Lb:Pos}
def Hz(h:0<ns.length):∃M,ns[argBest (λi j=>decide (ns.getD i 0<ns.getD j 0)) (ns.length-1)]?=Z M/\∀y∈ns,M<=y:=by let(h1,h2):=argBest_lt (λi=>ns.getD i 0) (ns.length-1);have g:argBest (λi j=>decide (ns.getD i 0<ns.getD j 0)) (ns.length-1)<ns.length:=ap;refine(_,dQ g,λy q=>?_);let(j,z,U):=ri q;have:=h2 j ap;rw[zu,zu,dQ z,dQ g]at this;exact this
def P8(K:BT)(te:TE)(d:Int):TE:=λσ H Q=>te σ H λv H1=>∃l ns,v=.ref l/\SqT K H1 l (ns.map V.int)/\∀n,QY ns d n->Q (.int n) H1
def Oc{d:Int}{j1}(hg:Gl X "min")(hm:X.mg "min"=Y)(he:PE X e te)(hc:X.calm=O)(hs:‹AD X e›):
  PE X (.Call (.Name "min" p) [e] [(Z "default",.Constant (.int d) j1 p3,Lb)] pos) (P8 X.K te d):=by
 left;refine QL (eI (u:=.builtin "min") I hg hm bn (PyProof.Rows.callWith_kw ?_ (by rw[hs];rfl) (by rw[hs];rfl)));rw[hs];refine Calls.spliced_cons (thn (he gd s σ H _ I h) λu s1 g=>?_);let(x,H1,I1,r1,l,ns,ex,hl,q):=g;subst ex;cases r1;refine Calls.spliced_nil (thn (N8 (bX) SA pos gd s1 σ H1 (λvs H2=>vs=[.int d]/\H2=H1) I1 (U,U)) λus s2 g=>?_);let(vs,H2,V,rv,e1,e2):=g;subst e1 e2;let(ud,U,t,U):=vals1 rv;let(its,P,pl,hz):=V.tuple hl;have hlen:=P.length;rw[cU]at hlen;refine Hs (λi=>ns.getD i 0) (I.ok.hd hc) pl (λi v ei=>lO P i v (ei:)) λv h' tk z0 z1 hk=>?_;rw[qg]at z0 z1;by_cases h0:its.length=0
 ·have hn:ns=[]:=vq.mp ap;subst hn;rw[z0 h0];exact(.int d,_,V.kept hk,(_,U),q _ (λ_=>rfl,λz=>absurd U z))
 have:=z1 ap;let(M,hM,eM):=Hz (ns:=ns) ap;rw[<- hlen]at this;rw[YT]at this;let(t',U):=lO P _ v this;refine(.int M,_,V.kept hk,(t',?_),q _ (λz=>by subst z;exact absurd hlen.symm h0,λ_=>(g5 hM,eM)));rw[zu,hM];rfl
def Vi(d:Int)(qe:QE):QE:=λq Q=>qe q λt=>match t with|.t xs=>Ex2 (λ(ns:Ψ)=>xs=ns.map .i) λns=>∀n,QY ns d n->Q (.i n)|_=>False
def NH{d:Int}{V}(hm:X.mg "min"=Y)(he:QPE X K e te qe)(hg:Gl X "min":=by exact U)(hK:‹X.K=K›)(hc:‹X.calm=true›)(hs:‹AD X e›):
  QPF X K (.Call (.Name "min" p) [e] [(Z "default",.Constant (.int d) V p3,Lb)] pos) (P8 K te d) (Vi d qe):=(by subst hK;exact Oc hg hm he.h hc hs,λdl H σ q Q R rd hq k=>he.s dl H σ q _ _ rd hq λv t F H1 e1 P g=>by
 split at g
 ·let(ns,U,g):=g;let(l,vs,U,h1,h2):=P.r.tup;let(U,_):=h2.VX;exact(l,ns,U,SqT.of h1,λn hn=>k _ _ [] H1 e1 (.c (.i _)) nofun lu (g n hn))
 exact g.elim)
end
end L2
namespace L2
open PySem PySem.Spec PyProof.Rows
variable{d:J}{ep:Nat}{ns:Ψ}{Q:Φ}
section
variable{prog:Da}{w:Cl}{A:Db}{E:Φ}{s:ϋ}
theorem LW{kvs:List (Key×B)}{R:Δ->ϋ->Prop}(K:A.handled=Y)(lo:(d==sysModules)=ϊ)(z:s.heap.DictAt (a8 prog w) d kvs ep)(hn:kvs.length<=mu)
  (h:∀(h':Do)(tk:Nat)(acc:Array B),(∀b o,s.heap.get? b=Z o->h'.get? b=Z o)->s.heap.objs.size<h'.objs.size->ItemsOf (λi v=>∃k x,kvs[i]?=Z (k,x)/\(a8 prog w).is k v=O) acc kvs.length->R acc.toList {s with heap:=h',toks:=tk}):wpAny (model prog w) A (collect (.ref d)) R E s:=by
 have g:=z.lt_size;refine dN (wpAny_runValue (HJ PySem.F.entry_proto_collect ?_));refine dN (Xx (kA (HI PySem.F.plain_list_iadd _,HJ PySem.F.entry_list_iadd ?_)));have P:(s.heap.push (~~~([]).toArray)).get? s.heap.objs.size=Z (~~~#[]):=kD _ U;have old:∀b o,s.heap.get? b=Z o->b≠s.heap.objs.size:=λb o e=>rl (kz e);have ld:∀{h':Do}{tk:Nat}{acc:Array B}{c:Nat},(∀b o,b≠s.heap.objs.size->(s.heap.push (~~~([]).toArray)).get? b=Z o->h'.get? b=Z o)->h'.get? s.heap.objs.size=Z {cls:=.type "list",dict:=Y,data:=.seq acc c,slots:=#[]} ->
   ItemsOf (λi v=>∃k x,kvs[i]?=Z (k,x)/\(a8 prog w).is k v=O) acc kvs.length->R acc.toList {s with heap:=h',toks:=tk}:=λ{h' tk acc c} k1 k2 k3 =>
  h h' tk acc (λb o e=>k1 b o (old b o e) (gs _ e)) (kz k2) k3
 have key:=W.kdl_extend (s:={s with heap:=s.heap.push (~~~([]).toArray)}) (res:=.ref s.heap.objs.size)
  (R:=λq s'=>∃h' tk acc c,q=.ok (.ret (.ref s.heap.objs.size))/\s'={s with heap:=h',toks:=tk}/\h'.get? s.heap.objs.size=Z {cls:=.type "list",dict:=Y,data:=.seq acc c,slots:=#[]}/\R acc.toList {s with heap:=h',toks:=tk})
  (W.kdl_dict lo) K (z.push _) s.heap.objs.size (D7 g) (D7 g) 0 P (λh' tk acc c k1 k2 k3=>(h',tk,acc,c,U,U,k2,ld k1 k2 k3)) hn
 refine Ux key (λfin s' x=>?_) λe s' x=>?_
 ·cases fin with
  |done f =>
   let(h',tk,acc,c,e,U,k2,k3):=x;cases e;exact dN (wpAny_load k2 (kA k3))
  |again c₁ =>refine(x.1,codeAny_mono x.2 λq s₂ y=>?_);let(h',tk,acc,c,U,U,k2,k3):=y;exact dN (wpAny_load k2 (kA k3))
 let(_,_,_,_,Q,_):=x;cases Q
def zc(hh:A.handled=Y)(lo:(d==sysModules)=ϊ)(P:s.heap.DictAt (a8 prog w) d kvs ep)(hk:kvs.map (·.1)=ns.map Sum.inl)(z:ns.length<64)
  (hQ:∀(l:J)(out:Array B)(ns':Ψ)(e:Nat)(h':Do)(tk:Nat),IntsAre out.toList ns'->ns'.Perm ns->ns'.Pairwise (· <= ·)->h'.get? l=Z (seqObj "list" out e)->s.heap.objs.size<=l->(∀b o,s.heap.get? b=Z o->h'.get? b=Z o)->Q (.ref l) {s with heap:=h',toks:=tk}):
  wpAny (model prog w) A (call (.builtin "sorted") [.ref d]) Q E s:=by
 have hlen:=(congrArg HH hk:);refine Calls.call_function_entry kind_sorted plain_sorted entry_sorted (args_sorted1 _) ?_;refine dN (kA ?_);refine dN (LW hh lo P (wz (ui (by lia:kvs.length<64) ac)) λh' tk acc K hsz ib=>?_);have q:acc.toList.length=ns.length:=by rw[Yx,ib.1,hlen]
 have hI:=by
  have go:∀vs ns,vs.length=ns.length->(∀(i:Nat) v n,vs[i]?=Z v->ns[i]?=Z n->∃t,v=.int n t)->IntsAre vs ns:=by
   intro vs;induction vs with
   |nil=>intro ns hl _;cases ns with|nil=>exact .nil|cons _ _=>simp at hl
   |cons v r ih =>intro ns hl h;cases ns with|nil=>simp at hl|cons n ns =>let(t,U):=h 0 v n U U;exact .cons n t (ih ns (hl:) λi v' n' h1 h2=>h (i+1) v' n' (h1:) (h2:))
  refine go _ _ q λi v n h1 h2=>?_;let(k,x,e1,V):=ib.2 i v (by rw[<- Zb];exact h1);have e3:=congrArg (·[i]?) hk;simp only[fN,e1,h2]at e3;have e4:=Option.some.inj e3;subst e4;have:=C5 V;exact this
 refine dN (wpAny_newList ?_ (fits_of_scanBound (YX (by rw[q];exact z) ac)));have g:(h'.push (seqObj "list" acc.toList.toArray 0)).get? h'.objs.size=Z (seqObj "list" acc.toList.toArray 0):=kD _ U;refine dN (DF (E3 slot_list_sort (_,g,U) entry_list_sort (list_sort_tree g hI (by rw[q];exact z) λout ns' a1 a2 a3=>(_,U,?_)) (args_list_sort _)));let(e,he):=sortedHeap_at g;refine kA (_,U,hQ _ out ns' e _ _ a1 a2 a3 he ?_ λb o V=>?_)
 ·exact wz hsz
 have:=K b o V;rw[sortedHeap_old (rl (kz this)) (by rw[BB];exact YU (kz this))];exact gs _ this
end
variable{b:Ev}{ta:TE}{qa:QE}{qb:QE}
section
variable{X:Cx}{K:BT}
inductive Cv(xs:Ω)(H:Hp)(Q:VK):Prop
 |mk(d:J)(ob:Obj)(kvs:ϐ)(ns:Ψ)(h1:xs=[.ref d])(h2:H d=Z (.frz ob (.dK kvs)))(h3:kvs.map (·.1)=ns.map Sum.inl)(h4:ns.length<64)(h5:∀l (ns':Ψ),ns'.Perm ns->ns'.Pairwise (· <= ·)->H l=Y->Q (.ref l) (upd H l (.lst (ns'.map V.int))))
def KV.Lc{kvs:ϐ}{vs:List (Key×B)}(h:KV kvs vs):vs.map (·.1)=kvs.map (·.1):=by induction h with|nil=>rfl|cons h _ g=>rw[ro,g];exact congrArg (· :: _) h.1.symm
def Dt(hc:X.calm=O):cL X (.builtin "sorted") Cv:=by intro gd s σ H xs us Q I r h;let(d,ob,kvs,ns,U,hd,hk,K,q):=h;let(u,U,ru):=vals1 r;cases ru;let(eo,z,ar,ak,r0,o',es,ep,e',c,pT,rest):=(I.hok d _ hd);rw[eo]at e';cases e';let(hs,vs,rv,at_):=mw I hd pT;refine zc (I.ok.hd hc) hs at_ (by rw[KV.Lc rv];exact hk) K λl out ns' e h' tk a1 a2 a3 he g P=>?_;exact(.ref l,_,I.laid (o:=.lst (ns'.map V.int)) P g (by rw[cU,a2.length_eq];exact wz (ui K ac),out.toList,e,wB a1,by exact he),U,q l ns' a2 a3 (I.hok.fresh g))
def Bp(q:X.K=K)(g:X.calm=O):cL X (.builtin "sorted") Cv:=Dt g
def RY:QC:=λts Q=>on1 ts λt=>match t with|.fd _ _ ks=>Ex2 (λns:Ψ=>ks.map (·.1)=ns.map Sum.inl/\ns.length<64) λns=>∀ns':Ψ,ns'.Perm ns->ns'.Pairwise (· <= ·)->Q (.l (ns'.map .i))|_=>False
def F8:mG K Cv RY:=λdl H vs ts F Q R D r hq k=>by
 replace hq:=on1.inv hq;let(t,U,hq):=hq;cases t with|fd o g ks =>let(ns,(h1,h2),hq):=hq;let(v,U,z):=r.one;let(a,U,U,h3,h4):=z.r.rj;exact(a,o,g,ns,U,h3,by rw[h4.ks];exact h1,h2,λl ns' p1 p2 hl=>(k _ (.l (ns'.map .i)) [l] _ ((Evo.refl D).new hl) (.l aA (lZ ns'),λb q=>by rw[fy.mp q];exact D.nd0 hl) (λb q=>by rw[fy.mp q];exact hl) ad (hq ns' p1 p2)))|_=>exact False.elim hq
inductive Jk(x:V)(y:V)(H:Hp)(Q:VK):Prop
 |mk(a:J)(z:V)(n:Int)(h1:x=.ref a)(h2:y=.int n)(h3:H a=Z (.lst [z]))(h4:0<=n)(h5:n<=16000000)(h6:∀p,H p=Y->Q (.ref p) (upd H p (.lst (rG n.toNat z))))
def LB{α:Type}{x:α}:∀n:Nat,(List.foldl (λq g=>q++g) #[] (rG n #[x]))=(rG n x).toArray:=by
 have go:∀n acc,List.foldl (λq g=>q++g) acc (rG n #[x])=acc++(rG n x).toArray:=by intro n;induction n with|zero=>simp|succ n z =>intro acc;rw[YK,Zk,z];apply Array.ext';simp[YK]
 intro n;rw[go];simp
def Oy:OpR X (binaryOp .Mult) Jk:=by
 intro gd s σ H x y v u Q I P K h;let(a,z,n,U,U,ha,h0,ar,q):=h;cases P;let(t,U):=K;let(hz,its,m,rv,e):=(I.hok a _ ha);obtain⟨w,rfl,g⟩:∃w,its=[w]/\RelV z w:=by cases rv with|cons h1 h2=>cases h2;exact(_,U,h1)
 have ak:=YW;refine wpAny_binaryOp_repeat_ref ac (_,e,U) (λs'=>typeIs_int s' n t) noFill_list_mul PySem.F.fills_int_mul PySem.F.slot_int_rmul repeat_list PySem.F.slot_int_index.lookup
  (call_meets PySem.F.slot_int_rmul (typeIs_int s n t) PySem.F.entry_int_rmul (PySem.F.args_int_rmul_2 _ _) (int___rmul___int_list n t a _ m)
(e,U,(_,e,U),call_meets PySem.F.slot_list_mul (_,e,U) PySem.F.entry_list_mul (PySem.F.args_list_mul_2 _ _)
(AutoListH.list___mul___list_int_3 a _ m n t (by simp[Builtin.List.listFitsIndex];lia) (by simp;lia) (by simp[Builtin.List.listTooLong];lia))
(e,?_)))
 have e2:((if([w].toArray).isEmpty=O then 0 else n.toNat))=n.toNat:=by rw[if_neg ad]
 rw[LB];refine(.ref s.heap.objs.size,_,I.laid (o:=.lst (rG n.toNat z)) (λb ob q=>gs _ q) (kB _) (by rw[YS];lia,rG n.toNat w,0,?_,kD _ U),U,q _ (I.hok.fresh (kB _)));generalize n.toNat=j;induction j with|zero=>exact .nil|succ j V=>exact .cons g V
def JL:Q2:=λt u Q=>match t,u with|.l [x],.i n=>x.im=O/\0<=n/\n<=16000000/\Q (.l (rG n.toNat x))|_,_=>False
def IG:dD K Jk JL:=by
 intro dl H x y t u F G Q R D r1 r2 hq k;unfold JL at hq;cases t with
 |l xs =>
  cases xs with
  |cons x r0 =>
   cases r0 with
   |nil =>
    cases u with
    |i n =>
     let(hi,h0,V,hq):=hq;let(a,vs,G0,U,U,h1,s1):=r1.r.lst;let(U,U):=r2.r.int;obtain⟨z,rfl,rz⟩:∃z,vs=[z]/\aM K dl H z x []:=by cases s1 with|cons g1 g2=>cases g2;rw[g1.im hi]at g1;exact(_,U,g1)
     refine(a,z,n,U,U,h1,h0,V,λp hp=>?_);have ev:=(Evo.refl D).new (o:=.lst (rG n.toNat z)) hp;have g:aM K dl (upd H p (.lst (rG n.toNat z))) z x []:=rz.d5 (ev.tf D) (λ_ q=>q) λ_ q=>nomatch q;have rr:∀j:Nat,aC K dl (upd H p (.lst (rG n.toNat z))) (rG j z) (rG j x) []:=by intro j;induction j with|zero=>exact .nil|succ j ih=>rw[YK,YK];exact .cons g ih
     exact k _ (.l (rG n.toNat x)) [p] _ ev (.l aA (rr _),λb P=>by rw[fy.mp P];exact D.nd0 hp) (λb P=>by rw[fy.mp P];exact hp) ad hq
    |_=>exact hq.elim
   |cons _ _=>exact hq.elim
  |nil=>exact hq.elim
 |_=>exact hq.elim
def ye(q:QPE X K a ta qa)(g:QPE X K b tb qb):QPF X K (.BinOp a .Mult b pos) (tOp Jk ta tb) (qOp JL qa qb):=l7 Oy IG q g
end
variable{p4:Str}{fd:Ch}
section
variable{K:BT}{x q:Str}{st:EQ}{f:J}
def Xm{P:Δ->Prop}(h:∀a b c d e g,P [a,b,c,d,e,g])(us:Δ)(e:us.length=6):P us:=by
 cases us with
 |nil=>cases e
 |cons a r=>exact VO (P:=λr=>P (a::r)) (h a) r (Nat.succ.inj e)
theorem Fun.b6{p1 p2 p3 p5 p6:Str}(F:Fun K x q st f fd)(hb:∀kV dc pm an cd ct u1 u2 V Q z g,bindArgs (W.fnOf x q (dJ st) (cy st) (ax st) .none kV dc pm an cd ct) ([u1,u2,V,Q,z,g],[])=pure [(p1,u1),(p2,u2),(p3,V),(p4,Q),(p5,z),(p6,g)]:=by intros;rfl):Binds K fd [p1,p2,p3,p4,p5,p6] []:=F.binds λkV dc pm an cd ct us hl=>Xm (P:=λus=>bindArgs _ (us,[])=pure (ZT _ us)) (hb kV dc pm an cd ct) us hl
end
variable{dl:Dl}{H:Hp}
section
variable{K:BT}
def Ro(f:List Key):T:=.t (f.map kT)
def aM.Xp{v:V}(h:aM K dl H v (Ro f) F):∃a,v=.ref a/\H a=Z (.tup (f.map kV)):=by
 let(a,vs,U,h1,h2):=h.tup;have:∀{f:List Key}{vs:Ω}{F:Θ},aC K dl H vs (f.map kT) F->vs=f.map kV:=by
  intro f;induction f with
  |nil=>intro vs F h;cases h;rfl
  |cons k r g =>intro vs F h;cases h with|cons h1 h2 =>rw[g h2];cases k with|inl i=>rw[h1.int.1];rfl|inr x=>rw[h1.str.1];rfl
 rw[this h2]at h1;exact(a,U,h1)
def aC.Lc{fs:List (List Key)}{vs:Ω}{F:Θ}(h:aC K dl H vs (fs.map Ro) F):∃ps:Θ,vs=ps.map V.ref/\ps.length=fs.length/\∀(i:Nat)(a:J)(g:List Key),ps[i]?=Z a->fs[i]?=Z g->H a=Z (.tup (g.map kV)):=by
 induction fs generalizing vs F with
 |nil=>cases h;exact([],U,U,λi a g h=>by simp at h)
 |cons f r P =>
  cases h with
  |cons h1 h2 =>
   let(a,U,Q):=h1.Xp;let(ps,U,hl,hp):=P h2;refine(a::ps,U,by simp[hl],λi b g z q=>?_);cases i with
   |zero=>cases z;cases q;exact Q
   |succ i=>exact hp i b g (z:) (q:)
end
variable{R:Result->ϋ->Prop}{S:J}{z:J}{i1:J}{i2:J}{l1:J}{l2:J}{xs:Array B}{ys:Array B}{n:Nat}
section
variable{prog:Da}{w:Cl}{A:Db}{s:ϋ}{κ:Type}[DecidableEq κ]{knd:KeyKind prog w κ}
theorem HM{TI TO:J}{t1 t2:Bool}{pairs:List (List κ×J×B)}{h₁:Do}(hu:A.units+3<cLine)(hh:A.handled=Y)(D:ZipApart z TI TO i1 i2 l1 l2)(Q:z≠S)(yR:TI≠S)(pU:TO≠S)(ar:i1≠S)(ak:i2≠S)(yP:l1≠S)(yO:l2≠S)
  (en:n=min xs.size ys.size) (hn:n<=mu) (a5:pairs.length=n) (a4:∀(i:Nat) x y,xs[i]?=Z x->ys[i]?=Z y->∃k b,x=.ref b/\pairs[i]?=Z (k,b,y))
  (av:∀q∈pairs,(tupleKind knd).is h₁ q.1 q.2.1/\q.2.1≠S/\q.2.1≠z/\q.2.1≠TO/\q.2.1≠i1/\q.2.1≠i2) (res:B)
  (hR:∀h' tk,(∀b o,b≠S->b≠z->b≠TO->b≠i1->b≠i2->h₁.get? b=Z o->h'.get? b=Z o)->h'.DictOfH (tupleKind knd) S (bU [] pairs)->R (.ok (.ret res)) {s with heap:=h',toks:=tk}):
  ∀(k i:Nat)(h:Do)(tk:Nat),n-i=k->i<=n->ZSt h z TI TO i1 i2 l1 l2 S t1 t2 i->bb h t1 l1 xs->bb h t2 l2 ys->(∀b o,b≠S->b≠z->b≠TO->b≠i1->b≠i2->h₁.get? b=Z o->h.get? b=Z o) ->
   h.DictOfH (tupleKind knd) S (bU [] (pairs.take i))->codeAny (model prog w) A (.builtin "dict.update.loop" ([.ref S,.ref z,rawInt i,res],[])) R {s with heap:=h,toks:=tk}:=by
 have sub:∀{i:Nat}{q:List κ×J×B},q∈bU [] (pairs.take i)->q.2.1≠S/\q.2.1≠z/\q.2.1≠TO/\q.2.1≠i1/\q.2.1≠i2:=λ{i q} h=>by
  obtain⟨y,hy,_⟩|⟨y,hy,e⟩:=qy h
  ·cases hy
  rw[<- e];exact(av y (QH hy)).2
 intro k;induction k with
 |zero =>
  intro i h tk hk hi V P K qG hS;have bh:i=n:=ap;refine HJ PySem.F.bz ?_;refine dN (DJ hh D V P K ?_ λh' he=>?_)
  ·by_cases q:xs.size<=i
   ·exact .inl (Yy q)
   exact .inr (Yy ap)
  refine dN (kA (kA (hR h' tk (λb o b1 b2 b3 b4 b5 e=>he b o b2 b3 b4 b5 (qG b o b1 b2 b3 b4 b5 e)) ?_)));have hS:=hS.at (λo=>he S o Q.symm pU.symm ar.symm ak.symm) λq hq o=>have(_,q2,q3,q4,q5):=sub hq;he _ o q2 q3 q4 q5;rw[bh,<- a5,ox]at hS;exact hS
 |succ k ih =>
  intro i h tk hk hi V P K qG hS;have aP:=YE hk;have hm:=Nat.lt_min.mp (en▸aP);have hx:=Yj hm.1;have hy:=Yj hm.2;let(key,b,aW,ay):=a4 i _ _ hx hy;have XT:S<h.objs.size:=by let(_,_,_,e,_):=hS;exact kz e
  refine HJ PySem.F.bz ?_;refine dN (DI D V XT P K hx hy λh' q9 ht hz g=>?_);have bp:h'.DictOfH (tupleKind knd) S (bU [] (pairs.take i)):=hS.at (λo=>g S o Q.symm pU.symm ar.symm ak.symm) λq hq o=>have(_,q2,q3,q4,q5):=sub hq;g _ o q2 q3 q4 q5;have hq:=av _ (g5 ay);let(a3,q1,q2,q3,q4,q5):=hq;have uL:(tupleKind knd).is h' key b:=ig a3 λo e=>g b o q2 q3 q4 q5 (qG b o q1 q2 q3 q4 q5 e);rw[aW]at ht;refine dN (DF (dN (wpAny_tryCatch ?_)));refine dN (Tz (_,ht,U) ?_);refine dN (wpAny_seqItems ht U (kA ?_));have a6:(bU [] (pairs.take i)).length<=mu:=by have h1:=j9 (pairs.take i) [];rw[qr,Yg]at h1;lia
  refine DF (wpAny_dictSet_heap (hsz:=a6) ?_ uL bp λaQ wj a0=>?_)
  ·rw[Zh F.aN _];exact tupleKind_room_in1 ap
  have e:bU [] (pairs.take (i+1))=storedH (bU [] (pairs.take i)) key b ys[i]:=by rw[p7,ay];exact nF _ _ _
  rw[<- e]at wj;have fr:∀b o,b≠S->h'.get? b=Z o->aQ.get? b=Z o:=λb o hb eb=>(a0.2 b hb).trans eb;refine kA (HI PySem.F.aN _,ih (i+1) aQ _ (by rw[Y6,hk];rfl) aP (q9.keep fr Q yR pU ar ak) ?_ ?_ (λb o b1 b2 b3 b4 b5 eb=>fr b o b1 (g b o b2 b3 b4 b5 (qG b o b1 b2 b3 b4 b5 eb))) wj)
  ·exact P.at λo e=>fr _ o yP (g _ o D.l1z D.l1TO D.l1i1 D.l1i2 e)
  exact K.at λo e=>fr _ o yO (g _ o D.l2z D.l2TO D.l2i1 D.l2i2 e)
end
theorem La{H:Hp}:∀{ps:Θ}{ks:List (List Key)}{ys:Ω}{us:Δ},ps.length=ks.length->(∀(i:Nat)(a:J)(g:List Key),ps[i]?=Z a->ks[i]?=Z g->H a=Z (.tup (g.map kV)))->Vals ys us->KT H (ks.zip ys) (ks.zip (ps.zip us))
 |[],[],_,_,_,_,_=>.nil|[],_::_,_,_,h,_,_=>by cases h
 |_::_,[],_,_,_,_,_=>.nil|p::ps,k::ks,_,_,_,_,.nil=>.nil|p::ps,k::ks,_,_,hl,hp,.cons h r=>.cons (U,hp 0 p k U U,h) (La (hl:) (λi a g z q=>hp (i+1) a g (z:) (q:)) r)
inductive W0(K:BT)(vs:Ω)(H1:Hp)(R:VK):Prop
 |mk(l1 l2:J)(ps:Θ)(ks:List (List Key))(ys:Ω)(h1:vs=[.ref l1,.ref l2])(h2:SqB K ϊ H1 l1 (ps.map V.ref))(h3:SqB K O H1 l2 ys)(h4:ps.length=ks.length)(h5:∀(i:Nat)(a:J)(g:List Key),ps[i]?=Z a->ks[i]?=Z g->H1 a=Z (.tup (g.map kV)))(h6:∀d o,H1 d=Y->R (.ref d) (upd H1 d (.frz o (.dT (cD [] (ks.zip ys))))))
def wG(K:BT)(tl:TA):TE:=λσ H R=>tl σ H λvs H1=>W0 K vs H1 R
section
variable{X:Cx}{a:Ev}{tl:TA}{pos p cq p2:Pos}
theorem Ap(hu:X.A.units+150<cLine)(hg:Gl X "dict")(hm:X.mg "dict"=Y)(cz:Gl X "zip")(b0:X.mg "zip"=Y)(ha:PA X [a,b] tl)(hs:mJ [a,b] X.env=[(ϊ,eval a X.env),(ϊ,eval b X.env)])(aW:AD X b)
  (aQ:mJ [.Call (.Name "zip" p2) [a,b] [] cq] X.env=(ϊ,eval (.Call (.Name "zip" p2) [a,b] [] cq) X.env)::mJ [] X.env) (hc:X.calm=O):
  PE X (.Call (.Name "dict" p) [.Call (.Name "zip" p2) [a,b] [] cq] [] pos) (wG X.K tl):=by
 intro gd s σ H R I h;refine Call_ (eI I hg hm bn (PyProof.Rows.callWith_type1 (T:="dict") ?_ aQ ba));rw[aQ];refine Calls.spliced_cons ?_;refine Call_ (eI I cz b0 bn (PyProof.Rows.callWith_type1 (T:="zip") (thn (ha cq gd s σ H _ I h) λus s1 (vs,H1,V,r1,q1)=>?_) (by rw[hs,aW]) (by rw[aW];rfl)));let(l1,l2,ps,ks,ys,e,q2,q3,Xz,bT,q):=q1;subst e;let(u1,u2,U,bD,bt):=vals2 r1;cases bD;cases bt;let(G9,av,o1,z1):=V.oW (tp:=ϊ) q2;let(fE,ar,o2,z2):=V.oW (tp:=O) q3;let(cV,e1):=o1.obj;let(cR,e2):=o2.obj;have g1:l1<s1.heap.objs.size:=kz e1;have g2:l2<s1.heap.objs.size:=kz e2;have hh:X.A.handled=none:=V.ok.hd hc;refine ji o1 o2 λh1 Q bh a6 a5 a4 hk=>?_;refine Calls.spliced_nil ?_;have nz:s1.heap.objs.size+4<h1.objs.size:=kz Q;have ay:=av.length;have cK:=ar.length;rw[cU]at ay z1;refine callType_codes (s:={s1 with heap:=h1}) (Q₁:=λobj P=>obj=.ref h1.objs.size/\P={s1 with heap:=h1.push {cls:=.type "dict",data:=.dict #[]}}) F.kt_called_dict (F.kt_typeCall_dict_1 _) F.entry_dict_init (kt_code_dict_new _ (U,U)) ?_;rintro obj P ⟨rfl,rfl⟩;have mv:(h1.push {cls:=.type "dict",data:=.dict #[]}).DictOfH (tupleKind (a8 X.prog X.w)) h1.objs.size []:=Heap.DictOfH.new h1;refine(mv.typeIs,F.args_dict_init_2 _ _,?_);unfold Builtin.«dict.__init__»;refine dN ?_;unfold Builtin.Dict.selfAndRest;refine dN (wpAny_notOrdered_dict mv.typeIs ?_);refine kA ?_;show wpAny _ _ (Builtin.Dict.updateFrom "dict.__init__" h1.objs.size (.ref (s1.heap.objs.size+4)) [] .none) _ _ _;unfold Builtin.Dict.updateFrom;have up:∀b o,h1.get? b=Z o->(h1.push {cls:=.type "dict",data:=.dict #[]}).get? b=Z o:=λb o e=>gs _ e;refine dN (Tz (T:="zip") (_,up _ _ Q,U) ?_);rw[if_pos ac];refine dN (wc (up _ _ Q) hh λh2 ak k2=>?_);refine dN (UU ?_);refine dN (wpAny_pyIter_zip (s:={s1 with heap:=h2,toks:=ak}) (k2 _ _ (up _ _ Q)) ?_);have g:=λb o e=>k2 b o (up b o e);let(cQ,cE,_):=a5.obj;let(cP,cA,_):=a4.obj;have ne:∀{b:J}{o:Obj},h1.get? b=Z o->b≠h1.objs.size:=λe=>rl (kz e);have kt:KT H1 (ks.zip ys) (ks.zip (ps.zip fE)):=La Xz bT ar;have old:∀(b:J)(o:Obj),s1.heap.get? b=Z o->b≠h1.objs.size/\b≠s1.heap.objs.size+4/\b≠s1.heap.objs.size+3/\b≠s1.heap.objs.size/\b≠s1.heap.objs.size+1:=λb o e=>by
  have lt:@LT.lt Nat _ b s1.heap.objs.size:=kz e;have ne':∀m:Nat,s1.heap.objs.size<=m->b≠m:=λm hm z=>absurd (z▸lt:m<s1.heap.objs.size) ap;exact(ne (hk _ _ e),ne' _ ap,ne' _ ap,ne' _ (kB _),ne' _ ap)
 refine kA (HI F.aN _,HM (A:=X.A.in1) (s:=s1) (knd:=a8 X.prog X.w) (h₁:=h2) (t1:=ϊ) (t2:=O) (xs:=G9.toArray) (ys:=fE.toArray) (pairs:=ks.zip (ps.zip fE)) (by show X.A.units+1+3<_;lia) hh (jG g1 g2) (ne Q) (ne bh) (ne a6) (ne cE) (ne cA) (ne (hk _ _ e1)) (ne (hk _ _ e2)) U ?_ ?_ (λi x y hx hy=>?_) (λq hq=>?_) .none (λh' bp ct hd=>?_) _ 0 h2 ak U (zt _) (g _ _ bh,a5.at λo e=>g _ o e,a4.at λo e=>g _ o e,.inl (g _ _ Q,.none,.none,g _ _ a6)) (o1.at λo e=>g _ o (hk _ o e)) (o2.at λo e=>g _ o (hk _ o e)) (λ_ _ _ _ _ _ _ e=>e) ?_)
 ·rw[qg,qg];lia
 ·rw[QX,QX,qg,qg];lia
 ·rw[YT]at hx hy;have a3:i<ps.length:=by rw[ay];exact(jm.mp hx).1
  let(u,aP,ru):=av.get (i:=i) (x:=.ref ps[i]) (by rw[fN,dQ a3];rfl);rw[hx]at aP;cases aP;cases ru;have XM:i<ks.length:=ap;exact(ks[i],ps[i],U,Fq.mpr (dQ XM,Fq.mpr (dQ a3,hy)))
 ·have hb:=kt.keys q hq;have a0:(tupleKind (a8 X.prog X.w)).is s1.heap q.1 q.2.1:=ke V.hok hb;let(oz,iz,mz,eo,_):=id a0;exact(ig a0 λo e=>g _ o (hk _ o e),old _ _ eo)
 ·have fr:∀b u,s1.heap.get? b=Z u->h'.get? b=Z u:=λb u e=>by
   let(n1,n2,n3,n4,n5):=old b u e;exact ct b u n1 n2 n3 n4 n5 (g b u (hk b u e))
  have fresh:s1.heap.objs.size<=h1.objs.size:=ap;have hf:=V.hok.fresh fresh;have I2:=V.laid (t':=bp) (h':=h') (a:=h1.objs.size) (o:=.dT (cD [] (ks.zip ys))) fr fresh (by
   let(q',es,ep,hq,w2,w3,w4,_,w5):=hd;refine(?_,?_,_,KT.keeps (KT.merge kt .nil) λc ys ec=>by rw[au (λz=>by rw[z,hf]at ec;cases ec)];exact ec,q',es,ep,hq,w2,w3,w4,w5)
   ·have:=gn (ks.zip ys) [];rw[QX,Yg]at this;lia
   have:=V.big;exact beq_eq_false_iff_ne.mpr (D7 (ui this fresh)))
  let(o,I3):=I2.ET aA;rw[fQ]at I3;exact(U,.ref h1.objs.size,_,I3,U,q _ o hf)
 exact mv.at (λo e=>k2 _ _ e) λz Q=>nomatch Q
end
section
variable{X:Cx}{K:BT}{a:Ev}{tl:TA}{ql:QA}{pos p cq p2:Pos}
inductive DZT(xs ys:ϓ)(Q:T->Prop):Prop
 |mk(ks:List (List Key))(ns:Ψ)(h1:xs=ks.map Ro)(h2:ys=ns.map .i)(h3:Q (.fz (.dT (cD [] (ks.zip (ns.map .int))))))
def Gr(ql:QA):QE:=λq Q=>ql q λts=>on2 ts λt u=>match t with
 |.l xs=>match u with|.t ys=>DZT xs ys Q|_=>False
 |_=>False
def aC.ints1{vs:Ω}{F:Θ}(h:aC K dl H vs (ns.map .i) F):vs=ns.map V.int:=by
 induction ns generalizing vs F with
 |nil=>cases h;rfl
 |cons n r g =>cases h with|cons h1 h2=>rw[h1.int.1,g h2];rfl
def z8(hu:X.A.units+150<cLine)(hg:Gl X "dict")(hm:X.mg "dict"=Y)(ar:Gl X "zip")(ak:X.mg "zip"=Y)(ha:QPA X K [a,b] tl ql)(hK:‹X.K=K›)(hs:‹mJ [a,b] X.env=[(ϊ,eval a X.env),(ϊ,eval b X.env)]›)(V:‹AD X b›)
  (P:‹mJ [.Call (.Name "zip" p2) [a,b] [] cq] X.env=(ϊ,eval (.Call (.Name "zip" p2) [a,b] [] cq) X.env)::mJ [] X.env›) (hc:‹X.calm=true›):
  QPF X K (.Call (.Name "dict" p) [.Call (.Name "zip" p2) [a,b] [] cq] [] pos) (wG K tl) (Gr ql):=(by subst hK;exact Ap hu hg hm ar ak ha.h hs V P hc,λdl H σ q Q R rd hq k=>ha.s dl H σ q _ _ rd hq λvs ts F H1 e1 r1 l1 g=>by
 replace g:=on2.inv g;let(t,u,U,g):=g;split at g
 ·cases u with
  |t _ =>
   let(ks,ns,U,U,hq):=g;cases r1.r with
   |cons h1 r=>cases r with
    |cons h2 r2 =>
     cases r2;let(l,vs,G1,U,U,a1,a2):=h1.lst;let(l2,ws,U,b1,b2):=h2.tup;let(ps,U,hl,hp):=a2.Lc;obtain rfl:=b2.ints1;exact(l,l2,ps,ks,_,U,SqL.of a1,SqT.of b1,hl,hp,λd o hd=>(k _ _ [] _ ((e1.new hd)) (.fz aA,cc) cc lu hq))
  |_=>exact g.elim
 exact g.elim)
end
section
variable{X:Cx}{K:BT}{e:Ev}{te:TE}{qe:QE}
inductive WQ(v:V)(H1:Hp)(Q:VK):Prop
 |no(h1:v=.non)(h2:Q v H1)|li(a:J)(xs:Ω)(h1:v=.ref a)(h2:H1 a=Z (.lst xs))(h3:∀o,Q v (upd H1 a (.frz o (.lst xs))))
def Io(te:TE):TE:=λσ H Q=>te σ H λv H1=>WQ v H1 Q
def Kj(he:PE X e te):PE X e (Io te):=by left;refine thn (he gd s σ H _ I h) λu s' g=>?_;let(v,H',K,r,z):=g;cases z with|no h1 h2=>exact(v,H',K,r,h2)|li a xs e1 P q =>let(o,V):=K.yV P;exact(v,_,V,r,q o)
def R7(qe:QE):QE:=λq Q=>qe q λt=>match t with|.l ts=>T.me ts=O/\Q (.zl ts)|.n=>Q .n|_=>False
def t6(he:QPF X K e te qe):QPF X K e (Io te) (R7 qe):=(Kj he.h,λdl H σ q Q R rd hq k=>he.s dl H σ q _ _ rd hq λv t F H1 V P f1 n1 g=>by
 cases t with
 |l ts =>
  let(p,vs,G,U,U,h1,h2):=P.r.lst;obtain rfl:=h2.J9 g.1;refine .li p vs U h1 λo=>?_;have e2:=V.fresh (o:=.frz o (.lst vs)) (f1 p j0) (P.n p j0);have ne:∀{a:J}{u:HO},H1 a=Z u->(∀xs,u ≠ .lst xs)->a≠p:=λh n z=>by rw[z,h1]at h;exact n _ (Option.some.inj h).symm
  have ts:=h2.plain (H':=upd H1 p (.frz o (.lst vs))) (λa us h=>by rw[au (ne h nofun)];exact h) (λa o u h=>by rw[au (ne h nofun)];exact h) g.1;exact k _ (.zl _) [] _ e2 (.zl aA ts,cc) cc lu g.2
 |n =>let(U,U):=P.r.non;exact .no U (k _ .n [] _ V P cc lu g)
 |_=>exact g.elim)
def WL(v:V)(H:Hp)(k:Bool):Prop:=∃(a:J)(o:Obj)(kvs:ϐ),v=.ref a/\H a=Z (.frz o (.dK kvs))/\k = !kvs.isEmpty
def NT(P:PE X e te)(he:∀whole,isTrue e X.env whole=(do let v <- whole;standAt e.pos;holding [v] (truthy v))):PT X e (λσ H Q=>te σ H λx H'=>∃k,WL x H' k/\Q k H'):=by left;refine isTrue_plain (thn (P gd s σ H _ I h) λv s1 (x,H1,g,K,k,(a,o,kvs,e1,h1,V),q)=>?_) (he _);subst e1 V;cases K;let(z,hd,vs,r,m):=gU g.hok (.inr (o,h1));have hlen:=Paired.length r;exact wpAny_truthy_dict hd m (by rw[<- hlen];exact w6 z) (H1,g.tok _,by rw[uF r];exact q)
def Vd(qe:QE):QT:=λq Q=>qe q λt=>match t with|.fd _ _ xs=>Q (!xs.isEmpty)|_=>False
def NA(h:QPE X K e te qe)(he:∀whole,isTrue e X.env whole=(do let v <- whole;standAt e.pos;holding [v] (truthy v)):=by intro _;rfl):
  QPT X K e (λσ H Q=>te σ H λx H'=>∃k,WL x H' k/\Q k H') (Vd qe):=(NT h.h he,λdl H σ q Q R rd hq k=>h.s dl H σ q _ _ rd hq λv t F H' e r g=>by
 split at g
 ·let(p,U,U,h1,h2):=r.r.rj;have hl:=h2.len;exact(_,(_,_,_,U,h1,U),k _ H' e (by
   rename_i vs xs;have:(!vs.isEmpty) = !xs.isEmpty:=by cases vs <;> cases xs <;> first|rfl|(simp at hl)
   rw[this];exact g))
 exact g.elim)
def yi:QC:=λts Q=>on1 ts λt=>match t with|.zl xs=>T.ims xs=O/\Q (.t xs)|_=>False
def sY:mG K (λxs H Q=>∃p ys,xs=[.ref p]/\((SqL K H p ys/\∀l,H l=Y->Q (.ref l) (upd H l (.tup ys)))\/(SqT K H p ys/\Q (.ref p) H))) yi:=by intro dl H vs ts F Q R D r hq k;replace hq:=on1.inv hq;let(t,U,hq):=hq;cases t with|zl xs =>let(v,U,g):=r.one;let(p,o,vs,U,U,h1,h2):=g.r.zls;refine(p,vs,U,.inl (.inl (.inr (o,h1)),λl hl=>?_));have rs:Rps K dl H vs _ []:=(h2,λc q=>nomatch q);exact k _ _ _ _ ((Evo.refl D).new hl) (rs.tup D hl) cc lu hq.2|_=>exact hq.elim
end
variable{a:J}{elts:List Ev}{pos':Pos}
section
variable{X:Cx}{K:BT}
def Lg{xs:ϓ}:rE K dl (Ite K ϊ a) (gx xs) [(.ref a,.zl xs)] where
 go:=λH i D h hi=>by
  let(F,r):=h (.ref a,.zl xs) ad;let(p,o,vs,e,_,h1,h2):=r.r.zls;cases e;rw[aU]at hi;have l1:i<vs.length:=by rw[h2.len];omega
  exact(vs,vs[i],.inl (.inr (o,h1)),by simp[l1])
 yld:=λH i x fp v H' D h hx y=>by
  have r:=h (.ref a,.zl xs) ad;let(p,o,vs,e,eF,h1,h2):=r.r.zls;cases e;let(x1,V,U):=bM hx;let(w1,G1,ak,Q,ar):=h2.get V;let(q,u1,hq,U,U,P):=y;have e1:=P vs (.inl (.inr (o,h1)));rw[ak]at e1;cases e1;have sub:∀b∈G1,b∈fp (.ref a,.zl xs):=λb g=>nomatch ar b g;have rs:Rps K dl H [.int (i),w1] [.i (i),x1] ([]++(G1++[])):=Rps.cons (.i _,nofun) (Rps.cons (Q,λb g=>r.n b (sub b g)) (.nil,nofun));refine((Evo.refl D).new hq,_,rs.tup D hq,λc g=>.inr ?_);rw[qp]at g;exact(_,ad,sub c g)
 stop:=λH D h=>by
  let(F,r):=h (.ref a,.zl xs) ad;let(p,o,vs,e,_,h1,h2):=r.r.zls;cases e;exact(vs,.inl (.inr (o,h1)),by rw[aU,h2.len];exact kB _)
def L9(i:Nat):QJ:=λq Q=>match q[i]? with|some (.r (.zl xs))=>Q (gx xs) q|_=>False
def Gn{a:Ev}{x1}{pos p:Pos}{i:Nat}(hg:Gl X "enumerate")(hm:X.mg "enumerate"=Y)(eQ:bootBuiltins "enumerate"=Z (.type "enumerate"))(h:PE X a (cp i))(hs:‹AD X a›)(V:‹AC X a []›)(hK:‹X.K=K›):
  QPJ X K (.Tuple elts x1 pos') (.Call (.Name "enumerate" p) [a] [] pos) (qF K ϊ (dy (cp i) iP)) (L9 i):=(iy hK hg hm eQ (cn h eB V) hs,λdl be hs H σ q Q R (F0,P) hq k=>by
 unfold L9 at hq;split at hq
 ·rename_i xs e1;let(v,hv,r):=P.g i _ _ e1 U;have r1:=P.hold r λj u hj b hb=>(P.o j u hj).2.2 i (λz=>by subst z;rw[e1]at hj;cases hj) b hb;let(p,o,vs,U,_,h1,h2):=r.r.zls;exact(_,hv,p,U,(vs,.inl (.inr (o,h1))),k _ _ _ H _ (F0,r1) Lg hq)
 exact hq.elim)
end
variable{tg:Ev}{iter:Ev}{elt:Ev}{ifs:List Ev}{sc:Scope}{N':Γ}{cap:List (Option Nat)}{iq:QI}{g:Tg}{tst:TT}{kZ:QT}
section
variable{X:Cx}{K:BT}{st:EQ}{t:TS}{te:TE}{qe:QE}
def Ip(t:TS):TS:=λD σ H=>t {D with nx:=λg H'=>∃a xs,H' a=Z (.lst xs)/\∀o,D.nx g (upd H' a (.frz o (.lst xs)))} σ H
def NU(h:PS X st t):PS X st (Ip t):=λgd s σ H D I z=>thn (h gd s σ H _ I z) λf s' q=>by
 cases f with|next =>let(g,H',P,a,xs,h1,k):=q;let(o,K):=P.yV h1;exact(g,_,K,k o)|_=>exact q
def ID{i:Nat}(he:lr K te qe):lj K (Ip (iQ te (fP i))) (iw i (JO qe)):=λdl be hs H σ q Dq D (F,r) hq E=>he dl H σ q _ _ r.rd hq λv t F' H1 V P f1 n1 g=>by
 split at g
 ·let(p,vs,G,U,U,h1,h2):=P.r.lst;obtain rfl:=h2.J9 g.1;refine(p,vs,h1,λo=>?_);have Q:=V.fresh (o:=.frz o (.lst vs)) (f1 p j0) (P.n p j0);have ne:∀{a:J}{u:HO},H1 a=Z u->(∀xs,u ≠ .lst xs)->a≠p:=λh n z=>by rw[z,h1]at h;exact n _ (Option.some.inj h).symm
  have ts:=h2.plain (H':=upd H1 p (.frz o (.lst vs))) (λa us h=>by rw[au (ne h nofun)];exact h) (λa o u h=>by rw[au (ne h nofun)];exact h) g.1;exact E.nx _ _ _ (r.Gs Q (.zl aA ts,nofun) nofun lu) g.2
 exact g.elim
def Jv{i:Nat}{y:Str}{pos d6 py:Pos}{wi:TI}(hN:X.N.Nodup)(z:X.N[i]?=Z y)(hy:Loc X.env.scope y)
  (hc:X.calm=O) (hi:QPI X K tg iter wi iq) (V:mO X sc N' cap) (Q:QB X K N' sc tg g ifs tst kZ elt te qe)
  (P:‹(g.ixs.all λi=>cap[i]? == Z Y)=true›)
  (q:‹swapsWith (.ListComp elt [(tg,iter,ifs,0)] sc pos) (Z (.Name y py)) d6.line X.env=pure true›)
  (hf:AT X y:=by first|exact .inl rfl|exact .inr rfl|assumption)
  (gv:‹sc.kind=.function›) (fF:autoParam (∀y∈sc.names,y.2 ≠ .cell) zdc._auto_1) (gu:autoParam (∀y∈sc.names,y.2=.local->sc.names.lookup y.1=Z .local) zdc._auto_1)
  (gN:‹(sc.names.all λy=>y.2 != .free ||(X.env.kindOf y.1==Z .cell||X.env.kindOf y.1==Z .free))=true›)
  (hs:∀x,foldedSetIterable iter X.env x=pure x:=by intro _;rfl):QPS X K (.Assign [.Name y py] (.ListComp elt [(tg,iter,ifs,0)] sc pos) d6) (Ip (iQ (sU cap wi (g.h K) tst te) (fP i))) (iw i (JO (Ad cap iq g kZ qe))):=
 (NU (ym hN z hy hc hi.h V Q.b q hf gv fF gu gN hs),ID (tD hi.s Q.t Q.e P))
end
end L2
namespace K73
open PySem L2
open L2.T renaming ims→ϙ,s→Ϛ,i→ϛ,t→Ϝ,imk→ϝ,dof→Ϟ
abbrev We:Str:="_law_deal_here"
abbrev Wp:Str:="piece"
abbrev WF:Str:="_law_room"
abbrev WP:Str:="_law_f"
abbrev W1:Str:="_law_scope"
abbrev Th:Str:="_law_numbers"
abbrev Tk:Str:="value"
abbrev Tl:Str:="_law_kind"
abbrev Tm:Str:="_law_parts"
abbrev Tu:Str:="_law_other"
abbrev Ty:Str:="_law_one"
abbrev TD:Str:="_law_lines"
abbrev TW:Str:="_law_world"
abbrev TZ:Str:="_law_kinds_here"
abbrev T0:Str:="_law_many"
abbrev Sa:Str:="_law_turns"
abbrev Su:Str:="_law_words_here"
abbrev SB:Str:="_law_program_here"
abbrev SC:Str:="_law_sizes_here"
abbrev SL:Str:="_law_script"
abbrev ST:Str:="_law_u"
abbrev SZ:Str:="_law_v"
abbrev Re:Str:="_law_most"
abbrev Rs:Str:="_law_some"
abbrev Q4:Str:="_law_field"
abbrev Pi:Str:="_law_found"
abbrev Ps:Str:="_law_k"
abbrev PM:Str:="_law_fields"
abbrev PP:Str:="_law_cell"
abbrev P3:Str:="_law_at"
abbrev Of:Str:="_law_own"
abbrev On:Str:="_law_maker"
abbrev Op:Str:="_law_body_here"
abbrev Os:Str:="_law_base"
abbrev OF:Str:="_law_turn"
abbrev OK:Str:="_law_makers"
abbrev No:Str:="_law_heads"
abbrev NE:Str:="_law_name"
def tgT:L2.T->Nat
 |.t [_,_]=>0|.t [_,.i _,_]=>1|.t [_,_,_]=>2|.t [_,_,_,_]=>3|.t [.s w,_,_,_,_]=>if w="make" then 4 else 5|_=>6
def top(i:Nat):EQ:=PySem.Challenge.pw_pursewright_k73_whole_between_two_papers.main.body.getD i (.Pass (0,0,0,0))
abbrev fns:Γ:=[]
abbrev tE:EQ:=inClass (top 2) 0
abbrev iR:EQ:=inClass (top 11) 0
theorem xN:aH ["self",Wp,"above","arm"] ["self",Wp,"above","arm"] (ax iR):=by symm
abbrev g6:EQ:=inClass (top 18) 0
theorem vP:aH ["self","f","free","spent","kinds","holdings"] ["self","f","free","spent","kinds","holdings"] (ax g6):=by symm
abbrev jQ:EQ:=top 4
theorem iU:aH ["kinds","kind","name","makers"] ["kinds","kind"] (ax jQ):=by symm
abbrev tN:EQ:=top 5
theorem il:aH ["kinds","kind","reached","names","name","makers"] ["kinds","kind"] (ax tN):=by symm
abbrev fK:EQ:=top 6
theorem cj:aH ["kinds","kind","reached","waiting","here","maker","field"] ["kinds","kind"] (ax fK):=by symm
abbrev fL:EQ:=top 7
theorem fc:aH ["kinds","maker","name","makers"] ["kinds","maker"] (ax fL):=by symm
abbrev jP:EQ:=top 9
theorem iT:aH ["functions","name","number","function"] ["functions","name"] (ax jP):=by symm
abbrev xT:EQ:=top 12
theorem mY:aH ["body","told","waiting","spot"] ["body"] (ax xT):=by symm
abbrev fJ:EQ:=top 13
theorem oX:aH [Wp,"number"] [Wp,"number"] (ax fJ):=by symm
abbrev tS:EQ:=top 14
theorem Gd:aH ["body"] ["body"] (ax tS):=by symm
abbrev g8:EQ:=top 15
theorem de:aH ["program","f","told","found","spot","kinds"] ["program","f"] (ax g8):=by symm
abbrev lX:EQ:=top 16
theorem jL:aH ["program",Wp,"arm","kinds","word","fields"] ["program",Wp,"arm","kinds"] (ax lX):=by symm
abbrev tQ:EQ:=top 19
theorem f9:aH ["program","f","told","found","spot",Wp,"met"] ["program","f"] (ax tQ):=by symm
abbrev fe:EQ:=top 20
theorem d7:aH ["program","f","params","holdings"] ["program","f"] (ax fe):=by symm
abbrev iX:EQ:=top 21
theorem dz:aH ["program","n",Wp,"stand","holdings","name","family","free"] ["program","n",Wp,"stand"] (ax iX):=by symm
abbrev gg:EQ:=top 22
theorem bf:aH ["program","n",Wp,"arm","stand","family","free","g","kinds","holdings","name","kind"] ["program","n",Wp,"arm","stand"] (ax gg):=by symm
abbrev Cg:EQ:=top 23
theorem xJ:aH ["program","f","n",Wp,"word","g"] ["program","f","n",Wp] (ax Cg):=by symm
abbrev iW:EQ:=top 24
theorem vO:aH ["program","f","n",Wp] ["program","f","n",Wp] (ax iW):=by symm
abbrev lV:EQ:=top 25
theorem zS:aH [Wp] [Wp] (ax lV):=by symm
abbrev lU:EQ:=top 28
theorem dU:aH ["program","told","f","function","k","param"] ["program"] (ax lU):=by symm
abbrev g7:EQ:=top 29
theorem tJ:aH ["program","family","kind"] ["program","family","kind"] (ax g7):=by symm
abbrev fg:EQ:=top 30
theorem b8:aH ["program","f","told","ahead","n",Wp,"family"] ["program","f"] (ax fg):=by symm
abbrev Ci:EQ:=top 31
theorem fS:aH ["program","places","told","f","function","body","n","stand","done"] ["program"] (ax Ci):=by symm
abbrev lT:EQ:=top 32
theorem dS:aH ["program","n","places","stand","told","name","kind","maker","pairs"] ["program","n","places","stand"] (ax lT):=by symm
abbrev tO:EQ:=top 33
theorem kN:aH ["places","pairs","weights","unknown","times"] ["places","pairs"] (ax tO):=by symm
abbrev jR:EQ:=top 35
theorem fT:aH [Tk,"makers","waiting","thing"] [Tk] (ax jR):=by symm
abbrev tV:EQ:=top 36
theorem oY:aH [Tk,"often","maker"] [Tk] (ax tV):=by symm
abbrev pe:EQ:=top 38
theorem gf:aH ["program","paper","parts","numbers","number","row"] ["program","paper"] (ax pe):=by symm
abbrev Cr:EQ:=top 39
theorem Nm:aH ["program","paper","f","args"] ["program","paper","f","args"] (ax Cr):=by symm
abbrev xY:EQ:=top 40
theorem jM:aH ["program","prices","f","args","total","k","param"] ["program","prices","f","args"] (ax xY):=by symm
abbrev xR:EQ:=top 41
theorem tL:aH ["program","paper","f",Tk,"prices","weights"] ["program","paper","f",Tk] (ax xR):=by symm
abbrev jO:EQ:=top 42
theorem xK:aH ["program","paper"] ["program","paper"] (ax jO):=by symm
abbrev iV:EQ:=top 43
theorem ft:aH ["program","prices","kind","holding","weights","maker","total"] ["program","prices","kind","holding"] (ax iV):=by symm
abbrev jN:EQ:=top 44
theorem mX:aH ["weights",Tk,"often"] ["weights",Tk] (ax jN):=by symm
abbrev Cn:EQ:=top 46
theorem mZ:aH [SL,Os,"_law_cells","_law_number",PP] [SL,Os] (ax Cn):=by symm
abbrev Cm:EQ:=top 47
theorem rN:aH [We,T0,"_law_number",Ty,Tu] [We,T0] (ax Cm):=by symm
abbrev xP:EQ:=top 48
theorem cw:aH [We,T0,"_law_letters","_law_core",P3,OF,Pi,Ps,Of,"_law_word","_law_near"] [We,T0] (ax xP):=by symm
abbrev xW:EQ:=top 49
theorem cG:aH [We,Su,"_law_form","_law_a","_law_b","_law_m",Pi,T0,"_law_made",Ps,OK,"_law_j","_law_wide",PM] [We,Su] (ax xW):=by symm
abbrev Ck:EQ:=top 50
theorem rM:aH [We,W1,Rs,Pi,Tl,Of] [We,W1,Rs] (ax Ck):=by symm
abbrev xX:EQ:=top 51
theorem dB:aH [We,TW,W1,Tl,WP,TZ,No,Su,Of,"_law_x",On,PM,"_law_names"] [We,TW,W1,Tl,WP] (ax xX):=by symm
abbrev Cp:EQ:=top 52
theorem dE:aH [We,TW,W1,WP,WF,TZ,No,Su,"_law_x",Tl,OK,"_law_arms",On,PM,"_law_more","_law_names"] [We,TW,W1,WP,WF] (ax Cp):=by symm
abbrev Cq:EQ:=top 53
theorem cm:aH [We,TW,W1,WP,WF,TZ,No,Su,Tl,"_law_form","_law_x","_law_coins","_law_word","_law_y",Tu,"_law_g","_law_names",NE,OK,On,PM] [We,TW,W1,WP,WF] (ax Cq):=by symm
abbrev oZ:EQ:=top 54
theorem b9:aH [We,Re,WF,Su,TZ,No,Of,WP,T0,"_law_params","_law_functions","_law_head",Op] [We,Re,WF] (ax oZ):=by symm
abbrev xO:EQ:=top 55
theorem tI:aH [TD,Tm,Th,"_law_place","_law_line"] [TD,Tm,Th] (ax xO):=by symm
abbrev tT:EQ:=top 56
theorem cS:aH [We,TD,Tm,Th,Sa,OF,"_law_place","_law_why","_law_weights","_law_low",Rs,P3,"_law_lack"] [We,TD,Tm,Th,Sa] (ax tT):=by symm
abbrev gh:EQ:=top 57
theorem fI:aH [Op,"_law_arms","_law_word"] [Op] (ax gh):=by symm
abbrev tR:EQ:=top 58
theorem gb:aH [We,TD,Tm,Th,Sa,OF,Tu,P3] [We,TD,Tm,Th,Sa] (ax tR):=by symm
abbrev pb:EQ:=top 59
theorem ck:aH [We,Re,WF,Sa,SB,TD,T0,Tm,Th,"_law_functions"] [We,Re,WF,Sa] (ax pb):=by symm
abbrev xU:EQ:=top 60
theorem fD:aH [TZ,Pi,OF,Tl,OK,On,PM,"_law_great"] [TZ] (ax xU):=by symm
abbrev xQ:EQ:=top 61
theorem cx:aH [We,TZ,SC,Tl,WF,Rs,On,PM,"_law_great","_law_left",Tm,Ps,Q4,Of] [We,TZ,SC,Tl,WF] (ax xQ):=by symm
abbrev Cs:EQ:=top 62
theorem xM:aH [We,SB,WP,WF,SC,Rs] [We,SB,WP,WF] (ax Cs):=by symm
abbrev IV:EQ:=top 63
theorem IU:aH [Ty,Tu,ST,SZ,Th] [Ty,Tu,ST,SZ] (ax IV):=by symm
abbrev xV:EQ:=top 64
theorem dA:aH [We,SB,Ty,Tu,ST,SZ,"_law_both",SC,WP,"_law_function","_law_args_here","_law_due","_law_value_here"] [We,SB,Ty,Tu,ST,SZ] (ax xV):=by symm
abbrev qj:EQ:=top 65
theorem fH:aH [SL,We,SB,TD,Ty,Tm,Th,Tu,ST,SZ] [SL] (ax qj):=by symm
set_option genInjectivity false in
structure Adr where
 bD:J
 cJ:J
 dr:J
 uV:Ch
 aW:J
 dW:J
 kn:Ch
 aP:J
 dv:J
 jh:Ch
 gS:J
 qK:Ch
 nO:J
 Be:Ch
 dH:J
 ju:Ch
 dI:J
 jv:Ch
 gR:J
 qJ:Ch
 so:J
 Fb:Ch
 dG:J
 jt:Ch
 nT:J
 Bi:Ch
 fB:J
 lJ:Ch
 jg:J
 u7:Ch
 nQ:J
 Bg:Ch
 dt:J
 iE:Ch
 fY:J
 n6:Ch
 eR:J
 kl:Ch
 yZ:J
 LJ:Ch
 fX:J
 nZ:Ch
 jf:J
 uZ:Ch
 je:J
 uY:Ch
 fA:J
 lH:Ch
 du:J
 iF:Ch
 y0:J
 LL:Ch
 jd:J
 uX:Ch
 nP:J
 Bf:Ch
 gT:J
 qL:Ch
 nV:J
 Bk:Ch
 kX:J
 xg:Ch
 y8:J
 LQ:Ch
 sC:J
 Fg:Ch
 sj:J
 E9:Ch
 gQ:J
 qI:Ch
 fW:J
 nY:Ch
 gP:J
 qH:Ch
 y4:J
 LO:Ch
 y3:J
 LN:Ch
 sg:J
 E7:Ch
 sy:J
 Fe:Ch
 y2:J
 LM:Ch
 sA:J
 Ff:Ch
 y7:J
 LP:Ch
 uS:J
 Dp:Ch
 kU:J
 xb:Ch
 sf:J
 E6:Ch
 nU:J
 Bj:Ch
 eT:J
 km:Ch
 nR:J
 Bh:Ch
 kW:J
 xf:Ch
 sr:J
 Fc:Ch
 si:J
 E8:Ch
 y9:J
 LR:Ch
 E1:J
 QQ:Ch
 sx:J
 Fd:Ch
 xa:J
 QR:Ch
 iH:J
structure Txt(K:BT)(mg:Υ)(a:Adr):Prop where
 MK:Up K fns a.bD (bmV) Y
 MB:mg "PurseError"=Z (.ref a.bD)
 MD:W.keepIn K (.ref a.bD)=O
 UB:Up K fns a.cJ (.ref a.bD::bmV) (Z a.dr)
 SV:mg "NoPaper"=Z (.ref a.cJ)
 Tf:W.keepIn K (.ref a.cJ)=O
 mK:Fun K "__init__" "NoPaper.__init__" tE a.dr a.uV
 T1:W.isFn K (.ref a.dr)=O
 T8:Binds K a.uV ["self","row"] []
 cA:Cls K a.aW
 yB:mg "Spot"=Z (.ref a.aW)
 yD:Mk K a.aW a.dW
 dC:cf K a.aW "piece"
 bT:cf K a.aW "above"
 j8:cf K a.aW "arm"
 gZ:Fun K "__init__" "Spot.__init__" iR a.dW a.kn
 OR:Meth K a.aW "__init__" a.dW
 kq:Binds K a.kn ["self",Wp,"above","arm"] []
 bp:Cls K a.aP
 ur:mg "Stand"=Z (.ref a.aP)
 uu:Mk K a.aP a.dv
 dP:cf K a.aP "f"
 fu:cf K a.aP "free"
 eC:cf K a.aP "spent"
 df:cf K a.aP "kinds"
 cX:cf K a.aP "holdings"
 f6:Fun K "__init__" "Stand.__init__" g6 a.dv a.jh
 MC:Meth K a.aP "__init__" a.dv
 jk:Binds K a.jh ["self","f","free","spent","kinds","holdings"] []
 nd:[a.bD,a.cJ].Nodup
 kK:Dn K mg "makers_of" jQ a.gS a.qK ["kinds","kind"]
 oE:Dn K mg "within" tN a.nO a.Be ["kinds","kind"]
 jA:Dn K mg "reached_kinds" fK a.dH a.ju ["kinds","kind"]
 fO:Dn K mg "kind_of_maker" fL a.dI a.jv ["kinds","maker"]
 fG:Dn K mg "number_of" jP a.gR a.qJ ["functions","name"]
 sI:Dn K mg "spots" xT a.so a.Fb ["body"]
 jz:Dn K mg "spots_beneath" fJ a.dG a.jt [Wp,"number"]
 vG:Dn K mg "pieces" tS a.nT a.Bi ["body"]
 lN:Dn K mg "kinds_ahead" g8 a.fB a.lJ ["program","f"]
 mL:Dn K mg "bound_by" lX a.jg a.u7 ["program",Wp,"arm","kinds"]
 BK:Dn K mg "stands" tQ a.nQ a.Bg ["program","f"]
 iL:Dn K mg "stand_at_begin" fe a.dt a.iE ["program","f"]
 jr:Dn K mg "stand_with" iX a.fY a.n6 ["program","n",Wp,"stand"]
 kI:Dn K mg "stand_behind" gg a.eR a.kl ["program","n",Wp,"arm","stand"]
 Mw:Dn K mg "uses" Cg a.yZ a.LJ ["program","f","n",Wp]
 oF:Dn K mg "taken_free" iW a.fX a.nZ ["program","f","n",Wp]
 vE:Dn K mg "spent_by" lV a.jf a.uZ [Wp]
 gC:Dn K mg "unknowns" lU a.je a.uY ["program"]
 cV:Dn K mg "unknowns_of" g7 a.fA a.lH ["program","family","kind"]
 iM:Dn K mg "piece_unknowns" fg a.du a.iF ["program","f"]
 zx:Dn K mg "rows" Ci a.y0 a.LL ["program"]
 vC:Dn K mg "use_rows" lT a.jd a.uX ["program","n","places","stand"]
 vD:Dn K mg "summed" tO a.nP a.Bf ["places","pairs"]
 qS:Dn K mg "makers_in" jR a.gT a.qL [Tk]
 BL:Dn K mg "counts" tV a.nV a.Bk [Tk]
 xw:Dn K mg "checked" pe a.kX a.xg ["program","paper"]
 zB:Dn K mg "asks" Cr a.y8 a.LQ ["program","paper","f","args"]
 FL:Dn K mg "asked" xY a.sC a.Fg ["program","prices","f","args"]
 sH:Dn K mg "tells" xR a.sj a.E9 ["program","paper","f",Tk]
 kJ:Dn K mg "prices_of" jO a.gQ a.qI ["program","paper"]
 jq:Dn K mg "weights_by" iV a.fW a.nY ["program","prices","kind","holding"]
 kH:Dn K mg "weight_of" jN a.gP a.qH ["weights",Tk]
 zA:Dn K mg "_law_deal" Cn a.y4 a.LO [SL,Os]
 a6:Dn K mg "_law_draw" Cm a.y3 a.LN [We,T0]
 FI:Dn K mg "_law_words" xP a.sg a.E7 [We,T0]
 FJ:Dn K mg "_law_kinds" xW a.sy a.Fe [We,Su]
 vH:Dn K mg "_law_fill" Ck a.y2 a.LM [We,W1,Rs]
 zz:Dn K mg "_law_ended" xX a.sA a.Ff [We,TW,W1,Tl,WP]
 Mx:Dn K mg "_law_case" Cp a.y7 a.LP [We,TW,W1,WP,WF]
 mM:Dn K mg "_law_body" Cq a.uS a.Dp [We,TW,W1,WP,WF]
 xu:Dn K mg "_law_program" oZ a.kU a.xb [We,Re,WF]
 FH:Dn K mg "_law_wrong" xO a.sf a.E6 [TD,Tm,Th]
 oG:Dn K mg "_law_mended" tT a.nU a.Bj [We,TD,Tm,Th,Sa]
 fb:Dn K mg "_law_free_of_pays" gh a.eT a.km [Op]
 vF:Dn K mg "_law_raised" tR a.nR a.Bh [We,TD,Tm,Th,Sa]
 xv:Dn K mg "_law_papered" pb a.kW a.xf [We,Re,WF,Sa]
 zw:Dn K mg "_law_sizes" xU a.sr a.Fc [TZ]
 sG:Dn K mg "_law_value" xQ a.si a.E8 [We,TZ,SC,Tl,WF]
 My:Dn K mg "_law_args" Cs a.y9 a.LR [We,SB,WP,WF]
 Q5:Dn K mg "_law_put" IV a.E1 a.QQ [Ty,Tu,ST,SZ]
 zy:Dn K mg "_law_right" xV a.sx a.Fd [We,SB,Ty,Tu,ST,SZ]
 WR:Dn K mg "law" qj a.xa a.QR [SL]
 cK:mg "len"=Y
 L6:mg "all"=Y
 mB:mg "list"=Y
 cE:mg "tuple"=Y
 Bq:mg "int"=Y
 eZ:mg "dict"=Y
 my:mg "reversed"=Y
 vh:mg "max"=Y
 QU:mg "min"=Y
 vg:mg "sum"=Y
 fZ:mg "range"=Y
 L4:mg "zip"=Y
 bh:mg "enumerate"=Y
 Pt:mg "ValueError"=Y
 L5:mg "sorted"=Y
 L0:mg "PAYING"=Z (.ref a.iH)
 JF:∀H:Hp,SqT K H a.iH ([("make":Str),"call","pay","give"].map V.str)
def yI:Str:="abcdefghijklmnopqrstuvwxyz"
def AW:Γ:=["kind","def","to","let","make","call"]
def lF:Γ:=["name","case","end","pay","get","give"]
def kept:Γ:=AW++lF
def near:Γ:=["lets","callx","payer","ender","tom","nameb","makes","gets","giver","kinds","defs","cases"]
theorem EG(h0:0<=i)(h1:i<26):atI (Str.cps yI).toList i=Z (uy i.toNat):=by obtain⟨n,rfl⟩:∃n:Nat,i=n:=(i.toNat,ap);have h2:n<26:=ap;have h3:∀n:Fin 26,atI (Str.cps yI).toList (n.val)=Z (uy n.val):=bi;have:=h3 (n,h2);simpa using this
theorem KL:∀w∈near,1<=w.length/\w.length<=20:=bi
def tM(m:Mk1):T:=.t [.s m.1,.t (m.2.map .s)]
def tMs(ms:List Mk1):T:=.t (ms.map tM)
def tK(k:Kd):T:=.t [.s k.1,tMs k.2]
def tKs(ks:ϖ):T:=.t (ks.map tK)
inductive J5(ts:ϓ)(Q:ϕ):Prop
 |mk(ks:ϖ)(k:Str)(h1:ts=[tKs ks,.s k])(h2:Q (tMs (c6 ks k)))
theorem aV{f:α->T}(h:∀x,(f x).im=O):∀xs:List α,T.ims (xs.map f)=O
 |[]=>rfl|x::r=>by show((f x).im&&T.ims (r.map f))=O;rw[h x,aV h r];rfl
theorem EN(m:Mk1):(tM m).im=true:=by show(O&&(T.ims (m.2.map T.s)&&O))=O;rw[aV (λ_=>rfl)];rfl
theorem mq(m:List Mk1):(tMs m).im=true:=aV EN m
theorem wY(m:Kd):(tK m).im=true:=by show(O&&((tMs m.2).im&&O))=O;rw[mq];rfl
theorem jc(m:ϖ):(tKs m).im=true:=aV wY m
inductive NW(ts:ϓ)(Q:ϕ):Prop
 |mk(m:Int)(h1:ts=[.cz,.i m])(h2:0<m)(h3:m<=52)(h4:∀ws:Γ,(ws.length:Int)=m->ws.Nodup->(∀w∈ws,1<=w.length/\w.length<=20)->Q (.l (ws.map .s)))
variable{ws:Γ}
theorem eJ:inT (.s w) (ws.map T.s)=inV (.str w) (ws.map V.str):=by unfold inT inV;rw[Yz,Yz];rfl
theorem uQ(ws:Γ):fls (ws.map T.s)=true:=by unfold fls;rw[ZI,PX];exact λ_ _=>rfl
theorem aX(ws:Γ):T.ims (ws.map T.s)=true:=aV (λ_=>rfl) ws
theorem noq(h:z∈lF):w++("q":Str)≠z:=by
 intro e;have h1:(w++("q")).cps.toList.getLast?=Z 113:=by simp[Str.cps_append,show(Str.ofString "q").cps=#[113]from by decide +kernel]
 rw[e]at h1;have h2:∀z∈lF,z.cps.toList.getLast? ≠ Z 113:=bi;exact h2 z h h1
theorem SS:inV (.str (w++("q":Str))) (lF.map V.str)=false:=by cases e:inV (.str (w++("q"))) (lF.map V.str)with|false=>rfl|true=>exact absurd U (noq (sd.mp e))
theorem mh:inV (.str w) (kept.map V.str)=(inV (.str w) (AW.map V.str)||inV (.str w) (lF.map V.str)):=by unfold kept inV;rw[ky,List.any_append]
theorem Pw{i:Int}(h0:0<=i)(h1:i<ws.length):∃w,atI (ws.map T.s) i=Z (.s w)/\w∈ws:=by let(v,e,hm):=L7 (xs:=ws.map T.s) h0 (h1:);let(w,hw,U):=kf.mp hm;exact(w,e,hw)
structure iI(ks:ϖ):Prop where
 k1:1<=ks.length
 k2:ks.length<=3
 nd:(ks.map (·.1)).Nodup
 mn:(names ks).Nodup
 ne:∀k∈ks,k.2 ≠ []/\k.2.length<=6
 fl:∀k∈ks,∀m∈k.2,m.2.length<=4/\∀f∈m.2,f∈ks.map (·.1)
inductive N2(ts:ϓ)(Q:ϕ):Prop
 |mk(ws:Γ)(h1:ts=[.cz,.l (ws.map .s)])(h2:ws.length=40)(h3:ws.Nodup)(h4:∀ks,iI ks->(∀m∈names ks,m∈ws)->Q (tKs ks))
variable{j:Nat}
theorem gq(h:ws[j]?=Z w):atI (ws.map T.s) (j:Int)=Z (.s w):=br (by rw[fN,h];rfl)
theorem Wv(h:ws.length=40):gD (ws.map T.s) (Z 4) Y++gD (ws.map T.s) Y (Z 4)=(ws.drop 4++ws.take 4).map T.s:=by
 unfold gD;have q:HT.sIx (ws.map T.s).length 0 (Z 4)=4:=by rw[cU,h];rfl
 have g:HT.sIx (ws.map T.s).length (ws.map T.s).length (Z 4)=4:=by rw[cU,h];rfl
 rw[q,g];show(List.drop 4 (ws.map T.s)).take ((ws.map T.s).length-4)++(List.drop 0 (ws.map T.s)).take (4-0)=_;rw[List.take_of_length_le (by rw[Yr];lia),ZU,ky,Zx,Zf]
theorem LV{α β:Type}(f:α->β)(xs:List α)(lo hi:Option Int):gD (xs.map f) lo hi=(gD xs lo hi).map f:=by unfold gD;rw[cU,<- Zx,<- Zf]
theorem EL(ws:Γ)(lo hi:Option Int):T.ims (gD (ws.map T.s) lo hi)=true:=by rw[LV];exact aX _
theorem VC(x y:Int)(b:Bool):atI [T.i x,T.i y] (if b=O then 1 else 0)=Z (.i (if b=O then y else x)):=by cases b <;> rfl
theorem Qk{x y z r:Int}(h0:0<=r)(h1:r<3):∃v,atI [T.i x,T.i y,T.i z] r=Z (.i v)/\(v=x\/v=y\/v=z):=by obtain⟨n,rfl⟩:∃n:Nat,r=n:=(r.toNat,ap);match n,h1 with| 0,_=>exact(x,U,.inl U)| 1,_=>exact(y,U,.inr (.inl U))| 2,_=>exact(z,U,.inr (.inr U))|n+3,h=>lia
theorem leK(a b:Nat)(h:‹Nat.ble a b=true›):a<=b:=Nat.le_of_ble_eq_true h
theorem Dx{α:Type}{p:α->Prop}:∀x∈([]:List α),p x:=λ_ h=>absurd h v5
theorem all1{α:Type}{p:α->Prop}{a:α}(h:p a):∀x ∈ [a],p x:=λ_ hx=>fy.mp hx▸h
theorem all2{α:Type}{p:α->Prop}{a b:α}(h:p a)(h2:p b):∀x ∈ [a,b],p x:=λx hx=>(kC.mp hx).elim (λe=>e▸h) (all1 h2 x)
theorem X6{α:Type}{p:α->Prop}{a b c:α}(h:p a)(h2:p b)(h3:p c):∀x ∈ [a,b,c],p x:=λx hx=>(kC.mp hx).elim (λe=>e▸h) (all2 h2 h3 x)
structure vn(ws M:Γ)(many:Nat)(ks:ϖ)(k made:Nat):Prop where
 nm:ks.map (·.1)=ws.take k
 mn:names ks=M.take made
 b1:made<=6*k
 ne:∀k∈ks,k.2 ≠ []/\k.2.length<=6
 fl:∀k∈ks,∀m∈k.2,m.2.length<=4/\∀f∈m.2,f∈ws.take many
theorem vn.next(D:vn ws M many ks k made)(hn:ws[k]?=Z n)(hm:M.take made++ms.map (·.1)=M.take g)(h0:ms ≠ [])(h1:ms.length<=6)(h2:g<=made+ms.length)(h3:∀m∈ms,m.2.length<=4/\∀f∈m.2,f∈ws.take many):
  vn ws M many (ks++[(n,ms)]) (k+1) g where
 nm:=by rw[ky,D.nm,<- take_one hn];rfl
 mn:=by
  have:names (ks++[(n,ms)])=names ks++ms.map (·.1):=by unfold names;simp
  rw[this,D.mn,hm]
 b1:=by have:=D.b1;lia
 ne:=λx hx=>by
  obtain h|h:=jn.mp hx
  ·exact D.ne x h
  rw[fy.mp h];exact(h0,h1)
 fl:=λx hx=>by
  obtain h|h:=jn.mp hx
  ·exact D.fl x h
  rw[fy.mp h];exact h3
theorem vn.good(D:vn ws M many ks many made)(hw:ws.Nodup)(g:M.Nodup)(h1:1<=many)(h2:many<=3)(hl:3<=ws.length):iI ks:=by
 have hlen:ks.length=many:=by have:=congrArg HH D.nm;rw[cU,qr]at this;lia
 refine(ap,ap,by rw[D.nm];exact hw.sublist (Yu _ _),by rw[D.mn];exact g.sublist (Yu _ _),D.ne,λk hk m hm=>?_);have z:=D.fl k hk m hm;rw[D.nm];exact z
theorem uG:decide ((Sum.inr a:Key)=.inr b)=decide (a=b):=by
 by_cases h:a=b
 ·simp
 rw[decide_eq_false h,decide_eq_false λz=>h (Sum.inr.inj z)]
variable{mg:Υ}
theorem never(h:∀ts Q,¬ sp ts Q):bg P w K mg base CX k f fd ps (spQ K sp):=
 (λ_ _ _ _ g=>by let(_,ts,_,Qp,_,_,z,_):=g;exact(h ts Qp z).elim,λ_ _ _ _ _ _ _ _ _ _ _ _ _ g=>by let(_,ts,_,Qp,_,_,z,_):=g;exact(h ts Qp z).elim)
def kEn(k:Kd):Key×T:=(.inr k.1,tMs k.2)
theorem nk:∀ks:ϖ,cO (ks.map tK)=Z (ks.map kEn)
 |[]=>rfl|k::r=>by
  show(match(Z (.inr k.1)),cO (r.map tK)with|some k',Z r=>Z ((Prod.mk k' (tMs k.2))::r)|_,_=>Y)=_;rw[nk r];rfl
theorem nG:∀{ps acc:List (Key×T)},(ps.map (·.1)).Nodup->(∀p∈ps,∀q∈acc,q.1≠p.1)->dg acc ps=acc++ps
 |[],acc,_,_=>by simp[dg]|p::ps,acc,h,hd=>by
  have h':=vp.mp h;have e:ix acc p.1 p.2=acc++[p]:=by unfold ix;rw[if_neg];intro z;let(q,hq,P):=P0.mp z;exact hd p ad q hq (of_decide_eq_true P)
  show dg (ix acc p.1 p.2) ps=_;rw[e,nG h'.2 λK g q hq=>?_]
  ·simp
  obtain z|z:=jn.mp hq
  ·exact hd K (by simp[g]) q z
  rw[fy.mp z];exact λe=>h'.1 (kf.mpr (K,g,e.symm))
theorem OS{ks:ϖ}{k:Str}(h:k∈ks.map (·.1)):bH (ks.map kEn) (.inr k)=Z (tMs (c6 ks k)):=by
 unfold bH c6;induction ks with
 |nil=>cases h
 |cons x r g =>
  by_cases e:x.1=k
  ·rw[ro,zr,zr,show(kEn x).1=.inr x.1 from U,uG,decide_eq_true e];rfl
  have h':k∈r.map (·.1):=by
   obtain z|z:=kC.mp h
   ·exact absurd z.symm e
   exact z
  rw[ro,zr,zr,show(kEn x).1=.inr x.1 from U,uG,decide_eq_false e];exact g h'
theorem Pn{ks:ϖ}(h:(ks.map (·.1)).Nodup):dg [] (ks.map kEn)=ks.map kEn:=by
 rw[nG]
 ·rfl
 ·rw[tr];have:(ks.map ((λx=>x.1) ∘ kEn))=(ks.map (·.1)).map Sum.inr:=by rw[tr];rfl
  rw[this];exact Xt.mpr (h.imp λg z=>g (Sum.inr.inj z))
 intro p _ q hq;cases hq
theorem pN(g:(ks.map (·.1)).Nodup)(h:k∈ks.map (·.1)):bH (dg [] (ks.map kEn)) (.inr k)=Z (tMs (c6 ks k)):=by rw[Pn g,OS h]
structure bC(ks:ϖ):Prop where
 k1:1<=ks.length
 k2:ks.length<=6
 nd:(ks.map (·.1)).Nodup
 mn:(names ks).Nodup
 ne:∀k∈ks,k.2 ≠ []/\k.2.length<=6
 fl:∀k∈ks,∀m∈k.2,m.2.length<=4/\∀f∈m.2,f∈ks.map (·.1)
theorem Ua(h0:0<=r)(h1:r.toNat<ws.length):atI (ws.map Ϛ) r=Z (.s ws[r.toNat]):=by
 have:=gq (ws:=ws) (j:=r.toNat) (w:=ws[r.toNat]) (by simp[h1])
 rwa [Xy h0]at this
abbrev Sc:=List (Str×Str)
def tP(p:Str×Str):T:=.t [.s p.1,.s p.2]
theorem eO(p:Str×Str):(tP p).im=true:=rfl
def Fills(sc:Sc)(ns fs:Γ):Prop:=ns.length=fs.length/\∀p∈ns.zip fs,p∈sc
variable{sc:Sc}{ns:Γ}
theorem Fills.snoc(h:Fills sc ns fs)(hp:(n,f)∈sc):Fills sc (ns++[n]) (fs++[f]):=by
 refine(by simp[h.1],λp g=>?_);rw[List.zip_append h.1]at g;obtain z|z:=jn.mp g
 ·exact h.2 p z
 simp at z;rw[z];exact hp
inductive CG(ts:ϓ)(Q:ϕ):Prop
 |mk(sc:Sc)(fs:Γ)(t:T)(h1:(t=.t (fs.map .s)\/t=.l (fs.map .s)))(h2:ts=[.cz,.l (sc.map tP),t])(h3:sc.length<=60)(h4:fs.length<=1000)(h5:Q .n)(h6:∀ns:Γ,Fills sc ns fs->Q (.t (ns.map .s)))
abbrev Hd:=Str×Sc×Str
def tH(h:Hd):T:=.t [.s h.1,.t (h.2.1.map tP),.s h.2.2]
theorem VY(h:Hd):(tH h).im=true:=by show(O&&(T.ims (h.2.1.map tP)&&O))=O;rw[aV eO];rfl
def tW(ks:ϖ)(hs:List Hd)(ws:Γ):T:=.t [tKs ks,.l (hs.map tH),.l (ws.map .s)]
structure Wld(ks:ϖ)(hs:List Hd)(ws:Γ):Prop where
 gk:bC ks
 wl:ws.length=40
 wn:ws.Nodup
 h1:1<=hs.length
 h8:hs.length<=8
 hn:(hs.map (·.1)).Nodup
 hp:∀h∈hs,h.2.1.length<=4/\(∀p∈h.2.1,p.2∈ks.map (·.1))/\h.2.1.map (·.1)=ws.take h.2.1.length/\h.2.2∈ks.map (·.1)
structure vm(ks:ϖ)(ws:Γ)(h:Hd)(sc:Sc):Prop where
 nm:sc.map (·.1)=ws.take sc.length
 ln:sc.length<=30
 kd:∀p∈sc,p.2∈ks.map (·.1)
 p1:h.2.1.length<=sc.length
 pf:sc.take h.2.1.length=h.2.1
abbrev Arm:=Str×Γ×T×Nat
def tA(a:Arm):T:=.t [.s a.1,.t (a.2.1.map .s),a.2.2.1]
inductive Snd(ks:ϖ)(hs:List Hd)(r:Str):Nat->Sc->T->Prop
 |give{sc:Sc}{x:Str}:(x,r)∈sc->Snd ks hs r 1 sc (.t [.s "give",.s x])|cY{n:Nat}{sc:Sc}{w:Str}{c:Int}{b:T}:(w="pay" \/ w="get")->0<=c->Snd ks hs r n sc b->Snd ks hs r (n+1) sc (.t [.s w,.i c,b])|name{n:Nat}{sc:Sc}{x y k:Str}{b:T}:(y,k)∈sc->x ∉ sc.map (·.1)->Snd ks hs r n (sc++[Prod.mk x k]) b->Snd ks hs r (n+1) sc (.t [.s "name",.s x,.s y,b])|make{n:Nat}{sc:Sc}{x:Str}{m:Mk1}{kd:Kd}{ns:Γ}{b:T}:kd∈ks->m∈kd.2->Fills sc ns m.2->x ∉ sc.map (·.1)->Snd ks hs r n (sc++[(x,kd.1)]) b->Snd ks hs r (n+1) sc (.t [.s "make",.s x,.s m.1,.t (ns.map .s),b])|call{n:Nat}{sc:Sc}{x:Str}{h:Hd}{ns:Γ}{b:T}:h∈hs->Fills sc ns (h.2.1.map (·.2))->x ∉ sc.map (·.1)->Snd ks hs r n (sc++[(x,h.2.2)]) b->Snd ks hs r (n+1) sc (.t [.s "call",.s x,.s h.1,.t (ns.map .s),b])|case{sc:Sc}{x:Str}{kd:Kd}(arms:List Arm):(x,kd.1)∈sc->kd∈ks->arms.map (·.1)=kd.2.map (·.1) ->
   (∀(i:Nat)(a:Arm)(m:Mk1),arms[i]?=Z a->kd.2[i]?=Z m->a.2.1.length=m.2.length/\(sc.map (·.1)++a.2.1).Nodup) ->
   (∀(i:Nat)(a:Arm)(m:Mk1),arms[i]?=Z a->kd.2[i]?=Z m->Snd ks hs r a.2.2.2 (sc++a.2.1.zip m.2) a.2.2.1) ->
   Snd ks hs r (1+(arms.map (·.2.2.2)).sum) sc (.t [.s "case",.s x,.t (arms.map tA)])
theorem Snd.im(h:Snd ks hs r n sc b):b.im=true:=by
 induction h with
 |give _=>rfl|cY _ _ _ g=>show(O&&(O&&(T.im _&&O)))=O;rw[g];rfl|name _ _ _ g=>show(O&&(O&&(O&&(T.im _&&O))))=O;rw[g];rfl|make _ _ _ _ _ g=>show(O&&(O&&(O&&(T.ims _&&(T.im _&&O)))))=O;rw[g,aX];rfl|call _ _ _ _ g=>show(O&&(O&&(O&&(T.ims _&&(T.im _&&O)))))=O;rw[g,aX];rfl|@case sc x kd arms _ _ hn _ _ g =>
  show(O&&(O&&(T.ims (arms.map tA)&&O)))=O;have:T.ims (arms.map tA)=true:=by
   have go:∀(l:List T),(∀t∈l,t.im=O)->T.ims l=true:=by
    intro l;induction l with
    |nil=>intro _;rfl
    |cons t r g=>intro h;show(t.im&&T.ims r)=O;rw[h t j0,g λt q=>h t (j5 _ q)];rfl
   refine go _ λt q=>?_;let(a,K,U):=kf.mp q;let(i,hi,e):=ri K;have hl:kd.2.length=arms.length:=by have:=congrArg HH hn;simpa using this.symm
   have z:=g i a (kd.2[i]' ap) (by rw[dQ hi,e]) (dQ _);show(O&&(T.ims (a.2.1.map .s)&&(a.2.2.1.im&&O)))=O;rw[z,aX];rfl
  rw[this];rfl
def tb:Nat->List Nat
 | 0=>[2]|n+1=>(1+max ((tb n).getD 0 2) (max ((tb n).getD 1 2) (max (2*(tb n).getD 2 2) (max (3*(tb n).getD 3 2) (max (4*(tb n).getD 4 2) (max (5*(tb n).getD 5 2) (6*(tb n).getD 6 2)))))))::tb n
def sz(n:Nat):Nat:=(tb n).getD 0 2
theorem jI:∀n k:Nat,(tb n).getD k 2=sz (n-k)
 | 0,0=>rfl| 0,k+1=>by rw[Nat.zero_sub];rfl|n+1,0=>rfl|n+1,k+1=>by
  rw[Nat.add_sub_add_right,<- jI n k];rfl
theorem MU(n:Nat):sz (n+1)=1+max (sz n) (max (sz (n-1)) (max (2*sz (n-2)) (max (3*sz (n-3)) (max (4*sz (n-4)) (max (5*sz (n-5)) (6*sz (n-6))))))):=by show 1+max ((tb n).getD 0 2) _=_;rw[jI,jI,jI,jI,jI,jI,jI];rfl
theorem Cb(n:Nat):1+sz n<=sz (n+1):=by exact Zm (YR _ _) 1
theorem Iu:∀n:Nat,2<=sz n
 | 0=>kB _|n+1=>by have:=Cb n;have:=Iu n;lia
variable{n:Nat}
theorem MW{k:Nat}(h1:1<=k)(h6:k<=6):1+k*sz (n-k)<=sz (n+1):=by
 rw[MU];have:k=1\/k=2\/k=3\/k=4\/k=5\/k=6:=ap;have r:∀{a b c:Nat},a<=c->a<=max b c:=λh=>sF h (Nat.le_max_right _ _);refine Zm ?_ 1;obtain rfl|rfl|rfl|rfl|rfl|rfl:=this
 ·rw[Nat.one_mul];exact r (YR _ _)
 ·exact r (r (YR _ _))
 ·exact r (r (r (YR _ _)))
 ·exact r (r (r (r (YR _ _))))
 ·exact r (r (r (r (r (YR _ _)))))
 exact r (r (r (r (r (r (kB _))))))
theorem MV{m:Nat}(h:n<=m):sz n<=sz m:=by induction h with|refl=>exact kB _|step _ g=>exact sF g (sF (Nat.le_add_left _ _) (Cb _))
theorem UT:sz 30<=50000:=bi
variable{kd:Kd}
theorem AL{ks:ϖ}(g:(ks.map (·.1)).Nodup)(h:kd∈ks):c6 ks kd.1=kd.2:=by
 unfold c6;induction ks with
 |nil=>cases h
 |cons x r q =>
  rw[ro,vp]at g;by_cases e:x.1=kd.1
  ·obtain z|z:=kC.mp h
   ·subst z;simp
   exact absurd (kf.mpr (kd,z,e.symm)) g.1
  rw[zr,decide_eq_false e];obtain z|z:=kC.mp h
  ·exact absurd (by rw[z]) e
  exact q g.2 z
theorem Qs{ks:ϖ}(h:k∈ks.map (·.1)):∃kd∈ks,kd.1=k:=by let(kd,h1,h2):=kf.mp h;exact(kd,h1,h2)
variable{x:Str}
theorem vm.fresh(S:vm ks ws h sc)(wn:ws.Nodup)(hx:ws[sc.length]?=Z x):x ∉ sc.map (·.1):=by rw[S.nm];intro z;have q:=wn.sublist (Yu (sc.length+1) ws);rw[<- take_one hx]at q;exact(vw.mp q).2.2 x z x ad U
theorem vm.snoc(S:vm ks ws h sc)(hx:ws[sc.length]?=Z x)(hl:sc.length<30)(hk:k∈ks.map (·.1)):vm ks ws h (sc++[Prod.mk x k]) where
 nm:=by rw[ky,S.nm,j3];exact take_one hx
 ln:=by simp;lia
 kd:=λp hp=>by
  obtain z|z:=jn.mp hp
  ·exact S.kd p z
  rw[fy.mp z];exact hk
 p1:=by rw[j3];have:=S.p1;lia
 pf:=by rw[Zi S.p1];exact S.pf
inductive rW(ts:ϓ)(Q:ϕ):Prop
 |mk(ks:ϖ)(hs:List Hd)(ws:Γ)(sc:Sc)(f:Nat)(h:Hd)(h1:ts=[.cz,tW ks hs ws,.l (sc.map tP),.s h.2.2,.i f])(h2:Wld ks hs ws)(h3:hs[f]?=Z h)(h4:vm ks ws h sc)(h5:∀n b,n<=2->Snd ks hs h.2.2 n sc b->Dep 2 b->Q b)
inductive md(N:Nat)(ts:ϓ)(Q:ϕ):Prop
 |mk(ks:ϖ)(hs:List Hd)(ws:Γ)(sc:Sc)(f:Nat)(h:Hd)(u:Int)(h1:ts=[.cz,tW ks hs ws,.l (sc.map tP),.i f,.rm u])(h2:Wld ks hs ws)(h3:hs[f]?=Z h)(h4:vm ks ws h sc)(h5:sc.length<=21)(h6:u.toNat<N)(h7:∀n b,n<=sz u.toNat->Snd ks hs h.2.2 n sc b->Dep (3*u.toNat+2) b->Q b)
inductive Sw(N:Nat)(ts:ϓ)(Q:ϕ):Prop
 |mk(ks:ϖ)(hs:List Hd)(ws:Γ)(sc:Sc)(f:Nat)(h:Hd)(u:Int)(h1:ts=[.cz,tW ks hs ws,.l (sc.map tP),.i f,.rm u])(h2:Wld ks hs ws)(h3:hs[f]?=Z h)(h4:vm ks ws h sc)(h5:sc.length<=17)(h6:sc ≠ [])(h7:u.toNat<N)(h8:∀n b,n<=sz (u.toNat+1)->Snd ks hs h.2.2 n sc b->Dep (3*u.toNat+5) b->Q b)
theorem LS{α:Type}{xs:List α}(h:n<=xs.length):gD xs Y (Z (n:Int))=xs.take n:=by unfold gD;rw[HT.IW,HT.Nn,Mi h,ZU,Nat.sub_zero]
theorem Fills.self:Fills sc ((sc.take n).map (·.1)) ((sc.take n).map (·.2)):=by refine(ad,λp hp=>?_);rw[List.zip_map',kf]at hp;let(q,hq,U):=hp;exact QH hq
theorem DK{fs:Γ}(h:ns.length=fs.length):(ns.zip fs).map (·.1)=ns:=by rw[ZD ap]
theorem vm.more(S:vm ks ws h sc)(wn:ws.Nodup)(e:ns=(ws.drop sc.length).take fs.length)(hl:sc.length+fs.length<=30)(hw:40<=ws.length)(hk:∀f∈fs,f∈ks.map (·.1)):
  ns.length=fs.length/\(sc.map (·.1)++ns).Nodup/\vm ks ws h (sc++ns.zip fs):=by
 have l1:ns.length=fs.length:=by rw[e,qr,Yr];lia
 have g:sc.map (·.1)++ns=ws.take (sc.length+fs.length):=by rw[S.nm,e,List.take_add]
 have q:(ns.zip fs).length=fs.length:=by rw[QX];lia
 refine(l1,by rw[g];exact wn.sublist (Yu _ _),(?_,?_,λp hp=>?_,?_,?_))
 ·rw[ky,DK l1,g,j3,q]
 ·rw[j3];lia
 ·obtain z|z:=jn.mp hp
  ·exact S.kd p z
  exact hk p.2 (Yw z).2
 ·rw[j3];have:=S.p1;lia
 rw[Zi S.p1];exact S.pf
variable{arms:List Arm}{ώ:Nat}
theorem Ru(h:∀a∈arms,a.2.2.2<=ώ):(arms.map (·.2.2.2)).sum<=arms.length*ώ:=by induction arms with|nil=>simp|cons a r g =>have h1:=h a j0;have h2:=g λb q=>h b (j5 _ q);rw[ro,vx,qf,Nat.add_mul];lia
structure Q7(ks:ϖ)(hs:List Hd)(r:Str)(sc:Sc)(ώ D:Nat)(a:Arm)(m:Mk1):Prop where
 nm:a.1=m.1
 ln:a.2.1.length=m.2.length
 nd:(sc.map (·.1)++a.2.1).Nodup
 sn:Snd ks hs r a.2.2.2 (sc++a.2.1.zip m.2) a.2.2.1
 sz:a.2.2.2<=ώ
 dp:Dep D a.2.2.1
structure wA(ks:ϖ)(hs:List Hd)(r:Str)(sc:Sc)(ώ D:Nat)(arms:List Arm)(ms:List Mk1):Prop where
 ln:arms.length=ms.length
 ok:∀(i:Nat)(a:Arm)(m:Mk1),arms[i]?=Z a->ms[i]?=Z m->Q7 ks hs r sc ώ D a m
variable{hs:List Hd}{r:Str}{D:Nat}{m:Mk1}
theorem wA.snoc(h:wA ks hs r sc ώ D arms ms)(q:Q7 ks hs r sc ώ D a m):wA ks hs r sc ώ D (arms++[a]) (ms++[m]):=by
 refine(by simp[h.ln],λi z m' h1 h2=>?_);by_cases hi:i<arms.length
 ·rw[u6 hi]at h1;rw[u6 (by rw[<- h.ln];exact hi)]at h2;exact h.ok i z m' h1 h2
 rw[vr ap]at h1;rw[vr (by rw[<- h.ln];lia),<- h.ln]at h2;have g:i-arms.length=0:=by have:=(jm.mp h1).1;simp at this;lia
 rw[g]at h1 h2;simp at h1 h2;subst h1 h2;exact q
theorem wA.snd(h:wA ks hs r sc ώ D arms kd.2)(hx:(x,kd.1)∈sc)(hk:kd∈ks):Snd ks hs r (1+(arms.map (·.2.2.2)).sum) sc (.t [.s "case",.s x,.t (arms.map tA)])/\(arms.map (·.2.2.2)).sum<=arms.length*ώ:=by
 refine(.case arms hx hk ?_ (λi a m h1 h2=>((h.ok i a m h1 h2).ln,(h.ok i a m h1 h2).nd)) (λi a m h1 h2=>(h.ok i a m h1 h2).sn),Ru λa z=>?_)
 ·apply List.ext_getElem?;intro i;rw[fN,fN];by_cases hi:i<arms.length
  ·have q:=dQ hi;have g:kd.2[i]?=Z (kd.2[i]'(by rw[<- h.ln];exact hi)):=dQ _;rw[q,g];exact congrArg Z (h.ok i _ _ q g).nm
  rw[P2 ap,P2 (by rw[<- h.ln];omega)];rfl
 let(i,hi,e):=ri z;exact(h.ok i a _ (by rw[dQ hi,e]) (dQ (by rw[<- h.ln];exact hi))).sz
theorem hJ{xs:List α}{r:Int}(h0:0<=r)(h1:r<xs.length):∃x∈xs,atI (xs.map f) r=Z (f x):=by
 have h:r.toNat<xs.length:=ap;refine(xs[r.toNat],P1 h,?_);have:=br (xs:=xs.map f) (by rw[fN,dQ h];rfl)
 rwa [Xy h0]at this
theorem max_two{r g:Int}(P:0<=r)(K:r<n)(z:0<=g)(q:g<n):0 <=(if g > r then g else r)/\(if g > r then g else r)<n:=by split <;> lia
theorem HL{α β:Type}{A:List α}{ώ:List β}{a:α}{b:β}(q:A[j]?=Z a)(g:ώ[j]?=Z b):(A.take (j+1)).zip (ώ.take (j+1))=(A.take j).zip (ώ.take j)++[(a,b)]:=by have h1:=(jm.mp q).1;have h2:=(jm.mp g).1;rw[p7,p7,q,g,List.zip_append (by rw[qr,qr];lia)];rfl
theorem wA.im(h:wA ks hs r sc ώ D arms ms):T.ims (arms.map tA)=true:=by
 have go:∀l,(∀t∈l,t.im=O)->T.ims l=true:=by
  intro l;induction l with
  |nil=>intro _;rfl
  |cons t r q=>intro h;show(t.im&&T.ims r)=O;rw[h t j0,q λt g=>h t (j5 _ g)];rfl
 refine go _ λt g=>?_;let(a,K,U):=kf.mp g;let(i,hi,e):=ri K;have z:=(h.ok i a _ (by rw[dQ hi,e]) (dQ (by rw[<- h.ln];exact hi))).sn.im;show(O&&(T.ims (a.2.1.map .s)&&(a.2.2.1.im&&O)))=O;rw[z,aX];rfl
theorem Bd{l:Γ}:Dep (n+1) (.t (l.map .s)):=Dep.t λx hx=>by
 let(z,_,U):=kf.mp hx;exact Dep.s
theorem gX:∀x∈([]:List T),Dep n x:=cc
theorem cI{t:T}{ts:List T}(h:Dep n t)(hs:∀x∈ts,Dep n x):∀x∈t::ts,Dep n x:=λx hx=>(kC.mp hx).elim (λe=>e▸h) (hs x)
theorem uW:Dep (n+1) (.t [.s "give",.s x]):=Dep.t (cI Dep.s (cI Dep.s gX))
theorem Hj{w:Str}{c:Int}{b:T}(h:Dep D b):Dep (D+1) (.t [.s w,.i c,b]):=Dep.t (cI Dep.s (cI Dep.i (cI h gX)))
variable{y:Str}
theorem LG{w:Str}{b:T}(h:Dep D b):Dep (D+1) (.t [.s w,.s x,.s y,b]):=Dep.t (cI Dep.s (cI Dep.s (cI Dep.s (cI h gX))))
theorem nW(h:Dep D b)(h1:1<=D):Dep (D+1) (.t [.s w,.s x,.s y,.t (ns.map .s),b]):=by obtain⟨k,rfl⟩:∃k,D=k+1:=(D-1,ap);exact Dep.t (cI Dep.s (cI Dep.s (cI Dep.s (cI Bd (cI h gX)))))
theorem wA.dep(h:wA ks hs r sc ώ D arms ms)(h1:1<=D):Dep (D+3) (.t [.s "case",.s x,.t (arms.map tA)]):=by obtain⟨k,rfl⟩:∃k,D=k+1:=(D-1,ap);refine Dep.t (cI Dep.s (cI Dep.s (cI (Dep.t λt g=>?_) gX)));let(a,q,U):=kf.mp g;let(i,hi,e):=ri q;exact Dep.t (cI Dep.s (cI Bd (cI (h.ok i a _ (by rw[dQ hi,e]) (dQ (by rw[<- h.ln];exact hi))).dp gX)))
abbrev Fn:=Hd×T×Nat
abbrev ϗ:=List Fn
def tF(f:Fn):T:=.t [.s f.1.1,.t (f.1.2.1.map tP),.s f.1.2.2,f.2.1]
structure Prog(ks:ϖ)(fs:ϗ):Prop where
 gk:bC ks
 l8:fs.length<=8
 hn:(fs.map (·.1.1)).Nodup
 pk:∀f∈fs,f.1.2.1.length<=4/\(∀p∈f.1.2.1,p.2∈ks.map (·.1))/\(f.1.2.1.map (·.1)).Nodup/\f.1.2.2∈ks.map (·.1)
 sn:∀f∈fs,Snd ks (fs.map (·.1)) f.1.2.2 f.2.2 f.1.2.1 f.2.1/\f.2.2<=50000
 dp:∀f∈fs,Dep 92 f.2.1
theorem iI.p(g:iI ks):bC ks:=(g.k1,by have:=g.k2;lia,g.nd,g.mn,g.ne,g.fl)
inductive Gw(ts:ϓ)(Q:ϕ):Prop
 |mk(m u:Int)(h1:ts=[.cz,.i m,.i u])(h2:0<m)(h3:m<=8)(h4:0<=u)(h5:u<=30)(h6:∀ks fs,Prog ks fs->iI ks->fs ≠ []->(∀f∈fs,f.2.2<=sz u.toNat)->fs.length<=m.toNat->(∀f∈fs,Dep (3*u.toNat+2) f.2.1)->Q (.t [tKs ks,.t (fs.map tF)]))
def pM(o:Nat)(f:Nat):Nat:=if o=0 then f else 39-f
structure xp(ks:ϖ)(ws:Γ)(o:Nat)(hs:List Hd)(i:Nat):Prop where
 ln:hs.length=i
 nm:hs.map (λh=>Z h.1)=(Fs i).map λf=>ws[pM o f]?
 hp:∀h∈hs,h.2.1.length<=4/\(∀p∈h.2.1,p.2∈ks.map (·.1))/\h.2.1.map (·.1)=ws.take h.2.1.length/\h.2.2∈ks.map (·.1)
theorem xp.snoc(H:xp ks ws o hs i)(hn:ws[pM o i]?=Z h.1)(hp:h.2.1.length<=4/\(∀p∈h.2.1,p.2∈ks.map (·.1))/\h.2.1.map (·.1)=ws.take h.2.1.length/\h.2.2∈ks.map (·.1)):xp ks ws o (hs++[h]) (i+1) where
 ln:=by simp[H.ln]
 nm:=by rw[ky,H.nm,ZN];simp[hn]
 hp:=λh' hm=>by
  obtain z|z:=jn.mp hm
  ·exact H.hp h' z
  rw[fy.mp z];exact hp
theorem xp.nd(H:xp ks ws o hs i)(hl:ws.length=40)(wn:ws.Nodup)(hi:i<=8):(hs.map (·.1)).Nodup:=by
 have e:(hs.map (·.1)).map Z=(Fs i).map λf=>ws[pM o f]?:=by rw[<- H.nm,tr];rfl
 have n:((Fs i).map λf=>ws[pM o f]?).Nodup:=by
  refine Xt.mpr (List.Pairwise.imp_of_mem (λ{a b} q P g z=>?_) (List.nodup_range));have q:=YL.mp q;have l1:pM o a<ws.length:=by unfold pM;split <;> lia
  have K:=z;have:=(List.getElem?_inj l1 wn).mp K;unfold pM at this;split at this <;> lia
 rw[<- e]at n;exact(Xt.mp n).imp λg z=>g (by rw[z])
abbrev Ds:=List (Str×Int)
def dEn(p:Str×Int):Key×T:=(.inr p.1,.i p.2)
def dT(ds:Ds):T:=.d (ds.map dEn)
def lk(ds:Ds)(k:Str):Option Int:=(ds.find? λp=>decide (p.1=k)).map (·.2)
def putD(ds:Ds)(k:Str)(v:Int):Ds:=if(ds.any λp=>decide (p.1=k))=O then ds.map (λp=>if p.1=k then(p.1,v)else p)else ds++[(k,v)]
theorem eD(ds:Ds)(k:Str):bH (ds.map dEn) (.inr k)=(lk ds k).map .i:=by unfold bH lk;induction ds with|nil=>rfl|cons p r g =>rw[ro,zr,zr,show(dEn p).1=.inr p.1 from U,uG];cases decide (p.1=k)with|true=>rfl|false=>exact g
theorem Uc(ds:Ds)(k:Str):((ds.map dEn).any λp=>decide (p.1=.inr k))=ds.any λp=>decide (p.1=k):=by rw[Yz];congr 1;funext p;exact uG
theorem JS(ds:Ds)(k:Str)(v:Int):ix (ds.map dEn) (.inr k) (.i v)=(putD ds k v).map dEn:=by
 unfold ix putD;rw[Uc];split
 ·rw[tr,tr];apply TH;intro p _;show(if(Sum.inr p.1:Key)=.inr k then((Sum.inr p.1),T.i v)else dEn p)=dEn (if p.1=k then(p.1,v)else p);by_cases h:p.1=k
  ·rw[if_pos (congrArg Sum.inr h),if_pos h];rfl
  rw[if_neg λz=>h (Sum.inr.inj z),if_neg h]
 rw[ky];rfl
variable{ds:Ds}
theorem ia(h:lk ds k=Z v):(k,v)∈ds:=by let(p,hp,U):=gV.mp h;have h1:=YG hp;have h2:=ZM hp;have h2:=(h2:);rw[<- h2];exact h1
theorem EF(h:lk ds k=Y):∀p∈ds,p.1≠k:=by intro p hp e;have:=Z5.mp (ZK.mp h) p hp;exact this (decide_eq_true e)
theorem Dv{k:Str}:(ds.any λp=>decide (p.1=k))=(lk ds k).isSome:=by cases h:lk ds k with|none =>rw[Option.isSome_none,Zv];exact λp hp=>by simpa using EF h p hp|some v =>rw[Z2,P0];exact(_,ia h,ad)
theorem yH:lk (putD ds k v) f=if f=k then Z v else lk ds f:=by
 unfold putD;split
 ·rename_i h;by_cases e:f=k
  ·subst e;rw[if_pos rfl];unfold lk;induction ds with
   |nil=>cases h
   |cons p r q =>
    by_cases hp:p.1=f
    ·simp[hp]
    rw[YI,decide_eq_false hp]at h;have:=q h;simp only[ro,if_neg hp,zr,decide_eq_false hp];exact this
  rw[if_neg e];unfold lk;clear h;induction ds with
  |nil=>rfl|cons p r q =>
   by_cases hp:p.1=k
   ·have h1:¬ k=f:=λz=>e z.symm;simp only[ro,hp,if_pos,zr,decide_eq_false h1];exact q
   by_cases hf:p.1=f
   ·simp[hf,e]
   simp only[ro,if_neg hp,zr,decide_eq_false hf];exact q
 rename_i h;have h':lk ds k=none:=by rw[Dv]at h;cases g:lk ds k with|none=>rfl|some _=>rw[g]at h;exact absurd U h
 unfold lk at h' ⊢;rw[List.find?_append];by_cases e:f=k
 ·subst e;rw[ZK.mp h'];simp
 rw[if_neg e];have h1:¬ k=f:=λz=>e z.symm;cases g:List.find? (λp=>decide (p.1=f)) ds with|none=>simp[h1]|some p=>rfl
def cC(ds:Ds)(fs:Γ):Int:=(fs.map λf=>(lk ds f).getD 0).sum
def bnd:Nat->Int
 | 0=>0|n+1=>1+4*bnd n
theorem zf:∀n,0<=bnd n
 | 0=>DG _|n+1=>by have:=zf n;show 0<=1+4*bnd n;lia
theorem T6(n:Nat):bnd n<=bnd (n+1):=by have:=zf n;show _<=1+4*bnd n;lia
theorem zg:∀{n m:Nat},n<=m->bnd n<=bnd m
 |n,0,h=>by rw[Nat.le_zero.mp h];exact DG _|n,m+1,h=>by
  by_cases e:n=m+1
  ·rw[e];exact DG _
  exact Y7 (zg ap) (T6 m)
theorem D4{ds q:Ds}:∀{fs:Γ},(∀f∈fs,(lk q f).getD 0 <=(lk ds f).getD 0)->cC q fs<=cC ds fs
 |[],_=>DG _|f::fs,h=>by
  have h1:=h f ad;have h2:=D4 (fs:=fs) λg hg=>h g (by simp[hg]);unfold cC at *;simp only[ro,vx];lia
theorem D5{ds:Ds}{b:Int}:∀{fs:Γ},(∀f∈fs,0 <=(lk ds f).getD 0/\(lk ds f).getD 0<=b)->0<=cC ds fs/\cC ds fs<=fs.length*b
 |[],_=>by simp[cC]|f::fs,h=>by
  have h1:=h f ad;have h2:=D5 (fs:=fs) λg hg=>h g (by simp[hg]);unfold cC at *;simp only[ro,vx,qf];have:((fs.length+1:Nat))*b=fs.length*b+b:=by rw[Int.natCast_add,Int.add_mul];simp
  lia
structure jF(ks:ϖ)(ds:Ds):Prop where
 nd:(ds.map (·.1)).Nodup
 sub:∀p∈ds,p.1∈ks.map (·.1)
 bd:∀p∈ds,1<=p.2/\p.2<=bnd ds.length
 wt:∀k v,lk ds k=Z v->∃m∈c6 ks k,(∀f∈m.2,(lk ds f).isSome=O)/\1+cC ds m.2<=v
theorem jF.nil(ks:ϖ):jF ks []:=(lu,ad,ad,λk v h=>by cases h)
theorem jF.bds(h:jF ks ds)(f:Str):0 <=(lk ds f).getD 0/\(lk ds f).getD 0<=bnd ds.length:=by cases e:lk ds f with|none=>exact(DG _,zf _)|some v=>have:=h.bd _ (ia e);exact(by show 0<=v;lia,this.2)
theorem jF.sum(h:jF ks ds)(fs:Γ):0<=cC ds fs/\cC ds fs<=fs.length*bnd ds.length:=D5 λf _=>h.bds f
theorem t8:(putD ds k v).length=if(lk ds k).isSome=O then ds.length else ds.length+1:=by unfold putD;rw[Dv];split <;> simp
theorem wK:(putD ds k v).map (·.1)=if(lk ds k).isSome=O then ds.map (·.1)else ds.map (·.1)++[k]:=by
 unfold putD;rw[Dv];split
 ·rw[tr];apply TH;intro p _;show(if p.1=k then(p.1,v)else p).1=p.1;split <;> rfl
 simp
theorem jF.put(h:jF ks ds)(hk:k∈ks.map (·.1))(hm:m∈c6 ks k)(h4:m.2.length<=4)(hf:∀f∈m.2,(lk ds f).isSome=O)(hv:v=min ((lk ds k).getD (1+cC ds m.2)) (1+cC ds m.2)):jF ks (putD ds k v):=by
 have hs:=h.sum m.2;have v1:1<=v:=by rw[hv];cases e:lk ds k with|none=>show 1<=min (1+cC ds m.2) _;lia|some u=>have:=h.bd _ (ia e);show 1<=min u _;lia
 have v2:v<=1+cC ds m.2:=by rw[hv];exact Int.min_le_right _ _
 have v3:∀u,lk ds k=Z u->v<=u:=λu e=>by rw[hv,e];exact Int.min_le_left _ _
 have vb:v<=bnd (putD ds k v).length:=by rw[t8];cases e:lk ds k with|none =>show v<=1+4*bnd ds.length;have:(m.2.length)*bnd ds.length<=4*bnd ds.length:=Ze ap (zf _);lia|some u =>rw[if_pos ba];have:=v3 u e;have q:=(h.bd _ (ia e)).2;lia
 have lb:bnd ds.length<=bnd (putD ds k v).length:=zg (by rw[t8];split <;> lia);have low:∀fs,(∀f∈fs,(lk ds f).isSome=O)->cC (putD ds k v) fs<=cC ds fs:=λfs ar=>D4 λf K=>by
  rw[yH];split
  ·rename_i e;subst e;let(u,P):=Mj.mp (ar f K);rw[P];exact v3 u P
  exact DG _
 have V:∀f,(lk ds f).isSome=O->(lk (putD ds k v) f).isSome=true:=λf K=>by
  rw[yH];split
  ·rfl
  exact K
 refine(?_,?_,?_,?_)
 ·rw[wK];cases e:lk ds k with|none =>refine vw.mpr (h.nd,ad,λa ha b hb=>?_);rw[fy.mp hb];let(p,hp,U):=kf.mp ha;exact EF e p hp|some u=>exact h.nd
 ·intro p hp;have:p.1∈(putD ds k v).map (·.1):=kf.mpr (p,hp,U);rw[wK]at this;split at this
  ·let(q,hq,e):=kf.mp this;rw[<- e];exact h.sub q hq
  obtain z|z:=jn.mp this
  ·let(q,hq,e):=kf.mp z;rw[<- e];exact h.sub q hq
  rw[fy.mp z];exact hk
 ·intro p hp;have z:p.2=v\/p∈ds:=by
   unfold putD at hp;split at hp
   ·let(q,hq,U):=kf.mp hp;split
    ·exact .inl U
    exact .inr hq
   obtain z|z:=jn.mp hp
   ·exact .inr z
   rw[fy.mp z];exact .inl U
  obtain z|z:=z
  ·rw[z];exact(v1,vb)
  have:=h.bd p z;exact(this.1,Y7 this.2 lb)
 intro k' u P;rw[yH]at P;by_cases e:k'=k
 ·rw[if_pos e]at P;cases P;subst e;cases g:lk ds k' with
  |none =>
   have av:v=1+cC ds m.2:=by rw[hv,g];show min (1+cC ds m.2) (1+cC ds m.2)=_;lia
   have:=low m.2 hf;exact(m,hm,λf K=>V f (hf f K),ap)
  |some w =>
   by_cases c:w<=1+cC ds m.2
   ·let(m',Q,K,ak):=h.wt k' w g;have:=low m'.2 K;exact(m',Q,λf TR=>V f (K f TR),by rw[hv,g]at *;show _<=min w _;lia)
   have:=low m.2 hf;exact(m,hm,λf K=>V f (hf f K),by rw[hv,g]at *;show _<=min w _;lia)
 rw[if_neg e]at P;let(m',Q,K,ak):=h.wt k' u P;have:=low m'.2 K;exact(m',Q,λf TR=>V f (K f TR),ap)
theorem jF.len(h:jF ks ds)(g:iI ks):ds.length<=3:=by
 have:=GR h.nd λx hx=>by let(p,hp,U):=kf.mp hx;exact h.sub p hp
 have:=g.k2;simp only[cU]at *;lia
theorem uv{i:Nat}(g:(ks.map (·.1)).Nodup)(h:ks[i]?=Z kd):c6 ks kd.1=kd.2:=by
 refine yE h U λj y z q e=>?_;have h1:(ks.map (·.1))[i]?=Z kd.1:=by rw[fN,h];rfl
 have h2:(ks.map (·.1))[j]?=Z kd.1:=by rw[fN,q,<- e];rfl
 let(l1,P):=jm.mp h1;let(l2,K):=jm.mp h2;exact Zt.mp g j i l2 l1 z (by rw[P,K])
theorem SX(a b:Int):min a b=if b<a then b else a:=by rw[Int.min_def];split <;> split <;> lia
variable{u:Int}
theorem U0{y:T}{n:Int}{Q:T->Prop}(h:y=.i u)(hq:Q (.i (f u n))):qI2 f [y,.i n] Q:=by subst h;exact hq
theorem RI{Q:T->Prop}(h:Q (.i (a+b))):k7 (.i a) (.i b) Q:=h
theorem Lj(ds:Ds):T.imk (ds.map dEn)=true:=by induction ds with|nil=>rfl|cons p r g=>show(_&&_)=O;rw[g];rfl
variable{q:Sq}
theorem Gk{f:Int->Int->Int}{D:dZ}{k:Str}{n v:Int}(h1:q[1]?=Z (.o (dT ds)))(h3:q[3]?=Z (.r (.s k)))(h7:q[7]?=Z (.o (.i n)))(hl:ds.length<mu)(hv:v=f ((lk ds k).getD n) n)(hq:D.nx (q.set 1 (.o (dT (putD ds k v))))):
  CC 1 (aG 3) (qCB (qI2 f) (az (JM (aG 1) (aG 3) (aG 7)) (az (aG 7) bP))) D q:=by
 simp only[CC,qCB,az,bP,JM,aG,h1,h3,h7];refine U0 (u:=(lk ds k).getD n) (by rw[eD];cases lk ds k <;> rfl) (by rw[cU];exact hl,Lj ds,U,?_);rw[JS,<- hv];exact hq
theorem sE{α:Type}(f:α->Bool):∀xs:List α,bls (xs.map λx=>T.b (f x))=Z (xs.map f)
 |[]=>rfl|x::r=>by show(bls (r.map λx=>T.b (f x))).map (f x :: ·)=_;rw[sE f r];rfl
theorem ins_map{α:Type}(f:α->Int):∀xs:List α,ins (xs.map λx=>T.i (f x))=Z (xs.map f)
 |[]=>rfl|x::r=>by show(ins (r.map λx=>T.i (f x))).map (f x :: ·)=_;rw[ins_map f r];rfl
theorem oR{xs:List α}{x:α}(h:xs[i]?=Z x):xs.take (i+1)=xs.take i++[x]:=by rw[p7,h];rfl
theorem EC(h:m∈c6 ks k):∃kd∈ks,kd.1=k/\c6 ks k=kd.2:=by
 unfold c6 at h ⊢;split at h
 ·rename_i x hx;have h2:=ZM hx;exact(x,YG hx,(h2:),U)
 cases h
theorem iI.ma(g:iI ks)(h:m∈c6 ks k):m.2.length<=4/\(∀f∈m.2,f∈ks.map (·.1))/\(c6 ks k).length<=6:=by let(kd,hk,_,e):=EC h;rw[e]at h ⊢;exact((g.fl kd hk m h).1,(g.fl kd hk m h).2,(g.ne kd hk).2)
theorem FY{fs:Γ}{i:Nat}{f:Str}(h:fs[i]?=Z f):cC ds (fs.take (i+1))=cC ds (fs.take i)+(lk ds f).getD 0:=by rw[oR h];simp[cC]
theorem qi(hI:jF ks ds):∀(fs:Γ)(i:Nat),cC ds (fs.take i)<=cC ds fs
 |[],i=>by simp|f::fs,0=>by have:=(hI.sum (f::fs)).1;simpa [cC]using this|f::fs,i+1=>by
  have:=qi hI fs i;unfold cC at *;simp only[List.take_succ_cons,ro,vx];lia
inductive Vl where
 |mk(m:Str)(ps:List Vl)
mutual
def Vl.t:Vl->L2.T
 |.mk m ps=>.t [.s m,.t (Vl.ts ps)]
def Vl.ts:List Vl->ϓ
 |[]=>[]|v::r=>v.t::Vl.ts r
end
mutual
def Vl.ms:Vl->Γ
 |.mk m ps=>m::Vl.mss ps
def Vl.mss:List Vl->Γ
 |[]=>[]|v::r=>v.ms++Vl.mss r
end
theorem Vl.B6:∀ps:List Vl,Vl.ts ps=ps.map Vl.t
 |[]=>rfl|v::r=>by rw[Vl.ts,Vl.B6 r];rfl
theorem Vl.im:∀v:Vl,v.t.im=true:=by
 intro v;refine Vl.rec (motive_2:=λps=>ϙ (Vl.ts ps)=O) (λm ps g=>?_) U (λv r h1 h2=>?_) v
 ·show(O&&(ϙ (Vl.ts ps)&&O))=O;rw[g];rfl
 show(v.t.im&&ϙ (Vl.ts r))=O;rw[h1,h2];rfl
theorem TB(h:∀p∈ps,p.im=O):ϙ ps=true:=by induction ps with|nil=>rfl|cons p r g=>show(_&&_)=O;rw[h p ad,g λq hq=>h q (by simp[hq])];rfl
theorem Vl.ims(ps:List Vl):ϙ (ps.map Vl.t)=true:=TB λt g=>by
 let(v,_,U):=kf.mp g;exact v.im
theorem Vl.rY:∀(xs ys:List Vl),Vl.mss (xs++ys)=Vl.mss xs++Vl.mss ys
 |[],ys=>rfl|v::r,ys=>by rw[Zd,Vl.mss,Vl.mss,Vl.rY r ys,vt]
theorem Vl.EB{m:Str}:∀{ps:List Vl},m∈Vl.mss ps ↔ ∃v∈ps,m∈v.ms
 |[]=>by simp[Vl.mss]|v::r=>by rw[Vl.mss,jn,Vl.EB];simp
def tri:Nat->Nat
 | 0=>0|n+1=>tri n+n
theorem xD(a:Nat):∀b,tri a+tri b<=tri (a+b)
 | 0=>kB _|b+1=>by
  have:=xD a b;show tri a+(tri b+b)<=tri (a+b)+(a+b);lia
theorem Vl.yC:∀ps:List Vl,ps.length <=(Vl.mss ps).length
 |[]=>zt _|.mk m qs::r=>by
  have:=Vl.yC r;rw[Vl.mss,Vl.ms,j3,qf,qf];lia
variable{N:Nat}{fm:Int}{sc':Sc}{os:Ϙ}{o:Option Str}{xs:List (Fn×Ϙ)}{sp:Int}{l:Nat}{ps:List Nat}{kvs:ϑ}{parts:Int}{g:Bool}{fs':ϗ}{b:Ψ}
section
variable{P:Da}{w:Cl}{K:BT}{mg:Υ}{base:Do}{a:Adr}
theorem dq(T:Txt K mg a):bg P w K mg base CX0 1 a.y3 a.LN [We,T0] Iw:=by
 refine T.a6.F.ok rN (λvs H Q E h=>?_) (λcdv A outer s H vs Q E hr h=>?_)
 ·let(d,l,m,U,_):=h;rfl
 let(d,l,m,U,(s0,n0,av,D0),m0,m1,k):=h;have q:=bo hr;refine(_,((bQ (Af PassesOwn.never (PW.pt (JQ (m9 Qn (gK q (pv 0) dO (λ_ _=>rfl)) bX (bB _)) (Ej (m9 Ex (uh oj ba T.cK PySem.boot_len (cn (gK q (pv 0) dO (λ_ _=>rfl)) eB)) bX (bB _)))))
(gJ (rT q (pv 0) dO (Kl PySem.F.plainAttrs_list PySem.F.slot_list_pop PySem.F.type_list_pop KP (gK q (pv 0) dO (λ_ _=>rfl))) U)))
(bQ (jX (i:=2) rN.nd U (Or.inl U) (gK q (pv 0) dO (λ_ _=>rfl)))
(bQ (Qi (m9 Ex (pv 2) bX (bB _))
(bQ (rT q (pv 0) dO (cW Ax (pv 2) (pv 1)) U)
(gJ (t9 (cW i7 (pv 2) (pv 1)))))
Em)
(bQ (jX (i:=3) rN.nd U (Or.inl U) (cW i7 (cW pF (cW mf (gK q (pv 0) dO (λ_ _=>rfl)) bX) bX) bX))
(bQ (rT q (pv 0) dO (cW i7 (cW pF (cW mf (pv 3) bX) bX) bX) U)
(bQ (jX (i:=4) rN.nd U (Or.inl U) (cW i7 (cW mf (gK q (pv 0) dO (λ_ _=>rfl)) (gK q (pv 0) dO (λ_ _=>rfl))) bX))
(gJ (t9 (cW i7 (cW pF (cW mf (cW i7 (cW mf (pv 3) (pv 3)) bX) bX) (pv 4)) (pv 1))))))))))),?_)
 refine FQ (λc σ H1=>∃s n ls,σ=[Z (.ref d),Z (.int m),Y,Y,Y]/\cZ H1 d l s n ls/\Kp d l H H1/\c=ls.length) (s0,n0,av,U,D0,Kp.refl,U) ?_ ?_
 ·rintro c σ H1 ⟨s1,n1,ls,rfl,D,K1,rfl⟩;refine(_,U,d,_,U,D.Wk,?_);refine(_,U,_,_,U,U,_,U,?_);refine aI (λh1=>?_) (λh1=>?_)
  ·have h1:0<n1:=of_decide_eq_true h1;have q0:0<=n1 / m:=Int.ediv_nonneg ap ap;refine(_,U,_,U,_,_,U,U,(m0,m1),_,U,d,_,U,D.Vz,?_);refine(_,U,_,U,_,_,U,U,m0,?_);exact k _ _ (mod_lt m0).1 (mod_lt m0).2 (_,_,_,D.num q0) K1.Rf
  refine(_,U,d,_,U,D.Lx,_,_,U,U,.inr (ac,ac),_,_,U,U,_,_,U,U,(by show(0:Int)<2147483647;decide),?_);have b2:=mod_lt (x:=(s1*48271+7919) % 2147483647*40692+104729) (m:=2147483399) ac;refine(_,U,_,_,U,U,.inr (ac,ac),_,_,U,U,_,_,U,U,(by show(0:Int)<2147483399;decide),_,U,d,_,U,D.Vu,?_);have z:=D.WV (m:=((s1*48271+7919) % 2147483647*40692+104729) % 2147483399) b2.1 ap;refine(_,U,d,_,U,z.Lx,_,U,d,_,U,z.Lx,_,_,U,U,.inl (ap,ap),_,_,U,U,(by show(0:Int)<2147483563;decide),?_);refine(_,U,_,U,_,_,U,U,.inl (ap,ap),_,_,U,U,(by show(0:Int)<2147483629;decide),_,_,U,U,.inr (ac,ac),_,U,_,_,U,U,_,U,_,_,U,U,m0,?_);exact k _ _ (mod_lt m0).1 (mod_lt m0).2 (_,_,_,z) K1.Rf
 rintro c σ H1 ⟨s1,n1,ls,rfl,D,K1,rfl⟩ hx;refine(_,U,d,_,U,D.Wk,U,_,U,?_);refine aI (λh1=>?_) (λh1=>hx);refine(_,U,d,_,U,D.QP,l,_,U,.inl (SqL.of D.hl),_,_,U,U,_,U,?_);refine aI (λh2=>?_) (λh2=>hx);obtain rfl |⟨ls',x,rfl⟩:=Zc ls
 ·simp at h2
 have ar:H1 l=Z (.lst (ls'.map V.int++[.int x])):=(D.hl:);refine(λak H'=>∃s n g,ak=[Z (.ref d),Z (.int m),Y,Y,Y]/\cZ H' d l s n g/\Kp d l H H'/\g.length<(ls'++[x]).length,λak H' (s2,n2,g,e,z,K2,h)=>(g.length,(h:),s2,n2,g,e,z,K2,U),?_);have x0:0<=x:=D.l0 x ad;have z:=D.list (ls':=ls') λy hy=>D.l0 y (by simp[hy]);refine(_,U,d,_,U,D.QP,.inl (U,_,SqL.of ar),l,_,.int x,U,U,ar,ad,?_);rw[ZS];refine(_,U,d,_,U,z.Vz,?_);exact(_,_,ls',U,z.num x0,(K1.WS).Rf,ad)
theorem OG(T:Txt K mg a):bg P w K mg base CX0 1 a.y4 a.LO [SL,Os] (Rw K):=by
 refine T.zA.F.ok mZ (λvs H Q E h=>?_) (λcdv A outer s H vs Q E hr h=>?_)
 ·let(a,ns,b,U,_):=h;rfl
 let(p0,ns,b,U,hS,hlen,b0,b1,k):=h;have hu:=bo hr;refine(_,((bQ (ym (i:=2) mZ.nd U (Or.inl U) U (rX (Am D8 (pv 0) (yo (pv 1)) (yo bX))) (N':=[PP]) (.own U .nil) (λ_ _ _ _ _=>((ni (i:=0) (show([PP]:Γ).Nodup from by decide +kernel) U (Or.inl U)),El,(uh (fq U) ba T.vh bn (cn (pv 0) (cn (cW CL bX (pv 0)) eB))))))
(bQ (jX (i:=3) mZ.nd U (Or.inl U) (cW pF bX (pv 1)))
(bQ (JY PassesOwn.never U (rX (pv 2)) (ni (i:=4) mZ.nd U (Or.inl U))
(gJ (jX (i:=3) mZ.nd U (Or.inl U) (cW i7 (cW pF (cW mf (pv 3) bX) (cW i7 (pv 4) bX)) bX))))
(gJ (t9 (Eo (nc dO (pv 3) (nc dO bX (nc dO (ug U U T.mB U T.my (Ep U (rX (pv 2)) (N':=[PP]) (.own U .nil) (λ_ _ _ _ _=>((ni (i:=0) (show([PP]:Γ).Nodup from by decide +kernel) U (Or.inl U)),(Ek (m9 VH (pv 0) (cW Kv bX bX) (bB _))),(pv 0))))) En))) U U (by intro z;cases z) ac))))))),?_)
 let(cs,aW,lcs):=LU ns (Z b) (Z 63);refine(_,U,_,U,_,U,_,U,p0,_,U,hS,λp hp=>(p,U,(_,SqL.of aA),?_));rw[aW];have s1:mH H (upd H p (.lst (cs.map V.int))):=(mH.refl H).new hp;refine xh (K:=K) (a:=p) (xs:=cs.map V.int) (λi ys g H'=>∃zs:Ψ,ys=zs.map V.int/\(∀z∈zs,0<=z)/\zs.length=i/\(∃o,g=[o])/\H'=upd H p (.lst (cs.map V.int))) ([],U,ad,U,(_,U),U) ?_ ?_ ?_
 ·rintro i ys g H' hi ⟨zs,rfl,_,hz,_,rfl⟩;refine(SqL.of aA,?_);rw[cU]at hi ⊢;exact aD ap
 ·rintro i x ys g H' hi ⟨zs,rfl,z0,hz,⟨o,rfl⟩,rfl⟩;let(c,U):=int_at hi;refine Pe ?_;refine(_,U,_,U,_,_,U,U,_,_,U,?_);refine(zs++[if 0-c > c then 0-c else c],ad,?_,by simp[hz],(_,U),U);intro z ak;obtain h|h:=jn.mp ak
  ·exact z0 z h
  rw[fy.mp h];split <;> lia
 rintro ys g H' ⟨zs,rfl,z0,hz,_,rfl⟩ D hD;have s2:mH H (upd (upd H p (.lst (cs.map V.int))) D (.lst (zs.map V.int))):=s1.new hD;have ar:(upd (upd H p (.lst (cs.map V.int))) D (.lst (zs.map V.int))) D=Z (.lst (zs.map V.int)):=aA;generalize upd (upd H p (.lst (cs.map V.int))) D (.lst (zs.map V.int))=H2 at s2 ar ⊢;refine(_,U,_,_,U,U,?_);refine(_,U,D,U,(_,SqL.of ar),Lz (K:=K) (a:=D) (xs:=zs.map V.int) (λi g H'=>∃(n:Int)(o:Option V),g=[Z (.ref p0),Z (.int b),Z (.ref D),Z (.int n),o]/\0<=n/\n<2147483647/\H2=H')
(_,_,U,ap,ap,U) (λi g H' _ (_,_,_,_,_,e)=>by rw[<- e];exact SqL.of ar) ?_ ?_)
 ·rintro i y g H' hi ⟨n,o,rfl,n0,n1,rfl⟩;let(z,U):=int_at hi;refine(_,U,_,_,U,U,.inr (ac,ac),_,U,_,_,U,U,(by show(0:Int)<2147483629;decide),_,_,U,U,_,_,U,U,(by show(0:Int)<2147483647;decide),?_);exact(_,_,U,(mod_lt ac).1,(mod_lt ac).2,U)
 rintro g H' ⟨n,o,rfl,n0,aQ,rfl⟩;intro pd av;have TV:(upd H2 pd (.dK [])) D=Z (.lst (zs.map V.int)):=by rw[au (bj ar av)];exact ar
 have s3:mH H (upd H2 pd (.dK [])):=s2.new av;have TK:(upd H2 pd (.dK [])) pd=Z (.dK []):=aA;have aP:H pd=none:=s2.free av;generalize upd H2 pd (.dK [])=H3 at TV s3 TK ⊢;refine(_,U,_,U,D,U,(_,SqL.of TV),xh (K:=K) (a:=D) (xs:=zs.map V.int) (λi ys g H'=>∃ws:Ψ,ys=ws.map V.int/\(∀z∈ws,0<=z)/\ws.length<=i/\(∃o,g=[o])/\H3=H') ([],U,ad,kB _,(_,U),U) ?_ ?_ ?_)
 ·rintro i ys g H' hi ⟨ws,rfl,_,ak,_,rfl⟩;refine(SqL.of TV,?_);rw[cU]at hi ⊢;rw[cU]at hz;exact aD ap
 ·rintro i x ys g H' hi ⟨ws,rfl,w0,ak,⟨o,rfl⟩,rfl⟩;let(c,U,hc):=O6 hi;refine(_,U,_,_,U,U,(ac,ac,ac),_,_,U,U,_,U,?_);refine aI (λh1=>?_) (λh1=>?_)
  ·refine(_,U,ws++[c],ad,?_,by simp;lia,(_,U),U);intro z ak;obtain h|h:=jn.mp ak
   ·exact w0 z h
   rw[fy.mp h];exact z0 c hc
  exact(ws,U,w0,ap,(_,U),U)
 rintro ys g H' ⟨ws,rfl,w0,ak,_,rfl⟩ D2 ay;refine(D2,_,U,SqL.of aA,λq hq=>?_);have n1:pd≠D2:=bj TK ay;have e1:(upd H3 D2 (.lst (ws.map V.int))) pd=Z (.dK []):=by rw[au n1];exact TK
 have n2:pd≠q:=bj e1 hq;have s4:mH H (upd (upd H3 D2 (.lst (ws.map V.int))) q (.lst ((ws.map V.int).reverse))):=(s3.new ay).new hq;refine(by rw[au n2];exact e1,[(.inr "seed",.int n),(.inr "number",.int 0),(.inr "left",.ref q)],U,(by show 3<=15;decide),?_);refine k pd q _ aP ((s3.new ay).free hq) (n,0,ws.reverse,aA,?_,n0,aQ,DG _,?_) ?_
 ·rw[au n2.symm,aA,List.map_reverse]
 ·intro x hx;exact w0 x (hx:)
 intro c o hc;have:c≠pd:=bj hc aP;rw[au this];exact s4 c o hc
theorem nC(T:Txt K mg a):bg P w K mg base CX0 1 a.gS a.qK ["kinds","kind"] (spQ K J5):=by
 exists T.kK,iU,hu,(ag (bc (g:=(Tg.tp [2,3])) PassesOwn.never U (fh (XL (qv 0))) (cM (aZ 2 iU.nd) (aZ 3 iU.nd))
(ai (aR (bO hu (qv 2) (qv 1))
(ai (aE (XL (qv 3))))
aF)))
(ai (aE (aq aj)))),λts Q h=>?_
 let(ks,k,U,hq):=h;refine(jc ks,λi q=>(∃o2 o3,q=[.r (tKs ks),.r (.s k),o2,o3])/\∀(j:Nat)(y:Kd),j<i->ks[j]?=Z y->y.1≠k,((_,_,U),λj y hj=>absurd hj (Nat.not_lt_zero _)),?_,?_)
 ·rintro i x q hx ⟨⟨o2,o3,rfl⟩,ak⟩;rw[fN]at hx;let(kk,hk,U):=gV.mp hx;refine(_,U,?_);refine(U,?_);refine aI (λg1=>?_) (λg1=>?_)
  ·refine(mq _,?_);rw[yE hk (V.str.inj (of_decide_eq_true g1)) ak]at hq;exact hq
  refine((_,_,U),λj y hj hy=>?_);by_cases e:j=i
  ·subst e;rw[hk]at hy;cases hy;exact λz=>g1 (decide_eq_true (congrArg V.str z))
  exact ak j y ap hy
 rintro q ⟨⟨o2,o3,rfl⟩,ak⟩;rw[OO λj y hy=>ak j y (by have:=(jm.mp hy).1;simp;omega) hy]at hq;exact hq
theorem Kx(T:Txt K mg a):bg P w K mg base CX0 2 a.sg a.E7 [We,T0] (spQ K NW):=by
 have aQ:=fj (@dq P w K mg base a T);exists T.FI,cw,hu,(ag (aB 2 cw.nd aK)
(ag (aB 3 cw.nd (NJ (ZB aK) (ZB (bI U (pj U T.fZ (ae (ZB (aJ aQ hr T.a6 (ae (qv 0) (ae ah aw)))) aw)) (N':=[Ps,"_law_letters",We]) (.own U (.got (i:=2) U U (.inl U) (.got (i:=0) U U (.inl U) .nil))) (bA (g:=(Tg.nm 0)) (λ_ _ _ _ _=>((cb 0),(XL (ao (qv 1) (ZB (aJ aQ hr T.a6 (ae (qv 2) (ae ah aw)))))))))))))
(ag (aB 4 cw.nd (aJ aQ hr T.a6 (ae (qv 0) (ae (ZB (aS (ZB (bW T.cK (ae (qv 3) aw))) ah)) aw))))
(ag (aB 5 cw.nd (aJ aQ hr T.a6 (ae (qv 0) (ae ah aw))))
(ag (aB 6 cw.nd (aO aj))
(ag (bc (g:=(Tg.nm 7)) PassesOwn.never U (gc U T.fZ (ae (qv 1) aw)) (aZ 7 cw.nd)
(ag (aB 8 cw.nd (XL (ao (qv 2) (ZB (JB (ZB (aS (qv 5) (ZB (bJ ah (qv 7))))) ah)))))
(ag (aB 9 cw.nd (aS (ZB (aS (ZB (aS (ZB (aS (ZB (gi (qv 3) kO (gH (qv 4)))) (qv 8))) (ZB (gi (qv 3) (gH (qv 4)) kO)))) (ZB (bJ (ZB aK) (ZB (JB (qv 7) ah)))))) (ZB (bJ (ZB aK) (ZB (Eg (qv 7) ah))))))
(ag (aR (bE (yx U) tw U (qv 9) (ZB (aq (m8 ba))))
(ai (aB 9 cw.nd (aS (qv 9) (ZB aK))))
aF)
(ag (aR (bE (yx U) tw U (qv 9) (ZB (aq (m8 ba))))
(ai (aB 9 cw.nd (aS (qv 9) (ZB aK))))
aF)
(ai (bq (i:=6) (pv 6) (XL (qv 9)))))))))
(ag (aB 10 cw.nd (aO (m8 ba)))
(ag (aB 10 cw.nd (aS (qv 10) (ZB (aO (m8 ba)))))
(ag (aB 9 cw.nd (XL (ao (qv 10) (ZB (aJ aQ hr T.a6 (ae (qv 0) (ae ah aw)))))))
(ag (aR (QPW.pt (Cy (bO hu (ZB (aJ aQ hr T.a6 (ae (qv 0) (ae ah aw)))) ah) (x9 (bE (GG U) tw U (qv 9) (qv 6)))))
(ai (yb (i:=6) (pv 6) (ZB (aJ aQ hr T.a6 (ae (qv 0) (ae (qv 1) aw)))) (qv 9)))
aF)
(ai (dm (i:=6) (pv 6))))))))))))),λts Q h=>?_
 let(m,U,m0,m1,hq):=h;refine(ac,ac,λn n0 n1=>(ap,ap,aD (by rw[eh];lia),λi ys=>∃cs:List Nat,ys=cs.map (λc=>.s ⟨#[c]⟩)/\cs.length=i,([],U,U),?_,?_))
 ·rintro i x ys hx ⟨cs,rfl,hc⟩;let(U,hi):=jS hx;refine(_,U,ac,ac,λr r0 r1=>(bi,_,EG r0 r1,U,?_));exact(cs++[uy r.toNat],ad,by simp[hc])
 rintro ys ⟨cs,rfl,hc⟩;rw[eh]at hc;have e2:((cs.map (λc=>(⟨#[c]⟩:Str))).map (·.length)).sum=cs.length:=by clear hc;induction cs with|nil=>rfl|cons c cs ih=>simp only[ro,vx,qf,ih,show(⟨#[c]⟩:Str).length=1 from rfl];lia
 refine(cs.map (λc=>(⟨#[c]⟩:Str)),?_,?_,?_)
 ·rw[<- MS,tr];rfl
 ·rw[e2,show(Str.ofString "").length=0 from by decide +kernel];lia
 have z:=PySem.size_glued (Str.ofString "") (cs.map (λc=>(⟨#[c]⟩:Str)));rw[e2,show(Str.ofString "").length=0 from by decide +kernel]at z;have lz:(Txt.join (Str.ofString "") (cs.map (λc=>(⟨#[c]⟩:Str)))).length<=5:=by show(Builtin.Str.glued _ _).length<=5;lia
 generalize Txt.join (Str.ofString "") (cs.map (λc=>(⟨#[c]⟩:Str)))=core at lz ⊢;refine(bF ap,ap,ap,λat_ a0 a1=>(ac,ac,λtn t0 t1=>?_));have av:(Txt.slice core Y (Z at_)).length<=5:=sF (Txt.slice_le _ _ _) lz;have ar:(Txt.slice core (Z at_) Y).length<=5:=sF (Txt.slice_le _ _ _) lz;have lx:(Str.ofString "x").length=1:=bi;have ly:(Str.ofString "y").length=1:=bi;have lq:(Str.ofString "q").length=1:=bi;refine(ap,ap,λi q=>(Ea4 λo7 o8 o9 L=>q=[.r .cz,.r (.i m),.o (.s yI),.o (.s core),.o (.i at_),.o (.i tn),.o (.l L),o7,o8,o9,.no]/\L=((Fs i).map (wordOf kept (Txt.slice core Y (Z at_)) (Txt.slice core (Z at_) Y) tn.toNat)).map .s),(_,_,_,_,U,U),?_,?_)
 ·rintro i x q hx ⟨o7,o8,o9,L,rfl,rfl⟩;let(U,hi):=jS hx;have hi:i<52:=ap;have e1:∀c:Nat,(⟨#[c]⟩:Str).length=1:=λ_=>rfl;have eL:uy (((tn+7*(0+(i:Int))) % 26).toNat)=uy (tn.toNat+7*i):=by
   have ht:tn+7*(0+(i:Int))=((tn.toNat+7*i:Nat):Int):=by rw[YA,Int.natCast_add,ZL,Xy t0];rfl
   rw[ht];show 97+(tn.toNat+7*i) % 26 % 26=97+(tn.toNat+7*i) % 26;rw[Nat.mod_mod]
  have r1:=iB "x" ((0+(i:Int)) % 2).toNat;have r2:=iB "y" ((0+(i:Int)) / 26).toNat;replace r1:(jB "x" ((0+(i:Int)) % 2).toNat).length<=1:=by rw[r1,lx,YA];exact(show i % 2*1<=1 from by rw[Nat.mul_one];exact Za (Z3 i ac))
  replace r2:(jB "y" ((0+(i:Int)) / 26).toNat).length<=1:=by rw[r2,ly,YA];exact(show i / 26*1<=1 from by rw[Nat.mul_one];exact Za (Nat.div_lt_of_lt_mul hi))
  refine(_,U,.inl (ap,ap),(by show(0:Int)<26;decide),bi,_,EG (mod_lt ac).1 (mod_lt ac).2,U,?_);refine(bF ap,bF (by rw[e1];lia),bF ap,bF (by rw[Str.length_append,e1];lia),(by show(0:Int)<2;decide),ap,ap,ap,bF (by rw[Str.length_append,Str.length_append,e1];lia),(ac,ac),ap,ap,ap,bF (by rw[Str.length_append,Str.length_append,Str.length_append,e1];lia),?_);have eW:Txt.slice core Y (Z at_)++⟨#[uy (((tn+7*(0+(i:Int))) % 26).toNat)]⟩++Txt.slice core (Z at_) Y++jB "x" ((0+(i:Int)) % 2).toNat++jB "y" ((0+(i:Int)) / 26).toNat=dX (Txt.slice core Y (Z at_)) (Txt.slice core (Z at_) Y) tn.toNat i:=by unfold dX;rw[eL,show((0+(i:Int)) % 2).toNat=i % 2 from by rw[YA];rfl,show((0+(i:Int)) / 26).toNat=i / 26 from by rw[YA];rfl]
  have lW:=xo (Txt.slice core Y (Z at_)) (Txt.slice core (Z at_) Y) tn.toNat i;rw[eW];have snoc:∀z:Str,z=wordOf kept (Txt.slice core Y (Z at_)) (Txt.slice core (Z at_) Y) tn.toNat i ->
    ((Fs i).map (wordOf kept (Txt.slice core Y (Z at_)) (Txt.slice core (Z at_) Y) tn.toNat)).map Ϛ++[Ϛ z]=((Fs (i+1)).map (wordOf kept (Txt.slice core Y (Z at_)) (Txt.slice core (Z at_) Y) tn.toNat)).map Ϛ:=λz hz=>by
   subst hz;rw[ZN];simp
  have ln:(((Fs i).map (wordOf kept (Txt.slice core Y (Z at_)) (Txt.slice core (Z at_) Y) tn.toNat)).map Ϛ).length<mu:=aD (by simp;lia);refine(ba,aI (λg1=>?_) (λg1=>?_))
  ·have g1:inV (.str (dX (Txt.slice core Y (Z at_)) (Txt.slice core (Z at_) Y) tn.toNat i)) (AW.map V.str)=true:=by rw[<- eJ];exact g1
   refine(bF (by rw[lq];lia),ba,aI (λg2=>?_) (λ_=>?_))
   ·have g2:inT (.s (dX (Txt.slice core Y (Z at_)) (Txt.slice core (Z at_) Y) tn.toNat i++("q":Str))) (lF.map Ϛ)=true:=g2;rw[eJ,SS]at g2;cases g2
   exact(ln,U,_,_,_,_,U,snoc (dX (Txt.slice core Y (Z at_)) (Txt.slice core (Z at_) Y) tn.toNat i++("q":Str)) (by unfold wordOf;rw[mh,g1,Bool.true_or,if_pos rfl]))
  have g1:inV (.str (dX (Txt.slice core Y (Z at_)) (Txt.slice core (Z at_) Y) tn.toNat i)) (AW.map V.str)=false:=by cases e:inV (.str (dX (Txt.slice core Y (Z at_)) (Txt.slice core (Z at_) Y) tn.toNat i)) (AW.map V.str)with|false=>rfl|true=>rw[<- eJ]at e;exact absurd e g1
  refine(ba,aI (λg2=>?_) (λg2=>?_))
  ·have g2:inV (.str (dX (Txt.slice core Y (Z at_)) (Txt.slice core (Z at_) Y) tn.toNat i)) (lF.map V.str)=true:=by rw[<- eJ];exact g2
   exact(bF (by rw[lq];lia),ln,U,_,_,_,_,U,snoc (dX (Txt.slice core Y (Z at_)) (Txt.slice core (Z at_) Y) tn.toNat i++("q":Str)) (by unfold wordOf;rw[mh,g1,g2,ZZ,if_pos rfl]))
  have g2:inV (.str (dX (Txt.slice core Y (Z at_)) (Txt.slice core (Z at_) Y) tn.toNat i)) (lF.map V.str)=false:=by cases e:inV (.str (dX (Txt.slice core Y (Z at_)) (Txt.slice core (Z at_) Y) tn.toNat i)) (lF.map V.str)with|false=>rfl|true=>rw[<- eJ]at e;exact absurd e g2
  exact(ln,U,_,_,_,_,U,snoc (dX (Txt.slice core Y (Z at_)) (Txt.slice core (Z at_) Y) tn.toNat i) (by unfold wordOf;rw[mh,g1,g2,ZZ,if_neg ac,Str.append_empty]))
 rintro q ⟨o7,o8,o9,L,rfl,rfl⟩;rw[eh];have nd:((Fs m.toNat).map (wordOf kept (Txt.slice core Y (Z at_)) (Txt.slice core (Z at_) Y) tn.toNat)).Nodup:=nodup_range λi j hi hj aP=>FP ap ap aP;have wl:∀w∈(Fs m.toNat).map (wordOf kept (Txt.slice core Y (Z at_)) (Txt.slice core (Z at_) Y) tn.toNat),1<=w.length/\w.length<=20:=λw hw=>by
  let(i,hi,U):=kf.mp hw;exact BW av ar (by have:=YL.mp hi;lia)
 have ll:((Fs m.toNat).map (wordOf kept (Txt.slice core Y (Z at_)) (Txt.slice core (Z at_) Y) tn.toNat)).length=m.toNat:=by simp
 generalize(Fs m.toNat).map (wordOf kept (Txt.slice core Y (Z at_)) (Txt.slice core (Z at_) Y) tn.toNat)=ws at nd wl ll;refine(bF ac,ba,ba,ac,ac,λr r0 r1=>?_);let(wd,ew,hm):=Pw (ws:=near) r0 r1;refine(_,ew,U,ac,ac,λr3 _ _=>(U,?_));have done:Q (.l (ws.map .s)):=hq ws ap nd wl;refine aI (λ_=>?_) (λ_=>Xs done);refine(by rw[uQ];rfl,aI (λh2=>?_) (λ_=>done));have ay:wd ∉ ws:=O7 (by rw[<- eJ];simpa using h2);refine(m0,ap,λr4 ak aW=>(r4.toNat,?_,aX ws,U,?_))
 ·unfold ixN;rw[if_pos ak,if_pos (by rw[cU];lia)]
 have z:=hq (ws.set r4.toNat wd) (by rw[Ye];lia) (GQ nd ay) λw hw=>by
  obtain z|z:=YF hw
  ·exact wl w z
  rw[z];exact KL wd hm
 rw[aa1]at z;exact z
theorem KA(T:Txt K mg a):bg P w K mg base CX0 2 a.sy a.Fe [We,Su] (spQ K N2):=by
 have aQ:=fj (@dq P w K mg base a T);exists T.FJ,cG,hu,(ag (aB 2 cG.nd (aJ aQ hr T.a6 (ae (qv 0) (ae ah aw))))
(ag (RO (i:=3) (j:=4) U cG.nd U U ac U U (ao (qv 1) ah) (ao (qv 1) ah) U)
(ag (aB 5 cG.nd (aS (ZB (gi (qv 1) (gH ah) kO)) (ZB (gi (qv 1) kO (gH ah)))))
(ag (aR (bO hu (qv 2) ah)
(ai (aE (aq (af (aq (af (XL (qv 3)) (af (aq (af (aq (af (XL (ao (qv 5) ah)) (af (aq aj) aj))) (af (aq (af (XL (ao (qv 5) ah)) (af (aq (af (XL (qv 3)) aj)) aj))) aj))) aj))) aj))))
aF)
(ag (aR (bO hu (qv 2) ah)
(ai (aE (aq (af (aq (af (XL (qv 3)) (af (aq (af (aq (af (XL (ao (qv 5) ah)) (af (aq aj) aj))) (af (aq (af (XL (ao (qv 5) ah)) (af (aq (af (XL (qv 3)) aj)) aj))) (af (aq (af (XL (ao (qv 5) ah)) (af (aq (af (XL (qv 3)) aj)) aj))) aj)))) aj))) aj))))
aF)
(ag (aR (bO hu (qv 2) ah)
(ai (aE (aq (af (aq (af (XL (qv 3)) (af (aq (af (aq (af (XL (ao (qv 5) ah)) (af (aq aj) aj))) (af (aq (af (XL (ao (qv 5) ah)) (af (aq aj) aj))) aj))) aj))) (af (aq (af (XL (qv 4)) (af (aq (af (aq (af (XL (ao (qv 5) ah)) (af (aq aj) aj))) (af (aq (af (XL (ao (qv 5) ah)) (af (aq (af (XL (qv 3)) (af (XL (qv 4)) aj))) aj))) aj))) aj))) aj)))))
aF)
(ag (aR (bO hu (qv 2) ah)
(ai (aE (aq (af (aq (af (XL (qv 3)) (af (aq (af (aq (af (XL (ao (qv 5) ah)) (af (aq aj) aj))) (af (aq (af (XL (ao (qv 5) ah)) (af (aq (af (XL (qv 3)) (af (XL (qv 3)) aj))) aj))) aj))) aj))) aj))))
aF)
(ag (aR (bO hu (qv 2) ah)
(ai (aE (aq (af (aq (af (XL (qv 3)) (af (aq (af (aq (af (XL (ao (qv 5) ah)) (af (aq aj) aj))) (af (aq (af (XL (ao (qv 5) ah)) (af (aq (af (XL (qv 4)) aj)) aj))) aj))) aj))) (af (aq (af (XL (qv 4)) (af (aq (af (aq (af (XL (ao (qv 5) ah)) (af (aq (af (XL (qv 3)) aj)) aj))) aj)) aj))) aj)))))
aF)
(ag (aB 6 cG.nd (aO aj))
(ag (aB 7 cG.nd (aS ah (ZB (aJ aQ hr T.a6 (ae (qv 0) (ae ah aw))))))
(ag (aB 8 cG.nd bw)
(ag (bc (g:=(Tg.nm 9)) PassesOwn.never U (gc U T.fZ (ae (qv 7) aw)) (aZ 9 cG.nd)
(ag (aB 10 cG.nd (aO aj))
(ag (bc (g:=(Tg.nm 11)) PassesOwn.never U (gc U T.fZ (ae (ZB (aS ah (ZB (aJ aQ hr T.a6 (ae (qv 0) (ae (ZB (i3 (aO (af bw (af bw aj))) (ZB (aL iG mV ba T.Bq bn (ae (ZB (jV (yy hu U) rL (bB _) (qv 7) ah)) aw))))) aw)))))) aw)) (aZ 11 cG.nd)
(ag (aB 12 cG.nd (bJ (ZB (aJ aQ hr T.a6 (ae (qv 0) (ae (ZB (i3 (aO (af bw (af bw (af bw aj)))) (ZB (aJ aQ hr T.a6 (ae (qv 0) (ae ah aw)))))) aw)))) (ZB (aL iG mV ba T.Bq bn (ae (ZB (jV Ex (oV (g':=λi j=>.b (decide (j<i))) λ_ _ _ _=>.b _) (bB _) (ZB (aS (qv 9) (qv 11))) ah)) aw)))))
(ag (dF (i:=13) cG.nd U (Or.inl U) U (pj U T.fZ (ae (qv 12) aw)) (N':=["_law_i",Su,We,T0]) (.own U (.got (i:=1) U U (.inl U) (.got (i:=0) U U (.inl U) (.got (i:=7) U U (.inl U) .nil)))) (bA (g:=(Tg.nm 0)) (λ_ _ _ _ _=>((cb 0),(XL (ao (qv 1) (ZB (aJ aQ hr T.a6 (ae (qv 2) (ae (qv 3) aw))))))))))
(ag (bq (i:=10) (pv 10) (aq (af (XL (ao (qv 5) (qv 8))) (af (aL (bN U) b7 ba T.cE bn (ae (qv 13) aw)) aj))))
(ai (aB 8 cG.nd (aS (qv 8) ah)))))))
(ai (bq (i:=6) (pv 6) (aq (af (XL (ao (qv 1) (qv 9))) (af (aL (bN U) b7 ba T.cE bn (ae (qv 10) aw)) aj))))))))
(ai (aE (aL (bN U) b7 ba T.cE bn (ae (qv 6) aw)))))))))))))))),λts Q h=>?_
 let(ws,U,hl,a0,hq):=h;obtain⟨x0,V,wr,rfl⟩:∃x0 V wr,ws=x0::V::wr:=by
  cases ws with
  |nil=>cases hl
  |cons x0 r=>cases r with
   |nil=>cases hl
   |cons V wr=>exact(x0,V,wr,U)
 have bT:atI ((x0::V::wr).map Ϛ) 0=Z (.s x0):=gq (j:=0) U;have bD:atI ((x0::V::wr).map Ϛ) 1=Z (.s V):=gq (j:=1) U;refine(ac,ac,λfm f0 f1=>(_,bT,U,_,bD,U,aX _,aX _,?_));have hM:((x0::V::wr).drop 4++(x0::V::wr).take 4).Nodup:=Gg a0;have lM:((x0::V::wr).drop 4++(x0::V::wr).take 4).length=40:=by rw[j3,Yr,qr];lia
 refine(bF (by have:=congrArg HH (Wv hl);rw[j3,cU]at this;lia),EL _ _ _,EL _ _ _,?_);rw[Wv hl];have aW:∀x∈(x0::V::wr).drop 4++(x0::V::wr).take 4,x∈x0::V::wr:=λx hx=>(jn.mp hx).elim List.mem_of_mem_drop QH;generalize(x0::V::wr).drop 4++(x0::V::wr).take 4=M at hM lM aW;obtain⟨m0,m1,m2,m3,mr,rfl⟩:∃m0 m1 m2 m3 mr,M=m0::m1::m2::m3::mr:=by match M,lM with|m0::m1::m2::m3::mr,_=>exact(m0,m1,m2,m3,mr,U)
 have t0:atI ((m0::m1::m2::m3::mr).map Ϛ) 0=Z (.s m0):=gq (j:=0) U;have t1:atI ((m0::m1::m2::m3::mr).map Ϛ) 1=Z (.s m1):=gq (j:=1) U;have t2:atI ((m0::m1::m2::m3::mr).map Ϛ) 2=Z (.s m2):=gq (j:=2) U;have t3:atI ((m0::m1::m2::m3::mr).map Ϛ) 3=Z (.s m3):=gq (j:=3) U;have bt:3 <=(x0::V::wr).length:=ap;have ay:∀(ks:ϖ)(n made:Nat),vn (x0::V::wr) (m0::m1::m2::m3::mr) n ks n made->1<=n->n<=3->Q (tKs ks):=λks n made D n1 n3=>hq ks (D.good a0 hM n1 n3 bt) λx hx=>aW x (QH (D.mn▸hx));have a1:x0∈(x0::V::wr).take 1:=j0;have a2:x0∈(x0::V::wr).take 2:=j0;have b2:V∈(x0::V::wr).take 2:=j5 _ j0;refine(U,aI (λ_=>?_) (λ_=>?_))
 ·refine(U,_,t0,U,_,t1,U,U,?_);exact ay [(x0,[(m0,[]),(m1,[x0])])] 1 2 (U,U,ac,all1 (YC _ _,leK 2 6),all1 (all2 (leK 0 4,Dx) (leK 1 4,all1 a1))) ac ac
 refine(U,aI (λ_=>?_) (λ_=>?_))
 ·refine(U,_,t0,U,_,t1,U,U,_,t2,U,U,?_);exact ay [(x0,[(m0,[]),(m1,[x0]),(m2,[x0])])] 1 3 (U,U,ac,all1 (YC _ _,leK 3 6),all1 (X6 (leK 0 4,Dx) (leK 1 4,all1 a1) (leK 1 4,all1 a1))) ac ac
 refine(U,aI (λ_=>?_) (λ_=>?_))
 ·refine(U,_,t0,U,_,t1,U,U,_,t2,U,_,t3,U,U,U,?_);exact ay [(x0,[(m0,[]),(m1,[])]),(V,[(m2,[]),(m3,[x0,V])])] 2 4 (U,U,ac,all2 (YC _ _,leK 2 6) (YC _ _,leK 2 6),all2 (all2 (leK 0 4,Dx) (leK 0 4,Dx)) (all2 (leK 0 4,Dx) (leK 2 4,all2 a2 b2))) ac ac
 refine(U,aI (λ_=>?_) (λ_=>?_))
 ·refine(U,_,t0,U,_,t1,U,U,U,?_);exact ay [(x0,[(m0,[]),(m1,[x0,x0])])] 1 2 (U,U,ac,all1 (YC _ _,leK 2 6),all1 (all2 (leK 0 4,Dx) (leK 2 4,all2 a1 a1))) ac ac
 refine(U,aI (λ_=>?_) (λ_=>?_))
 ·refine(U,_,t0,U,_,t1,U,U,U,_,t2,U,U,?_);exact ay [(x0,[(m0,[]),(m1,[V])]),(V,[(m2,[x0])])] 2 3 (U,U,ac,all2 (YC _ _,leK 2 6) (YC _ _,leK 1 6),all2 (all2 (leK 0 4,Dx) (leK 1 4,all1 b2)) (all1 (leK 1 4,all1 a2))) ac ac
 clear t0 t1 t2 t3 bT bD ay a1 a2 b2 bt;generalize df:m0::m1::m2::m3::mr=M at hM lM aW ⊢;generalize dd:x0::V::wr=ws at a0 hl aW hq ⊢;refine(ac,ac,λr2 c5 c4=>?_);refine(ap,ap,λi q=>Ea8 λks made L o9 a3 av ar ak=>q=[.r .cz,.r (.l (ws.map .s)),.o (.i fm),.o (.s x0),.o (.s V),.o (.l (M.map .s)),.o (.l L),.o (.i (1+r2)),.o (.i (made:Nat)),o9,a3,av,ar,ak]/\L=ks.map tK/\vn ws M (1+r2).toNat ks i made,
([],0,_,_,_,_,_,_,U,U,(U,U,kB _,nofun,nofun)),?_,?_)
 ·rintro i x q hx ⟨ks,made,L,o9,a3,av,ar,ak,rfl,rfl,D⟩;let(U,hi):=jS hx;have cX:=D.b1;have da:ks.length=i:=by have:=congrArg HH D.nm;rw[cU,qr,Mi ap]at this;exact this
  have bp:i<ws.length:=ap;refine(_,U,U,_,VC 3 6 _,?_,?_,λr5 c3 cK=>?_)
  ·split <;> decide
  ·split <;> decide
  have c2:r5<6:=by split at cK <;> lia
  refine(ap,ap,λj q=>Ea6 λms gm L' av ar ak=>q=[.r .cz,.r (.l (ws.map .s)),.o (.i fm),.o (.s x0),.o (.s V),.o (.l (M.map .s)),.o (.l (ks.map tK)),.o (.i (1+r2)),.o (.i (gm:Nat)),.r (.i (0+(i:Nat))),.o (.l L'),av,ar,ak]/\L'=ms.map tM/\ms.length=j/\gm=made+j/\M.take made++ms.map (·.1)=M.take gm/\(∀m∈ms,m.2.length<=4/\∀f∈m.2,f∈ws.take (1+r2).toNat),
([],made,_,_,_,_,U,U,U,U,ad,nofun),?_,?_)
  ·rintro j x q hx ⟨ms,gm,L',av,ar,ak,rfl,rfl,aP,bh,a4,a5⟩;let(U,hj):=jS hx;refine(_,U,ac,ac,λr6 cA ct=>?_);let(v,ev,hv):=Qk (x:=3) (y:=3) (z:=5) cA ct;refine(_,ev,ap,ap,λr7 c1 c0=>?_);refine(.inl (ap,ap),?_);have cP:∀b:Bool,0<=r7*(if b=O then 1 else 0)/\r7*(if b=O then 1 else 0)<=4:=λb=>by cases b <;> simp <;> lia
   let(w0,w4):=cP (decide (0<0+(i:Int)+(0+(j:Int))));generalize dc:r7*(if decide (0<0+(i:Int)+(0+(j:Int)))=O then 1 else 0)=wide at w0 w4 ⊢;refine(ap,ap,aD (by rw[eh];lia),λp ys=>∃fs:Γ,ys=fs.map .s/\fs.length=p/\∀f∈fs,f∈ws.take (1+r2).toNat,([],U,U,nofun),?_,?_)
   ·rintro p x ys hx ⟨fs,rfl,lf,hf⟩;let(U,hp):=jS hx;refine(_,U,ap,ap,λr8 cq b0=>?_);have h8:r8.toNat<ws.length:=ap;have e8:atI (ws.map Ϛ) r8=Z (.s ws[r8.toNat]):=by
     have:=gq (ws:=ws) (j:=r8.toNat) (w:=ws[r8.toNat]) (by simp[h8])
     rwa [Xy cq]at this
    refine(_,e8,U,fs++[ws[r8.toNat]],ad,by simp[lf],λf cV=>?_);obtain h|h:=jn.mp cV
    ·exact hf f h
    rw[fy.mp h];exact List.mem_take_iff_getElem.mpr (r8.toNat,Nat.lt_min.mpr ((Int.toNat_lt_toNat ap).mpr b0,h8),U)
   rintro ys ⟨fs,rfl,lf,hf⟩;rw[eh]at lf;have cR:i<=2:=Za (ui hi (aa0.mpr (show 1+r2<=3 by omega)));have cQ:j<=5:=Za (ui hj (aa0.mpr (show 1+r5<=6 by omega)));have QM:gm<M.length:=by rw[bh,lM];exact YD (Nat.add_le_add (sF cX (Nat.mul_le_mul_left 6 cR)) cQ) ac
   have em:atI (M.map Ϛ) ((gm:Nat):Int)=Z (.s M[gm]):=gq (by simp[QM]);refine(aD (by rw[cU];lia),_,em,U,aX _,?_);refine(ms++[(M[gm],fs)],gm+1,_,_,_,_,U,by simp[tM],by simp[aP],ap,?_,λm hm=>?_)
   ·rw[ky,<- vt,a4];exact take_one (by simp[QM])
   obtain h|h:=jn.mp hm
   ·exact a5 m h
   rw[fy.mp h];exact(by show fs.length<=4;lia,hf)
  rintro q ⟨ms,gm,L',av,ar,ak,rfl,rfl,aP,bh,a4,a5⟩;rw[eh]at aP bh;have ei:atI (ws.map Ϛ) (0+((i:Nat):Int))=Z (.s ws[i]):=by rw[YA];exact gq (by simp[bp])
  refine(aD (by rw[cU];lia),_,ei,U,aV EN _,?_);refine(ks++[(ws[i],ms)],gm,_,_,_,_,_,_,U,by simp[tK,tMs],D.next (by simp[bp]) a4 (λz=>?_) ap ap a5);rw[z]at aP;simp at aP;lia
 rintro q ⟨ks,made,L,o9,a3,av,ar,ak,rfl,rfl,D⟩;rw[eh]at D;refine(aV wY _,?_);exact hq ks (D.good a0 hM ap ap ap) λx hx=>aW x (QH (D.mn▸hx))
theorem EA(T:Txt K mg a):bg P w K mg base CX0 2 a.y2 a.LM [We,W1,Rs] (spQ K CG):=by
 exists T.vH,rM,hu,(ag (aB 3 rM.nd (aO aj))
(ag (bc (g:=(Tg.nm 4)) PassesOwn.never U (Jw (i:=2) (pv 2)) (aZ 4 rM.nd)
(ag (dF (i:=5) rM.nd U (Or.inl U) U (fU (qv 1)) (N':=[NE,Tu,Tl]) (.own U (.own U (.got (i:=4) U U (.inl U) .nil))) (yh (g:=(Tg.tp [0,1])) (λ_ _ _ _ _=>((cM (cb 0) (cb 1)),(bO hu (qv 1) (qv 2)),(XL (qv 0))))))
(ag (aR (bO hu (qv 5) (ZB (aO aj)))
(ai (aE cu))
aF)
(ai (bq (i:=3) (pv 3) (XL (ao (qv 5) (ZB (bK (fq U) lR ba T.vh bn (ae (ZB (aJ (fj (dq T)) hr T.a6 (ae (qv 0) (ae (ZB (bW T.cK (ae (qv 5) aw))) aw)))) (ae (ZB (aJ (fj (dq T)) hr T.a6 (ae (qv 0) (ae (ZB (bW T.cK (ae (qv 5) aw))) aw)))) aw)))))))))))
(ai (aE (aL (bN U) b7 ba T.cE bn (ae (qv 3) aw)))))),λts Q h=>?_
 let(sc,fs,t,ht,U,aQ,a0,hn,hq):=h;obtain rfl|rfl:=ht;all_goals
  refine(λi q=>Ea4 λns o4 o5 L=>q=[.r .cz,.r (.l (sc.map tP)),.r _,.o (.l L),o4,o5]/\L=ns.map .s/\Fills sc ns (fs.take i),([],_,_,_,U,U,U,cc),?_,?_)
  ·rintro i x q hx ⟨ns,o4,o5,L,rfl,rfl,hF⟩;rw[fN]at hx;let(f,hf,U):=gV.mp hx;have aW:i<fs.length:=(jm.mp hf).1;refine(_,U,aD (by rw[cU];lia),λk ys=>∃os:Γ,ys=os.map .s/\os.length<=k/\∀n∈os,(n,f)∈sc,([],U,kB _,cc),?_,?_)
   ·rintro k x ys hx ⟨os,rfl,lo,ho⟩;rw[fN]at hx;let(p,hp,U):=gV.mp hx;refine(_,U,U,aI (λe=>(U,os++[p.1],ad,by simp;lia,λn hn=>?_)) (λ_=>(os,U,ap,ho)));obtain h|h:=jn.mp hn
    ·exact ho n h
    rw[fy.mp h];have e':(Ϛ p.2).v=(Ϛ f).v:=(e:);have e2:p.2=f:=V.str.inj e';rw[<- e2];exact g5 hp
   rintro ys ⟨os,rfl,lo,ho⟩;rw[cU]at lo;refine(by rw[uQ];rfl,aI (λ_=>hn) (λav=>?_));have l0:0<os.length:=by cases os with|nil=>exact absurd U av|cons _ _=>simp
   have ln:ns.length=i:=by rw[hF.1,qr];lia
   have ak:((os.map Ϛ).length:Int)=os.length:=by rw[cU]
   refine(aD (by rw[cU];lia),by rw[ak];lia,by rw[ak];lia,λr r0 r1=>(by rw[ak];lia,by rw[ak];lia,λr' aP ar=>?_));rw[ak]at r1 ar;have hm:∃m:Int,(if r' > r then r' else r)=m/\0<=m/\m<os.length:=(_,U,by split <;> lia,by split <;> lia);let(m,em,m0,m1):=hm;have ay:m.toNat<os.length:=ap;refine(.s os[m.toNat],(by show atI (os.map Ϛ) (if r' > r then r' else r)=_;rw[em];exact Ua m0 ay),U,ns++[os[m.toNat]],_,_,_,U,ad,?_);rw[<- take_one hf];exact hF.snoc (ho _ (P1 _))
  rintro q ⟨ns,o4,o5,L,rfl,rfl,hF⟩;rw[cU,ox]at hF;exact(aX _,hq ns hF)
theorem KC(T:Txt K mg a):bg P w K mg base CX0 3 a.sA a.Ff [We,TW,W1,Tl,WP] (spQ K rW):=by
 exists T.zz,dB,hu,(ag (ya (g:=(Tg.tp [5,6,7])) (i:=1) (pv 1) (i6 (K:=K) (n:=3) U U (bG (aZ 5 dB.nd) (bG (aZ 6 dB.nd) (bG (aZ 7 dB.nd) i5)))))
(ag (aB 8 dB.nd (aJ (EA T) hr T.vH (ae (qv 0) (ae (qv 2) (ae (ZB (aO (af (XL (qv 3)) aj))) aw)))))
(ag (aR (bE nt jJ (bB _) (qv 8) (ZB cu))
(ai (aE (aq (af aK (af (XL (ao (qv 8) ah)) aj)))))
aF)
(ag (aB 9 dB.nd (XL (ao (qv 7) (ZB (bW T.cK (ae (qv 2) aw))))))
(ag (bc (g:=(Tg.tp [10,11])) PassesOwn.never U (fh (XL (cN (ZB (aL (cB U) c9 ba T.eZ bn (ae (qv 5) aw))) (qv 3)))) (cM (aZ 10 dB.nd) (aZ 11 dB.nd))
(ag (aB 12 dB.nd (aJ (EA T) hr T.vH (ae (qv 0) (ae (qv 2) (ae (qv 11) aw)))))
(ai (aR (bE nt jJ (bB _) (qv 12) (ZB cu))
(ai (aE (aq (af aK (af (XL (qv 9)) (af (XL (qv 10)) (af (XL (qv 12)) (af (aq (af aK (af (XL (qv 9)) aj))) aj))))))))
aF))))
(ag (aB 12 dB.nd (aL (bN U) b7 ba T.cE bn (ae (ZB (bI U (fU (ZB (gi (qv 2) kO (gH (ZB (bW T.cK (ae (ao (ao (qv 6) (qv 4)) ah) aw))))))) (N':=[NE,Tu]) (.own U (.own U .nil)) (bA (g:=(Tg.tp [0,1])) (λ_ _ _ _ _=>((cM (cb 0) (cb 1)),(XL (qv 0))))))) aw)))
(ai (aE (aq (af aK (af (XL (qv 9)) (af (XL (ao (ao (qv 6) (qv 4)) ah)) (af (XL (qv 12)) (af (aq (af aK (af (XL (qv 9)) aj))) aj)))))))))))))),λts Q hh=>?_
 let(ks,hs,ws,sc,f,h,U,W,hf,S,hq):=hh;have Pa:h∈hs:=g5 hf;let(a3,a0,aW,aP):=W.hp h Pa;have ef:atI (hs.map tH) (f:Int)=Z (tH h):=br (by rw[fN,hf];rfl);have ay:sc.length<ws.length:=by have:=S.ln;have:=W.wl;omega
 have ex:atI (ws.map Ϛ) ((sc.map tP).length:Int)=Z (.s ws[sc.length]):=by rw[cU];exact gq (dQ ay)
 have fx:ws[sc.length] ∉ sc.map (·.1):=S.fresh W.wn (dQ ay);generalize ws[sc.length]=x at ex fx;refine(_,U,U,sc,[h.2.2],_,.inr U,U,by have:=S.ln;omega,by show 1<=1000;decide,?_,λns hF=>?_)
 ·let(kd,av,ek):=Qs aP;refine(_,ex,U,aV wY ks,_,nk ks,_,pN W.gk.nd aP,mq _,λi q=>Ea3 λar ak V=>q=[.r .cz,.r (tW ks hs ws),.r (.l (sc.map tP)),.r (.s h.2.2),.r (.i f),.r (tKs ks),.r (.l (hs.map tH)),.r (.l (ws.map .s)),.o .n,.o (.s x),ar,ak,V],(_,_,_,U),?_,?_)
  ·rintro i t q hx ⟨ar,ak,V,rfl⟩;rw[fN]at hx;let(m,hm,U):=gV.mp hx;have aQ:m∈kd.2:=by rw[<- AL W.gk.nd av,ek];exact g5 hm
   refine(_,U,sc,m.2,_,.inl U,U,by have:=S.ln;omega,by have:=(W.gk.fl kd av m aQ).1;omega,(_,_,_,U),λns hF=>?_);refine(U,U,aX _,U,hq 2 _ ac (.make av aQ hF fx (.give ?_)) (nW uW (kB _)));rw[ek];simp
  rintro q ⟨ar,ak,V,rfl⟩;have ec:gD (sc.map tP) Y (Z ((h.2.1.map tP).length:Int))=h.2.1.map tP:=by rw[cU,LS (by rw[cU];exact S.p1),<- Zf,S.pf]
  refine(_,ef,_,U,aV eO _,?_);rw[ec];refine(aD (by rw[cU];omega),λi ys=>ys=((h.2.1.take i).map (·.1)).map .s,U,?_,?_)
  ·rintro i t ys hx rfl;rw[fN]at hx;let(p,hp,U):=gV.mp hx;refine(_,U,U,?_);show _++[Ϛ p.1]=_;rw[p7,hp];simp
  rintro ys rfl;rw[cU,ox];refine(aX _,U,_,ef,_,U,U,aX _,U,hq 2 _ ac (.call Pa ?_ fx (.give ad)) (nW uW (kB _)));have z:=Fills.self (sc:=sc) (n:=h.2.1.length)
  rwa [S.pf]at z
 obtain⟨n,rfl⟩:∃n,ns=[n]:=by match ns,hF.1 with|[n],_=>exact(n,U)
 exact(_,U,U,hq 1 _ ac (.give (hF.2 (n,h.2.2) ad)) uW)
theorem OH(T:Txt K mg a)(N:Nat)(jo:bg P w K mg base CX0 (2*N+3) a.uS a.Dp [We,TW,W1,WP,WF] (spQ K (md N))):bg P w K mg base CX0 (2*N+4) a.y7 a.LP [We,TW,W1,WP,WF] (spQ K (Sw N)):=by
 exists T.Mx,dE,hu,(ag (ya (g:=(Tg.tp [5,6,7])) (i:=1) (pv 1) (i6 (K:=K) (n:=3) U U (bG (aZ 5 dE.nd) (bG (aZ 6 dE.nd) (bG (aZ 7 dE.nd) i5)))))
(ag (l5 (g:=(Tg.tp [8,9])) (ao (qv 2) (ZB (bK (fq U) lR ba T.vh bn (ae (ZB (aJ (fj (dq T)) hr T.a6 (ae (qv 0) (ae (ZB (bW T.cK (ae (qv 2) aw))) aw)))) (ae (ZB (aJ (fj (dq T)) hr T.a6 (ae (qv 0) (ae (ZB (bW T.cK (ae (qv 2) aw))) aw)))) aw))))) (cM (aZ 8 dE.nd) (aZ 9 dE.nd)))
(ag (aB 10 dE.nd (XL (cN (ZB (aL (cB U) c9 ba T.eZ bn (ae (qv 5) aw))) (qv 9))))
(ag (zX (i:=4) (pv 4) (pv 4) (ZB (bW T.cK (ae (qv 10) aw))))
(ag (aB 11 dE.nd (aO aj))
(ag (bc (g:=(Tg.tp [12,13])) PassesOwn.never U (fh (XL (qv 10))) (cM (aZ 12 dE.nd) (aZ 13 dE.nd))
(ag (dF (i:=14) dE.nd U (Or.inl U) U (yd U T.bh bn (ae (qv 13) aw)) (N':=[Ps,Q4,Su,W1]) (.own U (.own U (.got (i:=7) U U (.inl U) (.got (i:=2) U U (.inl U) .nil)))) (bA (g:=(Tg.tp [0,1])) (λ_ _ _ _ _=>((cM (cb 0) (cb 1)),(aq (af (XL (ao (qv 2) (ZB (aS (ZB (bW T.cK (ae (qv 3) aw))) (qv 0))))) (af (XL (qv 1)) aj)))))))
(ag (aB 15 dE.nd (aL (bN U) b7 ba T.cE bn (ae (ZB (bI U (fU (qv 14)) (N':=[NE,Q4]) (.own U (.own U .nil)) (bA (g:=(Tg.tp [0,1])) (λ_ _ _ _ _=>((cM (cb 0) (cb 1)),(XL (qv 0))))))) aw)))
(ai (bq (i:=11) (pv 11) (aq (af (XL (qv 12)) (af (XL (qv 15)) (af (aJ jo hr T.mM (ae (qv 0) (ae (qv 1) (ae (ZB (aS (qv 2) (qv 14))) (ae (qv 3) (ae (qv 4) aw)))))) aj)))))))))
(ai (aE (aq (af aK (af (XL (qv 8)) (af (aL (bN U) b7 ba T.cE bn (ae (qv 11) aw)) aj)))))))))))),λts Q hh=>?_
 let(ks,hs,ws,sc,f,h,u,U,W,hf,S,hl,bt,bT,hq):=hh;have l0:0<sc.length:=Yb.mpr bt;have V:((sc.map tP).length:Int)=sc.length:=by rw[cU]
 refine(_,U,by rw[V];lia,by rw[V];lia,λr r0 r1=>(by rw[V];lia,by rw[V];lia,λr' a3 aQ=>?_));rw[V]at r1 aQ;let(m0,m1):=max_two r0 r1 a3 aQ;let((x,k),hx,ex):=hJ (f:=tP) m0 m1;refine(tP (x,k),ex,U,_,U,?_);let(kd,ak,ek):=Qs (S.kd _ hx);obtain rfl:kd.1=k:=ek;have em:=AL W.gk.nd ak;refine(aV wY ks,_,nk ks,tMs kd.2,by rw[pN W.gk.nd (S.kd _ hx),em],mq _,Yn _,?_);let(ne1,a4):=W.gk.ne kd ak;have bp:1<=kd.2.length:=Yb.mpr ne1;have a5:((kd.2.map tM).length:Int)=kd.2.length:=by rw[cU]
 have wl:=W.wl;have e1:(u-((kd.2.map tM).length:Int)).toNat=u.toNat-kd.2.length:=by rw[a5];lia
 generalize u-((kd.2.map tM).length:Int)=u' at e1 ⊢;refine(mq kd.2,λi q=>Ea6 λarms L aP ay av ar=>q=[.r .cz,.r (tW ks hs ws),.r (.l (sc.map tP)),.r (.i f),.r (.rm u'),.r (tKs ks),.r (.l (hs.map tH)),.r (.l (ws.map .s)),.r (.s x),.r (.s kd.1),.o (tMs kd.2),.o (.l L),aP,ay,av,ar]/\L=arms.map tA/\wA ks hs h.2.2 sc (sz u'.toNat) (3*u'.toNat+2) arms (kd.2.take i),
([],_,_,_,_,_,U,U,(U,λi a m h1=>by simp at h1)),?_,?_)
 ·rintro i t q hx ⟨arms,L,aP,ay,av,ar,rfl,rfl,hA⟩;rw[fN]at hx;let(m,hm,U):=gV.mp hx;let(cA,bD):=W.gk.fl kd ak m (g5 hm);have ct:i<kd.2.length:=(jm.mp hm).1;have lA:arms.length=i:=by rw[hA.ln,qr];lia
  let(ln,aW,S'):=S.more (ns:=(ws.drop sc.length).take m.2.length) W.wn U ap ap bD;refine(_,U,aD (by rw[aU,cU];lia),λj ys=>ys=(((ws.drop sc.length).take j).zip (m.2.take j)).map tP,U,?_,?_)
  ·rintro j y ys hy rfl;let(z,hz,U):=bM hy;rw[fN]at hz;let(g,hg,U):=gV.mp hz;have cq:j<m.2.length:=(jm.mp hg).1;have a0:sc.length+j<ws.length:=ap;have ew:atI (ws.map Ϛ) (((sc.map tP).length:Int)+(j:Nat))=Z (.s ws[sc.length+j]):=by rw[cU];exact gq (j:=sc.length+j) (dQ a0)
   refine(_,U,_,ew,U,U,?_);show _++[tP (ws[sc.length+j],g)]=_;rw[HL (a:=ws[sc.length+j]) (by rw[List.getElem?_drop,dQ a0]) hg,ky];rfl
  rintro ys rfl;rw[show(gx (m.2.map Ϛ)).length=m.2.length by rw[aU,cU],ox];generalize b0:(ws.drop sc.length).take m.2.length=ns at ln aW S' ⊢;refine(aD (by rw[cU,QX];lia),λj ys=>ys=(((ns.zip m.2).take j).map (·.1)).map .s,U,?_,?_)
  ·rintro j y ys hy rfl;rw[fN]at hy;let(p,hp,U):=gV.mp hy;refine(_,U,U,?_);show _++[Ϛ p.1]=_;rw[p7,hp];simp
  rintro ys rfl;rw[show((ns.zip m.2).map tP).length=(ns.zip m.2).length by rw[cU],ox,DK ln];refine(aX _,aD (by rw[cU];lia),U,aX _,bF (by rw[cU,cU,QX];lia),aV eO _,aV eO _,ks,hs,ws,sc++ns.zip m.2,f,h,_,by rw[ky],W,hf,S',by rw[j3,QX];lia,ap,λn b hn hb dd=>?_);refine(arms++[(m.1,ns,b,n)],_,_,_,_,_,U,by simp[tA],?_);rw[p7,hm];exact hA.snoc (U,ln,aW,hb,hn,dd)
 rintro q ⟨arms,L,aP,ay,av,ar,rfl,rfl,hA⟩;rw[cU,ox]at hA;let(hS,hle):=hA.snd hx ak;refine(U,hA.im,hq _ _ ?_ hS ((hA.dep ap).mono ap));rw[hA.ln,e1]at hle;have:=MW (n:=u.toNat) bp a4;lia
def qMk(N:Nat):QS:=jD (JH (Tg.tp [17,18]) (qOp qIx (aG 5) (cH j4 (az (aG 0) (az (qCB Gp (az (aG 5) bP)) bP)))))
 (jD (JH (Tg.tp [19,20]) (qOp qIx (aG 18) (cH j4 (az (aG 0) (az (qCB Gp (az (aG 18) bP)) bP)))))
(jD (iw 16 (cH CG (az (aG 0) (az (aG 2) (az (aG 20) bP)))))
(jD (Ac (jW (qOp (Gq ϊ) (aG 16) (qC .n))) (λD q=>cH rW (az (aG 0) (az (aG 1) (az (aG 2) (az (aG 8) (az (aG 3) bP))))) q D.rt) t7)
λD q=>jC (az (qC (.s (Str.ofString "make"))) (az (qIm (aG 10)) (az (qIm (aG 19)) (az (qIm (aG 16)) (az (cH (md N) (az (aG 0) (az (aG 1) (az (qOp k7 (aG 2) (NN (az (jC (az (qIm (aG 10)) (az (qIm (aG 17)) bP))) bP))) (az (aG 3) (az (aG 4) bP)))))) bP))))) q D.rt)))
def qCl(N:Nat):QS:=jD (Ac (jW (qOp CD (aG 9) (qC (.i 6))))
(jD (iw 15 (cH j4 (az (aG 0) (az (qCB Gp (az (aG 6) bP)) bP))))
(jD (iw 16 (cH CG (az (aG 0) (az (aG 2) (az (Ad [Y] (asT (qOp qIx (qOp qIx (aG 6) (aG 15)) (qC (.i 1)))) (Tg.nm 0) JI (qIm (qOp qIx (aG 0) (qC (.i 1))))) bP)))))
(Ac (jW (qOp (Gq O) (aG 16) (qC .n))) (λD q=>jC (az (qC (.s (Str.ofString "call"))) (az (qIm (aG 10)) (az (qIm (qOp qIx (qOp qIx (aG 6) (aG 15)) (qC (.i 0)))) (az (qIm (aG 16)) (az (cH (md N) (az (aG 0) (az (aG 1) (az (qOp k7 (aG 2) (NN (az (jC (az (qIm (aG 10)) (az (qIm (qOp qIx (qOp qIx (aG 6) (aG 15)) (qC (.i 2)))) bP))) bP))) (az (aG 3) (az (aG 4) bP)))))) bP))))) q D.rt) t7))) t7) (qMk N)
def qNm(N:Nat):QS:=jD (JH (Tg.tp [13,14]) (qOp qIx (aG 2) (cH j4 (az (aG 0) (az (qCB Gp (az (aG 2) bP)) bP)))))
 λD q=>jC (az (qC (.s (Str.ofString "name"))) (az (qIm (aG 10)) (az (qIm (aG 13)) (az (cH (md N) (az (aG 0) (az (aG 1) (az (qOp k7 (aG 2) (NN (az (jC (az (qIm (aG 10)) (az (qIm (aG 14)) bP))) bP))) (az (aG 3) (az (aG 4) bP)))))) bP)))) q D.rt
structure FN(N ώ D:Nat)(ks:ϖ)(hs:List Hd)(ws:Γ)(sc:Sc)(f:Nat)(h:Hd)(u:Int)(x:Str)(Q:ϕ):Prop where
 W:Wld ks hs ws
 kd:∀p∈sc,p.2∈ks.map (·.1)
 l16:sc.length<=16
 fx:x ∉ sc.map (·.1)
 hE:rW [.cz,tW ks hs ws,.l (sc.map tP),.s h.2.2,.i f] Q
 go:∀{k:Str},k∈ks.map (·.1)->∀{Q':ϕ},(∀n b,n<=ώ->Snd ks hs h.2.2 n (sc++[Prod.mk x k]) b->Dep D b->Q' b)->md N [.cz,tW ks hs ws,.l (sc.map tP++[tP (x,k)]),.i f,.rm u] Q'
 hq:∀n b,n<=ώ+1->Snd ks hs h.2.2 n sc b->Dep (D+1) b->Q b
 d1:1<=D
theorem Ed{ks:ϖ}{f:Nat}{h:Hd}{Q:ϕ}(C:FN N ώ D ks hs ws sc f h u x Q)(a3 a0 aW aQ aP ay av ar ak V:Sl):
  qMk N {nx:=λ_=>Q .n,rt:=Q} [.r .cz,.r (tW ks hs ws),.r (.l (sc.map tP)),.r (.i f),.r (.rm u),.r (tKs ks),.r (.l (hs.map tH)),.r (.l (ws.map .s)),.o (.s h.2.2),.o (.i fm),.o (.s x),a3,a0,aW,aQ,aP,ay,av,ar,ak,V]:=by
 let(W,a5,h3,fx,hE,go,hq,d1):=C;have lk:((ks.map tK).length)=ks.length:=by rw[cU]
 have k1:=W.gk.k1;have k2:=W.gk.k2;refine(ap,ap,λr6 P z=>?_);rw[lk]at z;let(kd,g,ek):=hJ P z;let(ne1,a4):=W.gk.ne kd g;have lm:((kd.2.map tM).length)=kd.2.length:=by rw[cU]
 have l1:=Yb.mpr ne1;refine(_,ek,wY kd,_,U,ap,ap,λr7 K q=>?_);rw[lm]at q;let(m,hm,em):=hJ K q;refine(_,em,EN m,_,U,sc,m.2,_,.inl U,U,ap,by have:=(W.gk.fl kd g m hm).1;lia,hE,λns hF=>?_);refine(U,U,aX _,U,U,bF (by rw[cU];show sc.length+1<=10000;lia),aV eO _,U,?_);exact go (kf.mpr (kd,g,U)) λn b hn hb dd=>hq (n+1) _ ap (.make g hm hF fx hb) (nW dd d1)
theorem Nu{ks:ϖ}{f:Nat}{h:Hd}{Q:ϕ}{nx:Sq->Prop}(C:FN N ώ D ks hs ws sc f h u x Q)(a3:sc ≠ [])(aW aQ aP ay av ar ak V P K:Sl):
  qNm N {nx:=nx,rt:=Q} [.r .cz,.r (tW ks hs ws),.r (.l (sc.map tP)),.r (.i f),.r (.rm u),.r (tKs ks),.r (.l (hs.map tH)),.r (.l (ws.map .s)),.o (.s h.2.2),.o (.i fm),.o (.s x),aW,aQ,aP,ay,av,ar,ak,V,P,K]:=by
 let(W,a0,h3,fx,hE,go,hq,d1):=C;have g:((sc.map tP).length)=sc.length:=by rw[cU]
 have l0:=Yb.mpr a3;refine(by rw[g];lia,by rw[g];lia,λr5 z q=>?_);rw[g]at q;let((y,k),hy,ey):=hJ z q;refine(_,ey,U,_,U,U,U,U,U,bF (by rw[cU];show sc.length+1<=10000;lia),aV eO _,U,?_);exact go (a0 _ hy) λn b hn hb dd=>hq (n+1) _ ap (.name hy fx hb) (LG dd)
theorem Nx{ks:ϖ}{f:Nat}{h:Hd}{Q:ϕ}(C:FN N ώ D ks hs ws sc f h u x Q)(aQ aP ay av ar ak V P K z:Sl):
  qCl N {nx:=λ_=>Q .n,rt:=Q} [.r .cz,.r (tW ks hs ws),.r (.l (sc.map tP)),.r (.i f),.r (.rm u),.r (tKs ks),.r (.l (hs.map tH)),.r (.l (ws.map .s)),.o (.s h.2.2),.o (.i fm),.o (.s x),aQ,aP,ay,av,ar,ak,V,P,K,z]:=by
 let(W,aW,h3,fx,hE,go,hq,d1):=id C;refine(U,aI (λ_=>?_) (λ_=>Ed C _ _ _ _ _ _ _ _ _ _));have lh:((hs.map tH).length)=hs.length:=by rw[cU]
 have a3:=W.h1;have a0:=W.h8;refine(ap,ap,λg g0 g1=>?_);rw[lh]at g1;let(hd,q,eg):=hJ g0 g1;let(q1,q2,q3,q4):=W.hp hd q;refine(_,eg,_,U,aD (by rw[cU];lia),λi ys=>ys=((hd.2.1.take i).map (·.2)).map .s,U,?_,?_)
 ·rintro i t ys ht rfl;rw[fN]at ht;let(p,hp,U):=gV.mp ht;refine(_,U,_,U,U,?_);rw[p7,hp];simp
 rintro ys rfl;rw[show(hd.2.1.map tP).length=hd.2.1.length by rw[cU],ox];refine(sc,hd.2.1.map (·.2),_,.inr U,U,ap,by rw[cU];lia,Ed C _ _ _ _ _ _ _ _ _ _,λns hF=>?_);refine(U,_,eg,_,U,U,aX _,U,_,eg,_,U,U,bF (by rw[cU];show sc.length+1<=10000;lia),aV eO _,U,?_);exact go q4 λn b hn hb dd=>hq (n+1) _ ap (.call q hF fx hb) (nW dd d1)
theorem VB{r:Int}(h0:0<=r)(h1:r<3):∃w:Str,atI [Ϛ "pay",Ϛ "pay",Ϛ "get"] r=Z (.s w)/\(w="pay" \/ w="get"):=by obtain⟨n,rfl⟩:∃n:Nat,r=n:=(r.toNat,ap);match n,h1 with| 0,_=>exact(_,U,.inl U)| 1,_=>exact(_,U,.inl U)| 2,_=>exact(_,U,.inr U)|n+3,h=>lia
theorem OI(T:Txt K mg a)(N:Nat):bg P w K mg base CX0 (2*N+3) a.uS a.Dp [We,TW,W1,WP,WF] (spQ K (md N)):=by
 induction N with
 |zero =>refine never λts Q hh=>?_;let(ks,hs,ws,sc,f,h,u,U,W,hf,S,hl,a0,hq):=hh;omega|succ N jo =>
  have Uw:=OH T N jo;have V:=fj (@dq P w K mg base a T);exists T.mM,cm,hu,(ag (ya (g:=(Tg.tp [5,6,7])) (i:=1) (pv 1) (i6 (K:=K) (n:=3) U U (bG (aZ 5 cm.nd) (bG (aZ 6 cm.nd) (bG (aZ 7 cm.nd) i5)))))
(ag (aB 8 cm.nd (XL (ao (ao (qv 6) (qv 3)) ah)))
(ag (aB 9 cm.nd (aJ V hr T.a6 (ae (qv 0) (ae ah aw))))
(ag (aR (QPW.pt (Ee (tX (NG (qv 4) ah) ah) (Ee (bO hu (qv 9) ah) (Js (Ju (ZB (bW T.cK (ae (qv 2) aw))) ah)))))
(ai (aE (aJ (KC T) hr T.zz (ae (qv 0) (ae (qv 1) (ae (qv 2) (ae (qv 8) (ae (qv 3) aw))))))))
aF)
(ag (zX (i:=4) (pv 4) (pv 4) ah)
(ag (aB 10 cm.nd (XL (ao (qv 7) (ZB (bW T.cK (ae (qv 2) aw))))))
(ag (aR (tX (qv 9) ah)
(ag (aB 11 cm.nd (aS ah (ZB (aJ V hr T.a6 (ae (qv 0) (ae (ZB (i3 (aO (af bw (af bw (af bw aj)))) (ZB (aJ V hr T.a6 (ae (qv 0) (ae ah aw)))))) aw))))))
(ag (aB 12 cm.nd (i3 (aO (m8 ba)) (ZB (aJ V hr T.a6 (ae (qv 0) (ae ah aw))))))
(ai (aE (aq (af (XL (qv 12)) (af (XL (qv 11)) (af (aJ jo hr T.mM (ae (qv 0) (ae (qv 1) (ae (qv 2) (ae (qv 3) (ae (qv 4) aw)))))) aj))))))))
aF)
(ag (aR (QPW.pt (Cy (tX (qv 9) ah) (x9 (bE (Av hu U) wH (bB _) (qv 2) (ZB (aO aj))))))
(ai (aE (aJ Uw hr T.Mx (ae (qv 0) (ae (qv 1) (ae (qv 2) (ae (qv 3) (ae (qv 4) aw))))))))
aF)
(ag (aR (QPW.pt (Cy (bO hu (qv 9) ah) (x9 (bE (Av hu U) wH (bB _) (qv 2) (ZB (aO aj))))))
(ag (l5 (g:=(Tg.tp [13,14])) (ao (qv 2) (ZB (aJ V hr T.a6 (ae (qv 0) (ae (ZB (bW T.cK (ae (qv 2) aw))) aw))))) (cM (aZ 13 cm.nd) (aZ 14 cm.nd)))
(ai (aE (aq (af aK (af (XL (qv 10)) (af (XL (qv 13)) (af (aJ jo hr T.mM (ae (qv 0) (ae (qv 1) (ae (ZB (aS (qv 2) (ZB (aO (af (aq (af (XL (qv 10)) (af (XL (qv 14)) aj))) aj))))) (ae (qv 3) (ae (qv 4) aw)))))) aj))))))))
aF)
(ag (aR (bO hu (qv 9) ah)
(ag (aB 15 cm.nd (aJ V hr T.a6 (ae (qv 0) (ae (ZB (bW T.cK (ae (qv 6) aw))) aw))))
(ag (aB 16 cm.nd (aJ (EA T) hr T.vH (ae (qv 0) (ae (qv 2) (ae (ZB (bI U (dM (ao (ao (qv 6) (qv 15)) ah)) (N':=["_law_param"]) (.own U .nil) (bA (g:=(Tg.nm 0)) (λ_ _ _ _ _=>((cb 0),(XL (ao (qv 0) ah))))))) aw)))))
(ai (aR (bE nt jJ (bB _) (qv 16) (ZB cu))
(ai (aE (aq (af aK (af (XL (qv 10)) (af (XL (ao (ao (qv 6) (qv 15)) ah)) (af (XL (qv 16)) (af (aJ jo hr T.mM (ae (qv 0) (ae (qv 1) (ae (ZB (aS (qv 2) (ZB (aO (af (aq (af (XL (qv 10)) (af (XL (ao (ao (qv 6) (qv 15)) ah)) aj))) aj))))) (ae (qv 3) (ae (qv 4) aw)))))) aj))))))))
aF))))
aF)
(ag (l5 (g:=(Tg.tp [17,18])) (ao (qv 5) (ZB (aJ V hr T.a6 (ae (qv 0) (ae (ZB (bW T.cK (ae (qv 5) aw))) aw))))) (cM (aZ 17 cm.nd) (aZ 18 cm.nd)))
(ag (l5 (g:=(Tg.tp [19,20])) (ao (qv 18) (ZB (aJ V hr T.a6 (ae (qv 0) (ae (ZB (bW T.cK (ae (qv 18) aw))) aw))))) (cM (aZ 19 cm.nd) (aZ 20 cm.nd)))
(ag (aB 16 cm.nd (aJ (EA T) hr T.vH (ae (qv 0) (ae (qv 2) (ae (qv 20) aw)))))
(ag (aR (bE pE kM (bB _) (qv 16) (ZB cu))
(ai (aE (aJ (KC T) hr T.zz (ae (qv 0) (ae (qv 1) (ae (qv 2) (ae (qv 8) (ae (qv 3) aw))))))))
aF)
(ai (aE (aq (af aK (af (XL (qv 10)) (af (XL (qv 19)) (af (XL (qv 16)) (af (aJ jo hr T.mM (ae (qv 0) (ae (qv 1) (ae (ZB (aS (qv 2) (ZB (aO (af (aq (af (XL (qv 10)) (af (XL (qv 17)) aj))) aj))))) (ae (qv 3) (ae (qv 4) aw)))))) aj)))))))))))))))))))))),λts Q hh=>?_
  let(ks,hs,ws,sc,f,h,u,U,W,hf,S,hl,a0,hq):=hh;have ef:atI (hs.map tH) (f:Int)=Z (tH h):=br (by rw[fN,hf];rfl);have hE:rW [.cz,tW ks hs ws,.l (sc.map tP),.s h.2.2,.i f] Q:=(ks,hs,ws,sc,f,h,U,W,hf,S,λn b hn hb dd=>hq n b (sF hn (Iu _)) hb (dd.mono ap));have aW:((sc.map tP).length:Int)=sc.length:=by rw[cU]
  have wl:=W.wl;have ak:sc.length<ws.length:=ap;have ex:atI (ws.map Ϛ) ((sc.map tP).length:Int)=Z (.s ws[sc.length]):=by rw[cU];exact gq (dQ ak)
  have hx:ws[sc.length]?=Z ws[sc.length]:=dQ ak;have fx:ws[sc.length] ∉ sc.map (·.1):=S.fresh W.wn hx;generalize ws[sc.length]=x at ex fx hx;refine(_,U,_,ef,_,U,U,ac,ac,λfm f0 f1=>(U,λr a5=>aI (λ_=>hE) (λh1=>(U,aI (λ_=>hE) (λ_=>aI (λ_=>hE) (λh3=>?_))))));have h1:¬ r<1:=λz=>h1 (decide_eq_true z);have h3:sc.length<=16:=by have h3:¬(16:Int)<((sc.map tP).length:Int):=λz=>h3 (decide_eq_true z);rw[aW]at h3;omega
  have u1:u.toNat=(u-1).toNat+1:=ap;have uN:(u-1).toNat<N:=ap;have s1:=Cb (u-1).toNat;rw[<- u1]at s1;have go:∀{k:Str},k∈ks.map (·.1)->∀{Q':ϕ},(∀n b,n<=sz (u-1).toNat->Snd ks hs h.2.2 n (sc++[Prod.mk x k]) b->Dep (3*(u-1).toNat+2) b->Q' b)->md N [.cz,tW ks hs ws,.l (sc.map tP++[tP (x,k)]),.i f,.rm (u-1)] Q':=λ{k} hk {Q'} hQ =>
   (ks,hs,ws,sc++[(x,k)],f,h,u-1,by rw[ky];rfl,W,hf,S.snoc hx ap hk,by rw[j3];simp;omega,uN,hQ)
  have C:FN N (sz (u-1).toNat) (3*(u-1).toNat+2) ks hs ws sc f h (u-1) x Q:=(W,S.kd,h3,fx,hE,go,λn b hn hb dd=>hq n b ap hb (dd.mono ap),ap);refine(ac,_,ex,U,aI (λ_=>?_) (λ_=>?_))
  ·refine(ac,ac,λr2 aP ay=>?_);let(v2,a3,a4):=Qk (x:=3) (y:=9) (z:=1000) aP ay;refine(_,a3,ap,ap,λc c0 c1=>(ac,ac,λr4 av ar=>?_));let(wd,ew,hw):=VB av ar;refine(_,ew,U,U,ks,hs,ws,sc,f,h,u-1,U,W,hf,S,hl,uN,λn b hn hb dd=>hq (n+1) _ ap (.cY hw ap hb) ((Hj dd).mono ap))
  refine(λrest=>aI (λ_=>aI (λq=>?_) (λ_=>rest)) (λ_=>rest)) ?_
  ·have Lq:sc ≠ []:=λz=>by rw[z]at q;exact absurd q ac
   exact(ks,hs,ws,sc,f,h,u-1,U,W,hf,S,ap,Lq,uN,λn b hn hb dd=>hq n b (by rw[u1];exact hn) hb (dd.mono ap))
  refine(λrest=>(U,aI (λ_=>aI (λq=>Nu C (λz=>by rw[z]at q;exact absurd q ac) _ _ _ _ _ _ _ _ _ _) (λ_=>rest)) (λ_=>rest))) ?_;exact Nx C _ _ _ _ _ _ _ _ _ _
theorem CO(T:Txt K mg a):bg P w K mg base CX0 66 a.kU a.xb [We,Re,WF] (spQ K Gw):=by
 have aQ:=fj (@dq P w K mg base a T);exists T.xu,b9,hu,(ag (aB 3 b9.nd (aJ (Kx T) hr T.FI (ae (qv 0) (ae ah aw))))
(ag (aB 4 b9.nd (aJ (KA T) hr T.FJ (ae (qv 0) (ae (qv 3) aw))))
(ag (aB 5 b9.nd (aO aj))
(ag (aB 6 b9.nd (bJ ah (ZB (aJ aQ hr T.a6 (ae (qv 0) (ae ah aw))))))
(ag (bc (g:=(Tg.nm 7)) PassesOwn.never U (gc U T.fZ (ae (ZB (aS ah (ZB (aJ aQ hr T.a6 (ae (qv 0) (ae (qv 1) aw)))))) aw)) (aZ 7 b9.nd)
(ag (aB 8 b9.nd (i3 (aO (af bw (af bw (af bw (af bw (af bw (af bw (af bw aj)))))))) (ZB (aJ aQ hr T.a6 (ae (qv 0) (ae ah aw))))))
(ag (dF (i:=9) b9.nd U (Or.inl U) U (pj U T.fZ (ae (qv 8) aw)) (N':=[Ps,Su,TZ,We]) (.own U (.got (i:=3) U U (.inl U) (.got (i:=4) U U (.inl U) (.got (i:=0) U U (.inl U) .nil)))) (bA (g:=(Tg.nm 0)) (λ_ _ _ _ _=>((cb 0),(aq (af (XL (ao (qv 1) (qv 0))) (af (XL (ao (ao (qv 2) (ZB (aJ aQ hr T.a6 (ae (qv 3) (ae (ZB (bW T.cK (ae (qv 2) aw))) aw))))) ah)) aj)))))))
(ai (bq (i:=5) (pv 5) (aq (af (XL (ao (qv 3) (ZB (bK (fq U) lR ba T.vh bn (ae (ZB (pA (qv 6) (qv 7))) (ae (ZB (pA (qv 7) (qv 6))) aw)))))) (af (aL (bN U) b7 ba T.cE bn (ae (qv 9) aw)) (af (XL (ao (ao (qv 4) (ZB (aJ aQ hr T.a6 (ae (qv 0) (ae (ZB (bW T.cK (ae (qv 4) aw))) aw))))) ah)) aj)))))))))
(ag (aB 10 b9.nd (aO aj))
(ag (bc (g:=(Tg.tp [7,11])) PassesOwn.never U (Jy (i:=5) U T.bh bn (pv 5)) (cM (aZ 7 b9.nd) (aZ 11 b9.nd))
(ag (aB 12 b9.nd (aJ (OI T 31) hr T.mM (ae (qv 0) (ae (ND (ae (qv 4) (ae (qv 5) (ae (qv 3) aw)))) (ae (ZB (aL (pW U) F7 ba T.mB bn (ae (ao (qv 11) ah) aw))) (ae (qv 7) (ae (ZB (NF (aO (af (XL (qv 2)) aj)))) aw)))))))
(ai (bq (i:=10) (pv 10) (aS (qv 11) (ZB (aq (af (XL (qv 12)) aj))))))))
(ai (aE (aq (af (XL (qv 4)) (af (aL (bN U) b7 ba T.cE bn (ae (qv 10) aw)) aj)))))))))))),λts Q hh=>?_
 let(mo,u,U,cX,cV,u0,cR,hq):=hh;refine(40,U,ac,ac,λws hl ay _=>?_);have hl:ws.length=40:=ap;refine(ws,U,hl,ay,λks bt _=>(ac,ac,λow w0 w1=>?_));have gk:=bt.p;have k1:=gk.k1;have k2:=gk.k2;have lk:((ks.map tK).length:Int)=ks.length:=by rw[cU]
 refine(.inl (ap,ap),ap,ap,λn n0 n1=>?_);refine(ap,ap,λi q=>Ea5 λhs L o5 o6 o7=>q=[.r .cz,.r (.i mo),.r (.i u),.o (.l (ws.map .s)),.o (tKs ks),.o (.l L),.o (.i (39*ow)),o5,o6,o7,.no,.no,.no]/\L=hs.map tH/\xp ks ws ow.toNat hs i,([],_,_,_,_,U,U,(U,U,nofun)),?_,?_)
 ·rintro i x q hx ⟨hs,L,o5,o6,o7,rfl,rfl,hH⟩;let(U,hi):=jS hx;refine(_,U,ac,ac,λr2 cq b0=>?_);let(m,hm,em):=hJ (xs:=[1,1,2,2,0,3,4]) (f:=ϛ) cq b0;have hm:m=1\/m=1\/m=2\/m=2\/m=0\/m=3\/m=4:=(hm:);refine(_,em,ap,ap,aD (by rw[eh];omega),λp ys=>∃ps:Sc,ys=ps.map tP/\ps.map (·.1)=ws.take p/\∀q∈ps,q.2∈ks.map (·.1),([],U,U,nofun),?_,?_)
  ·rintro p y ys hy ⟨ps,rfl,ar,aW⟩;let(U,hp):=jS hy;have bp:p<ws.length:=ap;have ew:atI (ws.map Ϛ) (0+((p:Nat):Int))=Z (.s ws[p]):=by rw[YA];exact gq (by simp[bp])
   refine(_,U,_,ew,U,by rw[lk];omega,by rw[lk];omega,λr3 bT a4=>?_);rw[lk]at a4;let(kd,a0,ek):=hJ (f:=tK) bT a4;refine(_,ek,_,U,U,ps++[(ws[p],kd.1)],by simp[tP],?_,λq cA=>?_)
   ·rw[ky,ar];exact take_one (by simp[bp])
   obtain z|z:=jn.mp cA
   ·exact aW q z
   rw[fy.mp z];exact kf.mpr (kd,a0,U)
  rintro ys ⟨ps,rfl,ar,aW⟩;rw[eh]at ar;have ct:ps.length=m.toNat:=by have:=congrArg HH ar;rw[cU,qr]at this;omega
  have a5:pM ow.toNat i<ws.length:=by unfold pM;split <;> omega
  have ei:atI (ws.map Ϛ) (if 0+(i:Int)-39*ow > 39*ow-(0+(i:Int))then 0+(i:Int)-39*ow else 39*ow-(0+(i:Int)))=Z (.s ws[pM ow.toNat i]):=by
   have e:(if 0+(i:Int)-39*ow > 39*ow-(0+(i:Int))then 0+(i:Int)-39*ow else 39*ow-(0+(i:Int)))=((pM ow.toNat i:Nat):Int):=by
    unfold pM;have:ow=0\/ow=1:=ap;obtain rfl|rfl:=this
    ·show _=((i:Nat):Int);split <;> omega
    show _=((39-i:Nat):Int);split <;> omega
   rw[e];exact gq (by simp[a5])
  refine(aD (by rw[cU,hH.ln];omega),_,ei,U,aV eO _,by rw[lk];omega,by rw[lk];omega,λr4 bD a3=>?_);rw[lk]at a3;let(kd,a0,ek):=hJ (f:=tK) bD a3;refine(_,ek,_,U,U,hs++[(ws[pM ow.toNat i],ps,kd.1)],_,_,_,_,U,by simp[tH],hH.snoc (dQ a5) (by show ps.length<=4;omega,aW,by show ps.map (·.1)=ws.take ps.length;rw[ct];exact ar,kf.mpr (kd,a0,U)))
 rintro q ⟨hs,L,o5,o6,o7,rfl,rfl,hH⟩;rw[eh]at hH;have W:Wld ks hs ws:=(gk,hl,ay,by rw[hH.ln];omega,by rw[hH.ln];omega,hH.nd hl ay ap,hH.hp);refine(λi q=>Ea5 λfs L o5 o9 aP=>q=[.r .cz,.r (.i mo),.r (.i u),.o (.l (ws.map .s)),.o (tKs ks),.r (.l (hs.map tH)),.o (.i (39*ow)),o5,o6,o7,.o (.l L),o9,aP]/\L=fs.map tF/\fs.map (·.1)=hs.take i/\∀f∈fs,Snd ks hs f.1.2.2 f.2.2 f.1.2.1 f.2.1/\f.2.2<=sz u.toNat/\Dep (3*u.toNat+2) f.2.1,([],_,_,_,_,U,U,U,nofun),?_,?_)
 ·rintro i x q hx ⟨fs,L,o5,o9,aP,rfl,rfl,V,ak⟩;let(y,hy,U):=bM hx;rw[fN]at hy;let(hd,av,U):=gV.mp hy;have Pa:=g5 av;let(q1,q2,q3,q4):=W.hp hd Pa;have c0:fs.length=i:=by have:=congrArg HH V;rw[cU,qr]at this;have:=(jm.mp av).1;omega
  have lhs:=W.h8;have c1:=(jm.mp av).1;refine(_,U,_,U,aV eO _,U,ks,hs,ws,hd.2.1,i,hd,u,U,W,av,(q3,ap,q2,kB _,by rw[ox]),ap,ap,λn b hn hb dd=>?_);refine(aD (by rw[cU];omega),hb.im,bF (by show 4<=10000;decide),VY hd,(by show(b.im&&O)=O;rw[hb.im];rfl),fs++[(hd,b,n)],_,_,_,_,U,by simp[tF],?_,λf' cQ=>?_)
  ·rw[ky,V,p7,av];rfl
  obtain z|z:=jn.mp cQ
  ·exact ak f' z
  rw[fy.mp z];exact(hb,hn,dd)
 rintro q ⟨fs,L,o5,o9,aP,rfl,rfl,V,ak⟩;rw[aU,cU,ox]at V;have cP:ϙ (fs.map tF)=true:=by
  have go:∀(l:ϗ),(∀f∈l,f.2.1.im=O)->ϙ (l.map tF)=true:=by
   intro l;induction l with
   |nil=>intro _;rfl
   |cons f r ih =>intro h;show((O&&(ϙ (f.1.2.1.map tP)&&(O&&(f.2.1.im&&O))))&&ϙ (r.map tF))=O;rw[aV eO,h f j0,ih λf hf=>h f (j5 _ hf)];rfl
  exact go fs λf hf=>(ak f hf).1.im
 refine(jc ks,cP,hq ks fs (gk,?_,?_,λf hf=>?_,λf hf=>?_,λf hf=>((ak f hf).2.2).mono ap) bt ?_ (λf hf=>(ak f hf).2.1) ?_ λf hf=>(ak f hf).2.2)
 ·have:=congrArg HH V;rw[cU]at this;have:=W.h8;omega
 ·have:fs.map (·.1.1)=(fs.map (·.1)).map (·.1):=by rw[tr];rfl
  rw[this,V];exact W.hn
 ·have hm:f.1∈hs:=by rw[<- V];exact kf.mpr (f,hf,U)
  let(q1,q2,q3,q4):=W.hp f.1 hm;exact(q1,q2,by rw[q3];exact ay.sublist (Yu _ _),q4)
 ·rw[V];exact((ak f hf).1,sF (ak f hf).2.1 (sF (MV ap) UT))
 ·intro e;rw[e]at V;have:=hH.ln;rw[<- V]at this;simp at this;omega
 have:=hH.ln;rw[<- V,cU]at this;omega
theorem kQ(h:∀t∈ts,t.im=O):ϙ ts=true:=by induction ts with|nil=>rfl|cons t r g=>show(t.im&&ϙ r)=O;rw[h t j0,g λt q=>h t (j5 _ q)];rfl
theorem bL(h:n<=1002000):n<mu:=YD h ac
def Ub:L2.T->L2.T
 |.t [_,_,b]=>b|_=>.n
def subs:L2.T->List (L2.T×L2.T)
 |.t [.s _,.s _,.t arms]=>arms.map λx=>(Ub x,x)|.t [.s _,.i _,b]=>[(b,.n)]|.t [.s _,.s _,.s _,b]=>[(b,.n)]|.t [.s _,.s _,.s _,.t _,b]=>[(b,.n)]|_=>[]
inductive Kid(ks:ϖ)(hs:List Hd):Sc->L2.T->Nat->L2.T->L2.T->Sc->Prop
 |cY{sc:Sc}{w:Str}{c:Int}{b:L2.T}:(w="pay" \/ w="get")->Kid ks hs sc (.t [.s w,.i c,b]) 0 b .n sc|name{sc:Sc}{x y k:Str}{b:L2.T}:(y,k)∈sc->x ∉ sc.map (·.1)->Kid ks hs sc (.t [.s "name",.s x,.s y,b]) 0 b .n (sc++[Prod.mk x k])|make{sc:Sc}{x:Str}{m:Mk1}{kd:Kd}{ns:Γ}{b:L2.T}:kd∈ks->m∈kd.2->x ∉ sc.map (·.1)->Kid ks hs sc (.t [.s "make",.s x,.s m.1,.t (ns.map .s),b]) 0 b .n (sc++[(x,kd.1)])|call{sc:Sc}{x:Str}{h:Hd}{ns:Γ}{b:L2.T}:h∈hs->x ∉ sc.map (·.1)->Kid ks hs sc (.t [.s "call",.s x,.s h.1,.t (ns.map .s),b]) 0 b .n (sc++[(x,h.2.2)])|case{sc:Sc}{x:Str}{kd:Kd}{arms:List Arm}{j:Nat}{a:Arm}{m:Mk1}:(x,kd.1)∈sc->kd∈ks->arms.map (·.1)=kd.2.map (·.1)->arms[j]?=Z a->kd.2[j]?=Z m->a.2.1.length=m.2.length->(sc.map (·.1)++a.2.1).Nodup->Kid ks hs sc (.t [.s "case",.s x,.t (arms.map tA)]) j a.2.2.1 (tA a) (sc++a.2.1.zip m.2)
inductive Shp:ϕ
 |give{x:Str}:Shp (.t [.s "give",.s x])|cY{w:Str}{c:Int}{b:L2.T}:(w="pay" \/ w="get")->b.im=O->Shp (.t [.s w,.i c,b])|name{x y:Str}{b:L2.T}:b.im=O->Shp (.t [.s "name",.s x,.s y,b])|use{w x m:Str}{ns:Γ}{b:L2.T}:(w="make" \/ w="call")->b.im=O->Shp (.t [.s w,.s x,.s m,.t (ns.map .s),b])|case{x:Str}{arms:List Arm}:(∀a∈arms,a.2.2.1.im=O)->arms.length<=50000->Shp (.t [.s "case",.s x,.t (arms.map tA)])
structure Nod where
 b:L2.T
 ab:L2.T
 am:L2.T
 pa:List (Nat×L2.T×Nat)
 sc:Sc
def C4(n:Nat)(d:Nod)(j:Nat)(b am:L2.T)(sc:Sc):Nod:=(b,.i n,am,d.pa++[(n,d.b,j)],sc)
inductive Ask(ks:ϖ)(sc:Sc):L2.T->Option Str->Prop
 |give{x:Str}:Ask ks sc (.t [.s "give",.s x]) Y|cY{w:Str}{c:Int}{b:L2.T}:(w="pay" \/ w="get")->Ask ks sc (.t [.s w,.i c,b]) Y|name{x y k:Str}{b:L2.T}:(y,k)∈sc->Ask ks sc (.t [.s "name",.s x,.s y,b]) (Z k)|make{x:Str}{m:Mk1}{kd:Kd}{ns:Γ}{b:L2.T}:kd∈ks->m∈kd.2->Ask ks sc (.t [.s "make",.s x,.s m.1,.t (ns.map .s),b]) (Z kd.1)|call{x g:Str}{ns:Γ}{b:L2.T}:Ask ks sc (.t [.s "call",.s x,.s g,.t (ns.map .s),b]) Y|case{x k:Str}{arms:List Arm}:(x,k)∈sc->Ask ks sc (.t [.s "case",.s x,.t (arms.map tA)]) (Z k)
structure PZ(ks:ϖ)(hs:List Hd)(n:Nat)(d:Nod)(cs:List Nod):Prop where
 ok:∀(j:Nat)(c:Nod),cs[j]?=Z c->c=C4 n d j c.b c.am c.sc/\Kid ks hs d.sc d.b j c.b c.am c.sc
 su:cs.map (λc=>Prod.mk c.b c.am)=subs d.b
 sh:Shp d.b
 ak:∃o,Ask ks d.sc d.b o
mutual
inductive Pre(ks:ϖ)(hs:List Hd):Nat->Nod->List Nod->Prop
 |mk{n:Nat}{d:Nod}{cs L:List Nod}:PZ ks hs n d cs->cv ks hs (n+1) cs L->Pre ks hs n d (d::L)
inductive cv(ks:ϖ)(hs:List Hd):Nat->List Nod->List Nod->Prop
 |nil{n:Nat}:cv ks hs n [] []|cons{n:Nat}{d:Nod}{ds L M:List Nod}:Pre ks hs n d L->cv ks hs (n+L.length) ds M->cv ks hs n (d::ds) (L++M)
end
variable{L:List Nod}
theorem cv.app{ds es M:List Nod}:∀{n:Nat},cv ks hs n ds L->cv ks hs (n+L.length) es M->cv ks hs n (ds++es) (L++M):=by
 induction ds generalizing L with
 |nil=>intro n h h2;cases h;simpa using h2
 |cons d ds g =>intro n h h2;cases h with|@cons _ _ _ z q h1 h3 =>rw[vt];exact .cons h1 (g h3 (by rw[j3,<- Nat.add_assoc]at h2;exact h2))
theorem cv.pop{ds:List Nod}(h:cv ks hs n (d::ds) L):∃cs g,PZ ks hs n d cs/\L=d::g/\cv ks hs (n+1) (cs++ds) g:=by cases h with|@cons _ _ _ z q h1 h3 =>cases h1 with|@mk _ _ cs L2 hk h2 =>refine(cs,L2++q,hk,U,h2.app ?_);rw[show n+1+L2.length=n+(L2.length+1)by lia];exact h3
theorem cv.le{ds:List Nod}(h:cv ks hs n ds L):ds.length<=L.length:=by induction ds generalizing n L with|nil=>exact zt _|cons d ds g =>cases h with|cons h1 h3 =>have:=g h3;cases h1;simp only[qf,j3];lia
theorem S1{l:List Nat}{x:Nat}(h:x∈l):x<=l.sum:=by
 induction l with
 |nil=>cases h
 |cons y r g =>
  rw[vx];obtain z|z:=kC.mp h
  ·lia
  lia
theorem OT{l:List Nat}(h:∀x∈l,1<=x):l.length<=l.sum:=by induction l with|nil=>exact kB _|cons y r g =>have h1:=h y j0;have h2:=g λz q=>h z (j5 _ q);rw[vx,qf];lia
theorem Snd.pos{b:L2.T}(h:Snd ks hs r n sc b):1<=n:=by cases h <;> lia
theorem Snd.pre{ks:ϖ}{m:Nat}{b:L2.T}(h:Snd ks hs r m sc b)(ay:m<=50000):∀(n:Nat)(ab am:L2.T)(pa:List (Nat×L2.T×Nat)),∃L,Pre ks hs n (b,ab,am,pa,sc) L/\L.length<=m:=by
 have one:∀{m:Nat}{sc sc':Sc}{b b':L2.T}{o:Option Str},Kid ks hs sc b 0 b' .n sc'->Shp b->Ask ks sc b o->subs b=[(b',.n)]->(∀(n:Nat)(ab am:L2.T)(pa:List (Nat×L2.T×Nat)),∃L,Pre ks hs n (b',ab,am,pa,sc') L/\L.length<=m)->∀(n:Nat)(ab am:L2.T)(pa:List (Nat×L2.T×Nat)),∃L,Pre ks hs n (b,ab,am,pa,sc) L/\L.length<=m+1:=by
  intro m sc sc' b b' o hk sh ak av g n ab am pa;let(L,h1,h2):=g (n+1) (.i n) .n (pa++[(n,b,0)]);refine((b,ab,am,pa,sc)::L,.mk (cs:=[(b',.i n,.n,pa++[(n,b,0)],sc')]) (λj c q=>?_,by rw[av];rfl,sh,(o,ak)) (by have:=cv.cons h1 (.nil);rwa [qp]at this),by simp;omega);cases j with
  |zero=>cases q;exact(U,hk)
  |succ j=>simp at q
 induction h with
 |give hx =>
  intro n ab am pa;exact([_],.mk (cs:=[]) (λj c q=>by simp at q,U,.give,(Y,.give)) .nil,ad)
 |cY hw _ h g=>exact one (.cY hw) (.cY hw h.im) (.cY hw) U (g ap)|name hy hx h g=>exact one (.name hy hx) (.name h.im) (.name hy) U (g ap)|make K hm hF hx h g=>exact one (.make K hm hx) (.use (.inl U) h.im) (.make K hm) U (g ap)|call hh hF hx h g=>exact one (.call hh hx) (.use (.inr U) h.im) .call U (g ap)|@case sc x kd arms hx K Q h1 h2 g =>
  intro n ab am pa;have el:arms.length=kd.2.length:=(congrArg HH Q:);have sz:∀(j:Nat)(a:Arm),arms[j]?=Z a->a.2.2.2 <=(arms.map (·.2.2.2)).sum:=λj a ha=>S1 (kf.mpr (a,g5 ha,U));have sh:Shp (.t [.s "case",.s x,.t (arms.map tA)]):=.case (λa ha=>by let(i,hi,e):=ri ha;exact(h2 i a (kd.2[i]' ap) (by rw[dQ hi,e]) (dQ _)).im) (by
   have:arms.length <=(arms.map (·.2.2.2)).sum:=by
    have:=OT (l:=arms.map (·.2.2.2)) λz hz=>by
     let(a,ha,U):=kf.mp hz;let(i,hi,e):=ri ha;exact(h2 i a (kd.2[i]' ap) (by rw[dQ hi,e]) (dQ _)).pos
    simpa using this
   omega)
  let b:L2.T:=.t [.s "case",.s x,.t (arms.map tA)];have go:∀(k j:Nat),j+k=arms.length->∀P,∃(cs L:List Nod),cv ks hs P cs L/\cs.length=k/\L.length <=((arms.drop j).map (·.2.2.2)).sum/\cs.map (λc=>Prod.mk c.b c.am)=(arms.drop j).map (λa=>Prod.mk a.2.2.1 (tA a))/\∀(i:Nat)(c:Nod),cs[i]?=Z c->c=C4 n (b,ab,am,pa,sc) (j+i) c.b c.am c.sc/\Kid ks hs sc b (j+i) c.b c.am c.sc:=by
   intro k;induction k with
   |zero =>
    intro j hj P;refine([],[],.nil,U,zt _,?_,λi c q=>by simp at q);rw[List.drop_eq_nil_of_le ap];rfl
   |succ k ar =>
    intro j hj P;have V:j<arms.length:=ap;have ea:arms[j]?=Z arms[j]:=dQ V;have em:kd.2[j]?=Z (kd.2[j]' ap):=dQ _;let(q1,q2):=h1 j _ _ ea em;have hK:Kid ks hs sc b j arms[j].2.2.1 (tA arms[j]) (sc++arms[j].2.1.zip (kd.2[j]' ap).2):=.case hx K Q ea em q1 q2;let(L1,p1,p2):=g j _ _ ea em (by have:=sz j _ ea;omega) P (.i n) (tA arms[j]) (pa++[(n,b,j)]);let(cs,L,c1,c2,c3,c4,c5):=ar (j+1) ap (P+L1.length);have ed:arms.drop j=arms[j]::arms.drop (j+1):=Zu V;refine(_::cs,L1++L,.cons p1 c1,by simp[c2],?_,?_,λi c q=>?_)
    ·rw[ed,ro,vx,j3];omega
    ·rw[ed,ro,ro,c4]
    cases i with
    |zero=>cases q;exact(U,hK)
    |succ i =>let(z1,z2):=c5 i c q;rw[show j+(i+1)=j+1+i by omega];exact(z1,z2)
  let(cs,L,c1,_,c3,c4,c5):=go arms.length 0 ap (n+1);rw[ZU]at c3 c4;refine(_::L,.mk (cs:=cs) (λj c q=>?_,?_,sh,(_,.case hx)) c1,by simp;omega)
  ·have:=c5 j c q
   rwa [Ft]at this
  rw[c4];show _=(arms.map tA).map λx=>Prod.mk (Ub x) x;rw[tr];rfl
theorem cv.from:∀(k:Nat){n:Nat}{ds M:List Nod},M.length=k->cv ks hs n ds M->∀(m:Nat)(d:Nod),M[m]?=Z d->(∃j,ds[j]?=Z d/\(m=0->j=0))\/∃(p:Nat)(e:Nod)(cs:List Nod)(j:Nat),p<m/\M[p]?=Z e/\PZ ks hs (n+p) e cs/\cs[j]?=Z d:=by
 intro k;induction k with
 |zero =>
  intro n ds M hl h m d hm;rw[vq.mp hl]at hm;simp at hm
 |succ k P =>
  intro n ds M hl h m d hm;cases ds with
  |nil=>cases h;simp at hl
  |cons d0 ds =>
   let(cs,L',hk,U,h2):=h.pop;cases m with
   |zero=>cases hm;exact .inl (0,U,λ_=>rfl)
   |succ m =>
    obtain⟨j,g,_⟩|⟨p,e,K,j,hp,he,V,Q⟩:=P (n:=n+1) (hl:) h2 m d (hm:)
    ·by_cases q:j<cs.length
     ·rw[u6 q]at g;exact .inr (0,d0,cs,j,ap,U,hk,g)
     rw[vr ap]at g;exact .inl (j-cs.length+1,(g:),λz=>ap)
    exact .inr (p+1,e,K,j,ap,(he:),by rw[show n+(p+1)=n+1+p by lia];exact V,Q)
def spT(C:J)(p a r:L2.T):L2.T:=.ob C [Wp,"above","arm"] [p,a,r]
def spN(C:J)(d:Nod):L2.T:=spT C d.b d.ab d.am
inductive GA(C:J)(ts:ϓ)(Q:ϕ):Prop
 |mk (b:L2.T) (n:Nat) (h1:ts=[b,.i n]) (h2:Shp b) (h3:b.im=O) (h4:Q (.l ((subs b).map λp=>spT C p.1 (.i n) p.2)))
theorem Shp.im{b:L2.T}(h:Shp b):b.im=true:=by cases h with|give=>rfl|cY _ h=>show(O&&(O&&(L2.T.im _&&O)))=O;rw[h];rfl|name h=>show(O&&(O&&(O&&(L2.T.im _&&O))))=O;rw[h];rfl|use _ h=>show(O&&(O&&(O&&(ϙ _&&(L2.T.im _&&O)))))=O;rw[h,aX];rfl|case h =>show(O&&(O&&(ϙ _&&O)))=O;rw[kQ λt g=>by let(a,q,U):=kf.mp g;show(O&&(ϙ (a.2.1.map .s)&&(a.2.2.1.im&&O)))=O;rw[h a q,aX];rfl];rfl
theorem cv.ims{ds M:List Nod}(h:cv ks hs n ds M):∀e∈M,e.b.im=true:=by
 have go:∀k {n:Nat} {ds M:List Nod},M.length=k->cv ks hs n ds M->∀e∈M,e.b.im=true:=by
  intro k;induction k with
  |zero =>
   intro n ds M hl h e he;rw[vq.mp hl]at he;cases he
  |succ k g =>
   intro n ds M hl h e he;cases ds with
   |nil=>cases h;simp at hl
   |cons z ds =>
    let(cs,K,q,U,h2):=h.pop;obtain rfl|he:=kC.mp he
    ·exact q.sh.im
    exact g (hl:) h2 e he
 exact go _ U h
theorem cv.asks:∀(k:Nat){n:Nat}{ds M:List Nod},M.length=k->cv ks hs n ds M->∀e∈M,∃o,Ask ks e.sc e.b o:=by
 intro k;induction k with
 |zero =>
  intro n ds M hl h e he;rw[vq.mp hl]at he;cases he
 |succ k g =>
  intro n ds M hl h e he;cases ds with
  |nil=>cases h;simp at hl
  |cons z ds =>
   let(cs,K,q,U,h2):=h.pop;obtain rfl|he:=kC.mp he
   ·exact q.ak
   exact g (hl:) h2 e he
inductive NZ(C:J)(ts:ϓ)(Q:ϕ):Prop
 |mk(ks:ϖ)(hs:List Hd)(d:Nod)(L:List Nod)(h1:ts=[d.b])(h2:d.ab=.n)(h3:d.am=.n)(h4:Pre ks hs 0 d L)(h5:L.length<=50000)(h6:Q (.l (L.map (spN C))))
inductive J3(ts:ϓ)(Q:ϕ):Prop
 |mk(ks:ϖ)(hs:List Hd)(d:Nod)(L:List Nod)(h1:ts=[d.b])(h2:d.ab=.n)(h3:d.am=.n)(h4:Pre ks hs 0 d L)(h5:L.length<=50000)(h6:Q (.l (L.map (·.b))))
theorem Ez(T:Txt K mg a):bg P w K mg base CX0 1 a.dW a.kn ["self",Wp,"above","arm"] (xG a.aW [Wp,"above","arm"]):=by
 refine Fun.ok T.gZ xN (λvs H Q E h=>?_) λcdv A outer s H vs Q E hr h=>?_
 ·let(x,dx,args,U,hl,_):=h;show args.length+1=4;rw[hl];rfl
 let(x,dx,args,U,hl,hx,hq):=h;obtain⟨v1,v2,g,rfl⟩:∃v1 v2 g,args=[v1,v2,g]:=by
  cases args with
  |nil=>cases hl
  |cons v1 r=>cases r with
   |nil=>cases hl
   |cons v2 r=>cases r with
    |nil=>cases hl
    |cons g r=>cases r with|nil=>exact(v1,v2,g,U)|cons=>cases hl
 refine(_,bQ (jY (pv 0) (pv 1) U) (bQ (jY (pv 0) (pv 2) U) (gJ (jY (pv 0) (pv 3) U))),(_,U,_,U,x,a.aW,dx,_,U,hx,T.cA,T.dC,(by show 0<1000;decide),(_,U,_,U,x,a.aW,dx,_,U,aA,T.cA,T.bT,(by show 1<1000;decide),(_,U,_,U,x,a.aW,dx,_,U,aA,T.cA,T.j8,(by show 2<1000;decide),?_))));rw[fQ,fQ];exact hq
theorem pI(T:Txt K mg a):bg P w K mg base CX0 3 a.dG a.jt [Wp,"number"] (spQ K (GA a.aW)):=by
 exists T.jz,oX,hu,(ag (aR (bO hu (ao (qv 0) ah) (ZB aK))
(ai (aE (aO aj)))
aF)
(ag (aR (bO hu (ao (qv 0) ah) (ZB aK))
(ai (aE (bI U (dM (ao (qv 0) ah)) (N':=["arm","number"]) (.own U (.got (i:=1) U U (.inl U) .nil)) (bA (g:=(Tg.nm 0)) (λ_ _ _ _ _=>((cb 0),(iu U T.yD (Ez T) (hr.mono ap) U T.yB T.kq (ae (ao (qv 0) ah) (ae (qv 1) (ae (qv 0) aw))))))))))
aF)
(ai (aE (aO (af (iu U T.yD (Ez T) (hr.mono ap) U T.yB T.kq (ae (ao (qv 0) (ZB (jU ah))) (ae (qv 1) (ae (ZB cu) aw)))) aj)))))),λts Q h=>?_
 let(b,n,U,hS,ak,hq):=h;cases hS with
 |give=>exact(_,U,U,aI (λ_=>hq) (λz=>absurd bi z))|@cY w c b hw q =>
  have n1:¬ decide ((Ϛ w).v=(Ϛ "give").v)=true:=by obtain rfl|rfl:=hw <;> decide +kernel
  have V:¬ decide ((Ϛ w).v=(Ϛ "case").v)=true:=by obtain rfl|rfl:=hw <;> decide +kernel
  refine(_,U,U,aI (λz=>absurd z n1) λ_=>(_,U,U,aI (λz=>absurd z V) λ_=>(_,U,?_)));exact((by show(b.im&&(O&&(O&&O)))=O;rw[q];rfl),U,hq)
 |@name x y b q =>refine(_,U,U,aa ((_,U,U,aa ((_,U,?_)))));exact((by show(b.im&&(O&&(O&&O)))=O;rw[q];rfl),U,hq)|@use w x m ns b hw q =>
  have n1:¬ decide ((Ϛ w).v=(Ϛ "give").v)=true:=by obtain rfl|rfl:=hw <;> decide +kernel
  have V:¬ decide ((Ϛ w).v=(Ϛ "case").v)=true:=by obtain rfl|rfl:=hw <;> decide +kernel
  refine(_,U,U,aI (λz=>absurd z n1) λ_=>(_,U,U,aI (λz=>absurd z V) λ_=>(_,U,?_)));exact((by show(b.im&&(O&&(O&&O)))=O;rw[q];rfl),U,hq)
 |@case x arms q hl =>
  refine(_,U,U,aa ((_,U,U,aI (λ_=>?_) λz=>absurd bi z)));refine(_,U,bL (by rw[cU];omega),λi ys=>ys=(arms.take i).map (λz=>spT a.aW z.2.2.1 (.i n) (tA z)),U,?_,?_)
  ·rintro i y ys hy rfl;rw[fN]at hy;let(z,hz,U):=gV.mp hy;have hi:=q z (g5 hz);refine(_,U,_,U,(by show(z.2.2.1.im&&(O&&((O&&(ϙ (z.2.1.map .s)&&(z.2.2.1.im&&O)))&&O)))=O;rw[hi,aX];rfl),U,?_);show _++[spT a.aW z.2.2.1 (.i n) (tA z)]=_;rw[p7,hz];simp
  rintro ys rfl;rw[cU,ox];have e:(subs (.t [.s "case",.s x,.t (arms.map tA)])).map (λp=>spT a.aW p.1 (.i n) p.2)=arms.map λz=>spT a.aW z.2.2.1 (.i n) (tA z):=by show((arms.map tA).map λx=>Prod.mk (Ub x) x).map _=_;rw[tr,tr];rfl
  rw[e]at hq;exact hq
theorem um(T:Txt K mg a):bg P w K mg base CX0 4 a.so a.Fb ["body"] (spQ K (NZ a.aW)):=by
 exists T.sI,mY,hu,(ag (aB 1 mY.nd (aO aj))
(ag (aB 2 mY.nd (aO (af (iu U T.yD (Ez T) (hr.mono ap) U T.yB T.kq (ae (qv 0) (ae (ZB cu) (ae (ZB cu) aw)))) aj)))
(ag (tY PassesOwn.never (ip (qv 2))
(ag (Cz (j:=3) mY.nd U (Or.inl U) (pv 2))
(ag (cT (i:=2) (pv 2) (z7 U U T.mB U T.my (ZB (aJ (pI T) hr T.jz (ae (a7 T.cA T.dC (qv 3)) (ae (ZB (bW T.cK (ae (qv 1) aw))) aw))))))
(ai (bq (i:=1) (pv 1) (XL (qv 3)))))))
(ai (dm (i:=1) (pv 1)))))),λts Q h=>?_
 let(ks,hs,d,L,U,e1,e2,hP,hL,hq):=h;have ak:d.b.im=true:=by cases hP with|mk hk _=>exact hk.sh.im
 refine((by show(d.b.im&&(O&&(O&&O)))=O;rw[ak];rfl),U,?_);refine(λc q=>Ea6 λ(A W M:List Nod)(X ύ:ϓ)(V:Sl)=>q=[.r d.b,.o (.l X),.o (.l ύ),V]/\X=A.map (spN a.aW)/\ύ=W.reverse.map (spN a.aW)/\cv ks hs A.length W M/\L=A++M/\c=M.length,(_,[],[d],L,_,_,_,U,U,?_,?_,U,U),?_)
 ·show [spT a.aW d.b .n .n]=[spT a.aW d.b d.ab d.am];rw[e1,e2]
 ·have:=cv.cons hP (.nil)
  rwa [qp]at this
 rintro c q ⟨A,W,M,X,ύ,V,rfl,rfl,rfl,hM,g,rfl⟩;cases W with
 |nil =>
  cases hM;rw[qp]at g;subst g;exact hq
 |cons v W =>
  let(cs,M',hK,U,h2):=hM.pop;have hle:=h2.le;have av:A.length+(M'.length+1)<=50000:=by rw[g,j3,qf]at hL;exact hL
  rw[j3]at hle;have eY:(v::W).reverse.map (spN a.aW)=W.reverse.map (spN a.aW)++[spN a.aW v]:=by simp
  have ar:cs.map (spN a.aW)=(subs v.b).map λp=>spT a.aW p.1 (.i A.length) p.2:=by rw[<- hK.su,tr];refine TH λc hc=>?_;let(j,hj,U):=ri hc;have e:=(hK.ok j _ (dQ hj)).1;show spT _ _ _ _=spT _ _ _ _;rw[show cs[j].ab=.i A.length from congrArg Nod.ab e]
  refine aI (λ_=>?_) (λz=>absurd (by rw[eY];simp) z);refine(λq'=>∃(A W M:List Nod)(X ύ:ϓ)(V:Sl),q'=[.r d.b,.o (.l X),.o (.l ύ),V]/\X=A.map (spN a.aW)/\ύ=W.reverse.map (spN a.aW)/\cv ks hs A.length W M/\L=A++M/\M.length<M'.length+1,?_,?_)
  ·rintro q' ⟨A,W,M,X,ύ,V,rfl,rfl,rfl,g1,g2,g3⟩;exact(M.length,g3,A,W,M,_,_,_,U,U,U,g1,g2,U)
  refine(_,_,eY,kQ λt ht=>by let(z,_,U):=kf.mp ht;rfl,ac,?_);refine(U,ac,_,U,v.b,A.length,(by rw[cU]),hK.sh,hK.sh.im,?_);refine(kQ λt ht=>by let(z,_,U):=kf.mp ht;rfl,?_);rw[<- ar];refine(?_,?_)
  ·have:W.length+cs.length<=1002000:=ap;simp only[cU,YJ];exact wz (bL this)
  refine(bL (by rw[cU];omega),U,?_);exact(A++[v],cs++W,M',_,_,_,U,ad,ad,by rw[j3];exact h2,by simp[g],ap)
def en{α:Type}(f:α->Str)(g:α->L2.T)(x:α):Key×L2.T:=(.inr (f x),g x)
theorem nq{f:α->Str}{g:α->L2.T}:∀xs:List α,cO (xs.map λx=>.t [.s (f x),g x])=Z (xs.map (en f g))
 |[]=>rfl|k::r=>by
  show(match(Z (.inr (f k))),cO (r.map λx=>.t [.s (f x),g x])with|some k',Z r=>Z ((Prod.mk k' (g k))::r)|_,_=>Y)=_;rw[nq r];rfl
theorem AK{α:Type}{f:α->Str}{g:α->L2.T}{xs ys:List α}(h:((xs++ys).map f).Nodup):dg (xs.map (en f g)) (ys.map (en f g))=(xs++ys).map (en f g):=by
 rw[ky]at h;let(h1,h2,h3):=vw.mp h;rw[nG,ky]
 ·rw[tr];have:(ys.map ((λx=>x.1) ∘ en f g))=(ys.map f).map Sum.inr:=by rw[tr];rfl
  rw[this];exact Xt.mpr (h2.imp λK z=>K (Sum.inr.inj z))
 intro p hp q hq;let(x,hx,U):=kf.mp hp;let(y,P,U):=kf.mp hq;exact λz=>h3 _ (kf.mpr (y,P,U)) _ (kf.mpr (x,hx,U)) (Sum.inr.inj z)
theorem sD{f:α->Str}{g:α->L2.T}{xs:List α}(h:(xs.map f).Nodup):dg [] (xs.map (en f g))=xs.map (en f g):=AK (xs:=[]) h
theorem nH{f:α->Str}{g:α->L2.T}:∀{xs:List α}{x:α},(xs.map f).Nodup->x∈xs->bH (xs.map (en f g)) (.inr (f x))=Z (g x)
 |y::r,x,h,hx=>by
  have h':=vp.mp h;unfold bH;rw[ro,zr,show(en f g y).1=.inr (f y)from U,uG];by_cases e:f y=f x
  ·rw[decide_eq_true e];obtain rfl|z:=kC.mp hx
   ·rfl
   exact absurd (kf.mpr (x,z,e.symm)) h'.1
  rw[decide_eq_false e];obtain rfl|z:=kC.mp hx
  ·exact absurd U e
  exact nH h'.2 z
abbrev enM:Mk1->Key×L2.T:=en (·.1) λm=>.t (m.2.map .s)
abbrev enP:Str×Str->Key×L2.T:=en (·.1) λp=>.s p.2
theorem Oj(ms:List Mk1):cO (ms.map tM)=Z (ms.map enM):=nq ms
theorem yt(sc:Sc):cO (sc.map tP)=Z (sc.map enP):=nq sc
theorem yF(h:(sc.map (·.1)).Nodup)(hx:(x,k)∈sc):bH (sc.map enP) (.inr x)=Z (.s k):=nH h hx
theorem uK:∀{ks:ϖ}{i j:Nat}{k k':Kd}{m m':Mk1},(names ks).Nodup->ks[i]?=Z k->ks[j]?=Z k'->m∈k.2->m'∈k'.2->m.1=m'.1->i=j
 |x::r,0,0,_,_,_,_,_,_,_,_,_,_=>rfl|x::r,i+1,j+1,k,k',m,m',h,h1,h2,h3,h4,h5=>by
  exact congrArg (· + 1) (uK (vw.mp h).2.1 (h1:) (h2:) h3 h4 h5)
 |x::r,0,j+1,k,k',m,m',h,h1,h2,h3,h4,h5=>by
  cases h1;exact absurd h5 ((vw.mp h).2.2 _ (kf.mpr (m,h3,U)) _ (Wc.mpr (k',g5 (h2:),kf.mpr (m',h4,U))))
 |x::r,i+1,0,k,k',m,m',h,h1,h2,h3,h4,h5=>by
  cases h2;exact absurd h5.symm ((vw.mp h).2.2 _ (kf.mpr (m',h4,U)) _ (Wc.mpr (k,g5 (h1:),kf.mpr (m,h3,U))))
theorem AG{ks:ϖ}(h:(names ks).Nodup){k:Kd}(hk:k∈ks):(k.2.map (·.1)).Nodup:=by
 induction ks with
 |nil=>cases hk
 |cons x r g =>
  let(h1,h2,_):=vw.mp h;obtain rfl|z:=kC.mp hk
  ·exact h1
  exact g h2 z
theorem ED(h:(ks.map (·.1)).Nodup)(hk:k∈ks):c6 ks k.1=k.2:=by let(i,hi,U):=ri hk;refine yE (dQ hi) U λj y z q e=>?_;have g:j<ks.length:=ap;rw[dQ g]at q;cases q;have:=(List.getElem_inj (h₀:=(g:)) (h₁:=(hi:)) h).mp (e:);lia
inductive Pth(ks:ϖ)(hs:List Hd):Sc->List (Nat×L2.T×Nat)->Sc->Prop
 |nil{sc:Sc}:Pth ks hs sc [] sc|cons{sc sc' UX:Sc}{n j:Nat}{b b' am:L2.T}{r:List (Nat×L2.T×Nat)}:Kid ks hs sc b j b' am sc'->Pth ks hs sc' r UX->Pth ks hs sc ((n,b,j)::r) UX
theorem Pth.snoc{g:Sc}{b b' am:L2.T}(h:Pth ks hs g pa sc)(hk:Kid ks hs sc b j b' am sc'):Pth ks hs g (pa++[(n,b,j)]) sc':=by induction h with|nil=>exact .cons hk .nil|cons h1 _ q=>exact .cons h1 (q hk)
theorem cv.all{R:Nod->Prop}(hk:∀n d j b am sc,R d->Kid ks hs d.sc d.b j b am sc->R (C4 n d j b am sc)):∀(k:Nat){n:Nat}{ds M:List Nod},M.length=k->cv ks hs n ds M->(∀d∈ds,R d)->∀e∈M,R e:=by
 intro k;induction k with
 |zero =>
  intro n ds M hl h h0 e he;rw[vq.mp hl]at he;cases he
 |succ k g =>
  intro n ds M hl h h0 e he;cases ds with
  |nil=>cases h;simp at hl
  |cons d0 ds =>
   let(cs,L',P,U,h2):=h.pop;have hd:=h0 d0 j0;obtain rfl|he:=kC.mp he
   ·exact hd
   refine g (hl:) h2 (λc K=>?_) e he;obtain z|z:=jn.mp K
   ·let(j,q,U):=ri z;let(V,Q):=P.ok j _ (dQ q);rw[V];exact hk _ _ _ _ _ _ hd Q
   exact h0 c (j5 _ z)
theorem Kid.nd{ks:ϖ}{b b' am:L2.T}(h:Kid ks hs sc b j b' am sc')(hn:(sc.map (·.1)).Nodup):(sc'.map (·.1)).Nodup:=by
 have one:∀{x k:Str},x ∉ sc.map (·.1)->((sc++[Prod.mk x k]).map (·.1)).Nodup:=λ{x k} hx=>by
  rw[ky];exact vw.mpr (hn,ad,λy q z g e=>hx (by rw[ro,List.map_nil,fy]at g;subst g;rw[<- e];exact q))
 cases h with|cY=>exact hn|name _ hx=>exact one hx|make _ _ hx=>exact one hx|call _ hx=>exact one hx|case _ _ _ _ _ hl K =>rw[ky,ZD ap];exact K
theorem Kid.ext{b b' am:L2.T}(h:Kid ks hs sc b j b' am sc'):sc'=sc++sc'.drop sc.length:=by cases h <;> simp
theorem Kid.dep{b b' am:L2.T}(h:Kid ks hs sc b j b' am sc')(hd:Dep (N+1) b):Dep N b':=by
 have sub:∀{M:Nat}{xs:ϓ}{x:L2.T},Dep M (.t xs)->x∈xs->Dep (M-1) x:=λ{M xs x} h hx=>by
  cases M with
  |zero=>obtain⟨_,z⟩|⟨_,z⟩:=h <;> cases z
  |succ M =>
   obtain⟨_,z⟩|⟨_,z⟩|⟨_,z,h⟩:=h
   ·cases z
   ·cases z
   cases z;exact h _ hx
 cases h with|cY=>exact sub hd ad|name=>exact sub hd ad|make=>exact sub hd ad|call=>exact sub hd ad|@case _ _ arms _ ar _ _ _ _ g =>have h1:=sub hd (x:=.t (arms.map tA)) ad;have h2:=sub h1 (kf.mpr (ar,g5 g,U));have h3:=sub h2 (x:=ar.2.2.1) ad;exact h3.mono ap
def iN(z:Nat):L2.T:=.i (z:Int)
theorem wR(T:Txt K mg a):bg P w K mg base CX0 5 a.nT a.Bi ["body"] (spQ K J3):=by
 exists T.vG,Gd,hu,(ai (aE (bI U (fU (ZB (aJ (um T) hr T.sI (ae (qv 0) aw)))) (N':=["spot"]) (.own U .nil) (bA (g:=(Tg.nm 0)) (λ_ _ _ _ _=>((cb 0),(XL (a7 T.cA T.dC (qv 0))))))))),λts Q h=>?_;let(ks,hs,d,L,U,e1,e2,hP,hL,hq):=h;have q:=(show cv ks hs 0 [d] L by have:=cv.cons hP (.nil);rwa [qp]at this).ims;refine(ks,hs,d,L,U,e1,e2,hP,hL,bL (by rw[cU];omega),λi ys=>ys=(L.take i).map (·.b),U,?_,?_)
 ·rintro i y ys hy rfl;rw[fN]at hy;let(z,V,U):=gV.mp hy;refine(_,U,U,ac,_,U,q z (g5 V),?_);show _++[z.b]=_;rw[p7,V];simp
 rintro ys rfl;rw[cU,ox];exact hq
inductive Ag(ts:ϓ)(Q:ϕ):Prop
 |mk(fs:ϗ)(j:Nat)(f:Fn)(h1:ts=[.t (fs.map tF),.s f.1.1])(h2:(fs.map (·.1.1)).Nodup)(h3:(∀f∈fs,f.2.1.im=O))(h4:fs.length<=8)(h5:fs[j]?=Z f)(h6:Q (.i (j:Int)))
theorem uq{α β:Type}{f:α->β}{xs:List α}(h:(xs.map f).Nodup){x y:α}(hx:xs[i]?=Z x)(g:xs[j]?=Z y)(e:f x=f y):i=j:=by have hi:=(jm.mp hx).1;exact(List.getElem?_inj (hi:) h).mp (by rw[fN,fN,hx,g];exact congrArg Z e)
theorem mj{fs:ϗ}(h:∀f∈fs,f.2.1.im=O):ϙ (fs.map tF)=true:=kQ λt g=>by
 let(f,hf,U):=kf.mp g;show(O&&(ϙ (f.1.2.1.map tP)&&(O&&(f.2.1.im&&O))))=O;rw[aV eO,h f hf];rfl
theorem fV(T:Txt K mg a):bg P w K mg base CX0 1 a.gR a.qJ ["functions","name"] (spQ K Ag):=by
 exists T.fG,iT,hu,(ag (bc (g:=(Tg.tp [2,3])) PassesOwn.never U (iZ U T.bh bn (ae (qv 0) aw)) (cM (aZ 2 iT.nd) (aZ 3 iT.nd))
(ai (aR (bO hu (ao (qv 3) ah) (qv 1))
(ai (aE (XL (qv 2))))
aF)))
(ai (aE cu))),λts Q h=>?_
 let(fs,j,f,U,hn,av,h8,hf,hq):=h;refine(mj av,λi q=>(∃o2 o3,q=[.r (.t (fs.map tF)),.r (.s f.1.1),o2,o3])/\i<=j,((_,_,U),zt _),?_,?_)
 ·rintro i x q hx ⟨⟨o2,o3,rfl⟩,ak⟩;let(y,hy,U):=bM hx;rw[fN]at hy;let(f',ar,U):=gV.mp hy;refine(_,U,_,U,U,aI (λg=>?_) λg=>((_,_,U),?_))
  ·have:=uq hn ar hf (V.str.inj (of_decide_eq_true g));subst this;exact(U,hq)
  obtain z|rfl:=Nat.lt_or_eq_of_le ak
  ·exact z
  rw[hf]at ar;cases ar;exact absurd (decide_eq_true U) g
 rintro q ⟨_,ak⟩;rw[aU,cU]at ak;have:=(jm.mp hf).1;omega
inductive J6(ts:ϓ)(Q:ϕ):Prop
 |mk(ks:ϖ)(kd:Kd)(m:Mk1)(h1:ts=[tKs ks,.s m.1])(h2:bC ks)(h3:kd∈ks)(h4:m∈kd.2)(h5:Q (.s kd.1))
theorem iA(T:Txt K mg a):bg P w K mg base CX0 1 a.dI a.jv ["kinds","maker"] (spQ K J6):=by
 refine T.fO.F.okQ fc (λ_ _ _ _ _ _ hr=>?_);refine(_,_,((ag (bc (g:=(Tg.tp [2,3])) PassesOwn.never U (fh (XL (qv 0))) (cM (aZ 2 fc.nd) (aZ 3 fc.nd))
(ai (aR (bE (yx U) tw U (qv 1) (ZB (bI U (dM (qv 3)) (N':=["one"]) (.own U .nil) (bA (g:=(Tg.nm 0)) (λ_ _ _ _ _=>((cb 0),(XL (ao (qv 0) ah))))))))
(ai (aE (XL (qv 2))))
aF)))
(ai (aE cu)))),λts Q h=>?_)
 let(ks,kd,m,U,gk,ay,hm,hq):=h;let(j,hj,aP):=ri ay;have ak:ks[j]?=Z kd:=by rw[dQ hj,aP]
 refine(jc ks,λi q=>(∃o2 o3,q=[.r (tKs ks),.r (.s m.1),o2,o3])/\i<=j,((_,_,U),zt _),?_,?_)
 ·rintro i x q hx ⟨⟨o2,o3,rfl⟩,ar⟩;rw[fN]at hx;let(k',V,U):=gV.mp hx;refine(_,U,aD (by rw[cU];have:=(gk.ne k' (g5 V)).2;lia),λi ys=>ys=((k'.2.take i).map (·.1)).map .s,U,?_,?_)
  ·rintro i' y ys hy rfl;rw[fN]at hy;let(z,hz,U):=gV.mp hy;refine(_,U,_,U,U,?_);rw[p7,hz];simp
  rintro ys rfl;rw[cU,ox];have aQ:inT (Ϛ m.1) ((k'.2.map (·.1)).map Ϛ)=O ↔ i=j:=by
   rw[eJ,sd];constructor
   ·intro g;let(m',av,em):=kf.mp g;exact uK gk.mn V ak av hm em
   rintro rfl;rw[ak]at V;cases V;exact kf.mpr (m,hm,U)
  refine(by rw[uQ];rfl,aI (λg=>?_) λg=>?_)
  ·have e:=aQ.mp g;subst e;rw[ak]at V;cases V;exact(U,hq)
  exact((_,_,U),ap)
 rintro q ⟨_,ar⟩;rw[cU]at ar;lia
inductive Gz(ts:ϓ)(Q:ϕ):Prop
 |mk(ks:ϖ)(fs:ϗ)(sc sc':Sc)(b b' am:L2.T)(j:Nat)(kt:L2.T)(h1:ts=[.t [tKs ks,.t (fs.map tF)],b,am,kt])(h2:kt.dof=Z (sc.map enP))(h3:Prog ks fs)(h4:Kid ks (fs.map (·.1)) sc b j b' am sc')(h5:(sc.map (·.1)).Nodup)(h6:(∀p∈sc,p.2∈ks.map (·.1)))(h7:Q (.l ((sc'.drop sc.length).map tP)))
theorem qw(T:Txt K mg a):bg P w K mg base CX0 2 a.jg a.u7 ["program",Wp,"arm","kinds"] (spQ K Gz):=by
 exists T.mL,jL,hu,(ag (aB 4 jL.nd (XL (ao (qv 1) ah)))
(ag (aR (bO hu (qv 4) (ZB aK))
(ai (aE (aO (af (aq (af (XL (ao (qv 1) ah)) (af (aJ (iA T) hr T.fO (ae (ao (qv 0) ah) (ae (ao (qv 1) ah) aw))) aj))) aj))))
aF)
(ag (aR (bO hu (qv 4) (ZB aK))
(ai (aE (aO (af (aq (af (XL (ao (qv 1) ah)) (af (XL (ao (ao (ao (qv 0) ah) (ZB (aJ (fV T) hr T.fG (ae (ao (qv 0) ah) (ae (ao (qv 1) ah) aw))))) ah)) aj))) aj))))
aF)
(ag (aR (bO hu (qv 4) (ZB aK))
(ai (aE (aO (af (aq (af (XL (ao (qv 1) ah)) (af (XL (cN (qv 3) (ao (qv 1) ah))) aj))) aj))))
aF)
(ag (aR (bO hu (qv 4) (ZB aK))
(ag (aB 5 jL.nd (aL (cB U) c9 ba T.eZ bn (ae (ZB (aJ (nC T) hr T.kK (ae (ao (qv 0) ah) (ae (cN (qv 3) (ao (qv 1) ah)) aw)))) aw)))
(ai (aE (CA U U T.mB U T.L4 (ae (ao (qv 2) ah) (ae (cN (qv 5) (ao (qv 2) ah)) aw))))))
aF)
(ai (aE (aO aj)))))))),λts Q h=>?_
 let(ks,fs,sc,sc',b,b',am,j,kt,U,ak,q,hK,V,aW,hq):=h;cases hK with
 |@cY w c b hw =>
  have n1:¬ decide ((Ϛ w).v=(Ϛ "make").v)=true:=by obtain rfl|rfl:=hw <;> decide +kernel
  have n2:¬ decide ((Ϛ w).v=(Ϛ "call").v)=true:=by obtain rfl|rfl:=hw <;> decide +kernel
  have n3:¬ decide ((Ϛ w).v=(Ϛ "name").v)=true:=by obtain rfl|rfl:=hw <;> decide +kernel
  have n4:¬ decide ((Ϛ w).v=(Ϛ "case").v)=true:=by obtain rfl|rfl:=hw <;> decide +kernel
  refine(_,U,U,U,aI (λz=>absurd z n1) λ_=>(U,aI (λz=>absurd z n2) λ_=>(U,aI (λz=>absurd z n3) λ_=>(U,aI (λz=>absurd z n4) λ_=>?_))));rw[ZH]at hq;exact hq
 |name hy hx =>refine(_,U,U,U,aa ((U,aa ((U,aI (λ_=>?_) λz=>absurd bi z)))));rw[YV]at hq;refine(_,U,U,_,U,?_);simp only[gI,ak];exact(_,yF V hy,U,hq)|make g hm hx =>refine(_,U,U,U,aI (λ_=>?_) λz=>absurd bi z);rw[YV]at hq;exact(_,U,U,_,U,_,U,ks,_,_,U,q.gk,g,hm,hq)|call hh hx =>
  refine(_,U,U,U,aa ((U,aI (λ_=>?_) λz=>absurd bi z)));rw[YV]at hq;let(f,hf,U):=kf.mp hh;let(i,hi,aQ):=ri hf;have av:fs[i]?=Z f:=by rw[dQ hi,aQ]
  refine(_,U,U,_,U,_,U,_,U,fs,i,f,U,q.hn,λf hf=>(q.sn f hf).1.im,q.l8,av,?_);exact(_,br (v:=tF f) (by rw[fN,av];rfl),_,U,U,hq)
 |@case x kd arms _ ar m hx g ay ha hm hl hN =>
  refine(_,U,U,U,aa ((U,aa ((U,aa ((U,aI (λ_=>?_) λz=>absurd bi z)))))));rw[YV]at hq;refine(_,U,_,U,?_);simp only[gI,ak];refine(_,yF V hx,ks,kd.1,U,?_);rw[ED q.gk.nd g];refine(aV EN _,_,Oj kd.2,?_);rw[sD (AG q.gk.mn g)];have em:ar.1=m.1:=by have:=congrArg (·[j]?) ay;simp only[fN,ha,hm]at this;exact Option.some.inj this
  have aP:bH (kd.2.map enM) (.inr ar.1)=Z (.t (m.2.map .s)):=by rw[em];exact nH (AG q.gk.mn g) (g5 hm)
  refine(_,U,_,U,_,aP,aX _,aX _,?_);have ez:sJ (ar.2.1.map Ϛ) (m.2.map Ϛ)=(ar.2.1.zip m.2).map tP:=by unfold sJ;rw[List.zip_map,tr];rfl
  rw[ez];exact hq
theorem Kid.sk{b b' am:L2.T}(gk:bC ks)(K:∀h∈hs,h.2.2∈ks.map (·.1))(h:Kid ks hs sc b j b' am sc')(hn:∀p∈sc,p.2∈ks.map (·.1)):∀p∈sc',p.2∈ks.map (·.1):=by
 have one:∀{x k:Str},k∈ks.map (·.1)->∀p∈sc++[(x,k)],p.2∈ks.map (·.1):=λ{x k} hk p hp=>by
  obtain z|z:=jn.mp hp
  ·exact hn p z
  rw[fy.mp z];exact hk
 cases h with
 |cY=>exact hn|name q hx=>exact one (hn _ q)|make g _ hx=>exact one (kf.mpr (_,g,U))|call h1 hx=>exact one (K _ h1)|@case _ kd _ _ _ m _ g _ _ hm hl P =>
  intro p hp;obtain z|z:=jn.mp hp
  ·exact hn p z
  exact(gk.fl kd g m (g5 hm)).2 _ (Yw z).2
def rtN(f:Fn):Nod:=(f.2.1,.n,.n,[],f.1.2.1)
structure Good(ks:ϖ)(fs:ϗ)(f:Fn)(e:Nod):Prop where
 nd:(e.sc.map (·.1)).Nodup
 sk:∀p∈e.sc,p.2∈ks.map (·.1)
 pt:Pth ks (fs.map (·.1)) f.1.2.1 e.pa e.sc
 dp:∃N,N+e.pa.length=92/\Dep N e.b
 sl:e.sc.length<=4+4*e.pa.length
 pi:∀s∈e.pa,s.2.1.im=O
variable{e:Nod}
theorem Good.lim(g:Good ks fs f e):e.sc.length<=372:=by let(N,h,d):=g.dp;have:=g.sl;lia
theorem Kid.len{b b' am:L2.T}(gk:bC ks)(h:Kid ks hs sc b j b' am sc'):sc'.length<=sc.length+4:=by cases h with|cY=>lia|name=>simp|make=>simp|call=>simp|@case _ kd _ _ _ m _ g _ _ hm hl q =>have:=(gk.fl kd g m (g5 hm)).1;rw[j3,QX];lia
theorem Kid.tup{b b' am:L2.T}(h:Kid ks hs sc b j b' am sc'):¬ Dep 0 b:=by rintro(⟨_,z⟩|⟨_,z⟩) <;> cases h <;> cases z
theorem LH:∀{N:Nat}{t:L2.T},Dep N t->t.im=O
 | 0,_,h=>by obtain⟨_,rfl⟩|⟨_,rfl⟩:=h <;> rfl
 |N+1,_,h=>by
  obtain⟨_,rfl⟩|⟨_,rfl⟩|⟨ts,rfl,h⟩:=h
  ·rfl
  ·rfl
  exact kQ λt g=>LH (h t g)
theorem A3{ks:ϖ}{fs:ϗ}{f:Fn}(q:Prog ks fs)(hf:f∈fs)(V:cv ks (fs.map (·.1)) 0 [rtN f] L):∀e∈L,Good ks fs f e:=by
 let(p1,p2,p3,p4):=q.pk f hf;refine V.all (R:=Good ks fs f) (λn d j b am sc g hk=>(hk.nd g.nd,hk.sk q.gk (λh Q=>?_) g.sk,g.pt.snoc hk,?_,?_,λs hs=>?_)) _ U λd hd=>?_
 ·let(f',P,U):=kf.mp Q;exact(q.pk f' P).2.2.2
 ·let(N,hN,K):=g.dp;cases N with|zero=>exact absurd K hk.tup|succ N=>exact(N,by show N+(d.pa++[_]).length=92;simp;lia,hk.dep K)
 ·have:=hk.len q.gk;have:=g.sl;show sc.length<=4+4*(d.pa++[_]).length;simp;lia
 ·obtain z|z:=jn.mp hs
  ·exact g.pi s z
  rw[fy.mp z];let(N,_,K):=g.dp;exact LH K
 rw[fy.mp hd];exact(p3,p2,.nil,(92,U,q.dp f hf),p1,nofun)
theorem nK:∀sc:Sc,ϝ (sc.map enP)=O
 |[]=>rfl|p::r=>by show(O&&ϝ (r.map enP))=O;rw[nK r];rfl
def tPr(ks:ϖ)(fs:ϗ):L2.T:=.t [tKs ks,.t (fs.map tF)]
inductive N5(ts:ϓ)(Q:ϕ):Prop
 |mk (ks:ϖ) (fs:ϗ) (i:Nat) (f:Fn) (L:List Nod) (h1:ts=[tPr ks fs,iN i]) (h2:Prog ks fs) (h3:fs[i]?=Z f) (h4:Pre ks (fs.map (·.1)) 0 (rtN f) L) (h5:L.length<=50000) (h6:∀X:ϓ,X.map Ϟ=L.map (λe=>Z (e.sc.map enP))->Q (.l X))
theorem uo(T:Txt K mg a):bg P w K mg base CX0 5 a.fB a.lJ ["program","f"] (spQ K N5):=by
 exists T.lN,de,hu,(ag (aB 2 de.nd (aO aj))
(ag (aB 3 de.nd (aJ (um T) hr T.sI (ae (ao (ao (ao (qv 0) ah) (qv 1)) ah) aw)))
(ag (bc (g:=(Tg.nm 4)) PassesOwn.never U (Ef (i:=3) (pv 3)) (aZ 4 de.nd)
(ai (aR (bE pE kM (bB _) (a7 T.cA T.bT (qv 4)) (ZB cu))
(ai (bq (i:=2) (pv 2) (rQ (aL (cB U) c9 ba T.eZ bn (ae (ao (ao (ao (qv 0) ah) (qv 1)) ah) aw)))))
(ag (aB 5 de.nd (aL eV fR ba T.eZ bn (ae (ao (qv 2) (a7 T.cA T.bT (qv 4))) aw)))
(ag (RM (i:=5) U (pv 5) (aJ (qw T) hr T.mL (ae (qv 0) (ae (a7 T.cA T.dC (ao (qv 3) (a7 T.cA T.bT (qv 4)))) (ae (a7 T.cA T.j8 (qv 4)) (ae (qv 5) aw))))))
(ai (ph (i:=5) (bq (i:=2) (pv 2) (XL (qv 5))))))))))
(ai (dm (i:=2) (pv 2)))))),λts Q h=>?_
 let(ks,fs,i,f,L,U,hP,hf,hR,hL,hq):=h;have ay:cv ks (fs.map (·.1)) 0 [rtN f] L:=by have:=cv.cons hR (.nil);rwa [qp]at this
 have ar:=g5 hf;have G:=A3 hP ar ay;have ef:atI (fs.map tF) (i:Int)=Z (tF f):=br (by rw[fN,hf];rfl);refine(_,U,_,ef,_,U,ks,fs.map (·.1),rtN f,L,U,U,U,hR,hL,?_);refine(λc q=>Ea3 λ(X:ϓ)(o4 o5:Sl)=>q=[.r (tPr ks fs),.r (iN i),.o (.l X),.r (.l (L.map (spN a.aW))),o4,o5]/\X.map Ϟ=(L.take c).map λe=>Z (e.sc.map enP),(_,_,_,U,U),?_,?_)
 ·rintro c y q hy ⟨X,o4,o5,rfl,hX⟩;rw[fN]at hy;let(e,he,U):=gV.mp hy;have a6:=(jm.mp he).1;have bh:X.length=c:=by have:=congrArg HH hX;rw[cU,cU,qr]at this;lia
  have av:X.length<mu:=bL ap;have fin:∀t:L2.T,t.dof=Z (e.sc.map enP)->(X++[t]).map Ϟ=(L.take (c+1)).map λe=>Z (e.sc.map enP):=λt ht=>by
   rw[ky,hX,p7,he];simp[ht]
  refine(_,U,U,ac,_,U,?_);obtain⟨j,hj,_⟩|⟨p,V,cs,j,a0,ak,hK,hc⟩:=ay.from _ rfl c e he
  ·have:e=rtN f:=by
    cases j with
    |zero=>cases hj;rfl
    |succ j=>simp at hj
   subst this;refine(av,_,U,_,ef,_,U,aV eO _,_,yt _,?_);rw[sD (hP.pk f ar).2.2.1];exact(nK _,λo vs=>(_,_,_,U,fin _ U))
  rw[Ft]at hK;let(a5,yQ):=hK.ok j _ hc;let(eb,a4,a3,bp,z):=e;obtain rfl:a4=iN p:=congrArg Nod.ab a5;have g':=G V (g5 ak);obtain⟨t,aQ,aP⟩:∃t,X[p]?=Z t/\t.dof=Z (V.sc.map enP):=by have:=congrArg (·[p]?) hX;simp only[fN,Zw a0,ak]at this;exact gV.mp this
  have a1:atI X (p:Int)=Z t:=br aQ;have a2:atI (L.map (spN a.aW)) (p:Int)=Z (spN a.aW V):=br (by rw[fN,ak];rfl);have em:dg (V.sc.map enP) ((z.drop V.sc.length).map enP)=z.map enP:=by have ex:=yQ.ext;have nn:=yQ.nd g'.nd;rw[ex]at nn;rw[AK nn,<- ex]
  refine(U,ac,_,U,_,a1,?_);simp only[bP,pB,aP];refine(nK _,?_);refine(U,ac,_,U,_,a2,U,ac,_,U,U,ac,_,U,ks,fs,V.sc,z,V.b,eb,a3,j,_,U,U,hP,yQ,g'.nd,g'.sk,?_);refine(nK _,aV eO _,_,yt _,?_,?_)
  ·have:=g'.lim;have:z.length<=V.sc.length+4:=yQ.len hP.gk;simp only[cU,Yr];exact wz (bL ap)
  rw[em];exact(nK _,λo vs=>(av,U,_,_,_,U,fin _ U))
 rintro q ⟨X,o4,o5,rfl,hX⟩;rw[cU,ox]at hX;exact hq X hX
def mkE(r:Str):Key×L2.T:=(.inr r,.b O)
theorem rZ{rs:Γ}:(bH (rs.map mkE) (.inr s)).isSome=decide (s∈rs):=by
 unfold bH;rw[Xf,List.find?_map];rw[Xf,Y0,List.find?_isSome];constructor
 ·rintro⟨x,hx,e⟩;have e:=of_decide_eq_true e;exact decide_eq_true (Sum.inr.inj e▸hx)
 intro h;exact(s,of_decide_eq_true h,decide_eq_true U)
theorem Sf(h:s ∉ rs):ix (rs.map mkE) (.inr s) (.b O)=(rs++[s]).map mkE:=by
 unfold ix;rw[if_neg]
 ·simp[mkE]
 rw[Yz,P0];rintro⟨x,hx,e⟩;have e:=of_decide_eq_true e;exact h (Sum.inr.inj e▸hx)
theorem Li:∀rs:Γ,ϝ (rs.map mkE)=O
 |[]=>rfl|p::r=>by show(O&&ϝ (r.map mkE))=O;rw[Li r];rfl
theorem nM{f:α->List β}:∀xs:List α,(∀x∈xs,(f x).length<=n)->(xs.flatMap f).length<=n*xs.length
 |[],_=>by simp|x::r,h=>by
  have h1:=h x j0;have h2:=nM r λy g=>h y (j5 _ g);rw[List.flatMap_cons,j3,qf,Nat.mul_succ];lia
theorem bC.mE(g:bC ks):(mE ks).length<=144:=by
 have h:=nM (f:=λk=>k.2.flatMap (·.2)) (n:=24) ks λk hk=>by
  have h1:=nM (f:=λm=>m.2) k.2 λm hm=>(g.fl k hk m hm).1;have h2:=(g.ne k hk).2;lia
 have h2:=g.k2;unfold L2.mE;lia
inductive Gv(ts:ϓ)(Q:ϕ):Prop
 |mk(ks:ϖ)(k:Str)(h1:ts=[tKs ks,.s k])(h2:bC ks)(h3:∀rs:Γ,(∀s,s∈rs ↔ Reach ks k s)->Q (.d (rs.map mkE)))
theorem pJ(T:Txt K mg a):bg P w K mg base CX0 2 a.dH a.ju ["kinds","kind"] (spQ K Gv):=by
 exists T.jA,cj,hu,(ag (aB 2 cj.nd (JE (qv 1) (ZB qm)))
(ag (aB 3 cj.nd (aO (af (XL (qv 1)) aj)))
(ag (tY PassesOwn.never (ip (qv 3))
(ag (Cz (j:=4) cj.nd U (Or.inl U) (pv 3))
(ai (bc (g:=(Tg.nm 5)) PassesOwn.never U (fh (aJ (nC T) hr T.kK (ae (qv 0) (ae (qv 4) aw)))) (aZ 5 cj.nd)
(ai (bc (g:=(Tg.nm 6)) PassesOwn.never U (fh (XL (ao (qv 5) ah))) (aZ 6 cj.nd)
(ai (aR (bE (GJ hu) mW U (qv 6) (qv 2))
(ag (jT (i:=2) hu (pv 2) (qv 6) (ZB qm))
(ai (bq (i:=3) (pv 3) (XL (qv 6)))))
aF))))))))
(ai (dm (i:=2) (pv 2)))))),λts Q h=>?_
 let(ks,k,U,gk,hq):=h;have av:=gk.mE;refine(U,U,λc q=>Ea7 λ(rs W:Γ)(D:List (Key×L2.T))(X:ϓ)(o4 o5 V:Sl)=>q=[.r (tKs ks),.r (.s k),.o (.d D),.o (.l X),o4,o5,V]/\D=rs.map mkE/\X=W.map .s/\RWt ks k rs W/\c=2*un (mE ks) rs+W.length,(_,[k],[k],_,_,_,_,_,U,U,U,.start,U),?_);rintro c q ⟨rs,W,D,X,o4,o5,V,rfl,rfl,rfl,R,rfl⟩;obtain rfl |⟨W,here,rfl⟩:=Zc W
 ·exact hq rs λs=>R.all
 rw[ZO]at *;have R0:=R.pop;generalize hc:2*un (mE ks) rs+(W++[here]).length=c at R0 ⊢;refine aI (λ_=>?_) (λz=>absurd ad z);refine(λq'=>∃(rs W:Γ)(D:List (Key×L2.T))(X:ϓ)(o4 o5 V:Sl),q'=[.r (tKs ks),.r (.s k),.o (.d D),.o (.l X),o4,o5,V]/\D=rs.map mkE/\X=W.map .s/\RWt ks k rs W/\2*un (mE ks) rs+W.length<c,?_,?_)
 ·rintro q' ⟨rs,W,D,X,o4,o5,V,rfl,rfl,rfl,g1,g2⟩;exact(_,g2,rs,W,_,_,_,_,_,U,U,U,g1,U)
 refine(W.map .s,.s here,ad,aX _,ac,ks,here,U,?_);refine(λi q=>Ea7 λ(rs W:Γ)(D:List (Key×L2.T))(X:ϓ)(o4 o5 V:Sl)=>q=[.r (tKs ks),.r (.s k),.o (.d D),.o (.l X),o4,o5,V]/\D=rs.map mkE/\X=W.map .s/\RS ks k here (((c6 ks here).take i).flatMap (·.2)) rs W c,(rs,W,_,_,_,_,_,U,U,U,R0),?_,?_)
 ·rintro i y q hy ⟨rs,W,D,X,o4,o5,V,rfl,rfl,rfl,R1⟩;rw[fN]at hy;let(m,hm,U):=gV.mp hy;refine(_,U,_,U,aX _,λj q=>Ea7 λ(rs W:Γ)(D:List (Key×L2.T))(X:ϓ)(o4 o5 V:Sl)=>q=[.r (tKs ks),.r (.s k),.o (.d D),.o (.l X),o4,o5,V]/\D=rs.map mkE/\X=W.map .s/\RS ks k here (((c6 ks here).take i).flatMap (·.2)++m.2.take j) rs W c,(rs,W,_,_,_,_,_,U,U,U,by rw[ZV,qp];exact R1),?_,?_)
  ·rintro j y q hy ⟨rs,W,D,X,o4,o5,V,rfl,rfl,rfl,R2⟩;rw[fN]at hy;let(f,hf,U):=gV.mp hy;have ak:f∈yW ks here:=Wc.mpr (m,g5 hm,g5 hf);have et:((c6 ks here).take i).flatMap (·.2)++m.2.take (j+1)=(((c6 ks here).take i).flatMap (·.2)++m.2.take j)++[f]:=by rw[p7,hf,vt];rfl
   have hsz:=R2.sz;have ar:=R2.sw;refine(_,U,aI (λg=>?_) λg=>?_)
   ·rw[rZ]at g;have hn:f ∉ rs:=λz=>by rw[decide_eq_true z]at g;cases g
    refine(aD (by rw[cU];lia),Li _,U,?_);rw[Sf hn];refine(aD (by rw[cU];lia),U,?_);exact(rs++[f],W++[f],_,_,_,_,_,U,U,ad,by rw[et];exact R2.new hn ak)
   rw[rZ]at g;have hn:f∈rs:=by
    by_cases z:f∈rs
    ·exact z
    rw[decide_eq_false z]at g;exact absurd U g
   exact(rs,W,_,_,_,_,_,U,U,U,by rw[et];exact R2.old hn)
  rintro q ⟨rs,W,D,X,o4,o5,V,rfl,rfl,rfl,R2⟩;rw[cU,ox]at R2;exact(rs,W,_,_,_,_,_,U,U,U,by rw[<- oT (f:=λm:Mk1=>m.2) hm];exact R2)
 rintro q ⟨rs,W,D,X,o4,o5,V,rfl,rfl,rfl,R1⟩;rw[cU,ox]at R1;exact(rs,W,_,_,_,_,_,U,U,U,R1.fin U,R1.m)
inductive JZ(ts:ϓ)(Q:ϕ):Prop
 |mk(ks:ϖ)(k:Str)(h1:ts=[tKs ks,.s k])(h2:bC ks)(h3:Q (.t ((cF ks k ks).map .s)))
theorem bC.wl(g:bC ks){xs:ϖ}(h:∀x∈xs,x∈ks):(cF ks k xs).length<=6*xs.length:=by
 refine nM xs λx hx=>?_;split
 ·rw[cU];exact(g.ne x (h x hx)).2
 exact zt _
theorem pH(T:Txt K mg a):bg P w K mg base CX0 3 a.nO a.Be ["kinds","kind"] (spQ K JZ):=by
 exists T.oE,il,hu,(ag (aB 2 il.nd (aJ (pJ T) hr T.jA (ae (qv 0) (ae (qv 1) aw))))
(ag (aB 3 il.nd (aO aj))
(ag (bc (g:=(Tg.tp [4,5])) PassesOwn.never U (fh (XL (qv 0))) (cM (aZ 4 il.nd) (aZ 5 il.nd))
(ai (aR (bE (uk hu) mW U (qv 4) (qv 2))
(ai (cT (i:=3) (pv 3) (bI U (dM (qv 5)) (N':=["maker"]) (.own U .nil) (bA (g:=(Tg.nm 0)) (λ_ _ _ _ _=>((cb 0),(XL (ao (qv 0) ah))))))))
aF)))
(ai (aE (aL (bN U) b7 ba T.cE bn (ae (qv 3) aw))))))),λts Q h=>?_
 let(ks,k,U,gk,hq):=h;have k6:=gk.k2;refine(ks,k,U,gk,λrs V=>?_);refine(jc ks,λi q=>Ea3 λ(X:ϓ)(o4 o5:Sl)=>q=[.r (tKs ks),.r (.s k),.o (.d (rs.map mkE)),.o (.l X),o4,o5]/\X=(cF ks k (ks.take i)).map .s,(_,_,_,U,U),?_,?_)
 ·rintro i y q hy ⟨X,o4,o5,rfl,rfl⟩;rw[fN]at hy;let(x,hx,U):=gV.mp hy;have hl:=gk.wl (k:=k) (xs:=ks.take i) λy hy=>QH hy;have ar:(ks.take i).length<=6:=by rw[qr];lia
  have ak:=(gk.ne x (g5 hx)).2;refine(_,U,aI (λg=>?_) λg=>?_)
  ·rw[rZ]at g;have hR:=(V _).mp (of_decide_eq_true g);refine(aD (by rw[cU];lia),λj ys=>ys=((x.2.take j).map (·.1)).map .s,U,?_,?_)
   ·rintro j z ys hz rfl;rw[fN]at hz;let(m,hm,U):=gV.mp hz;refine(_,U,_,U,U,?_);show _++[Ϛ m.1]=_;rw[p7,hm];simp
   rintro ys rfl;rw[cU,ox];refine(?_,?_)
   ·simp only[cU];exact wz (aD ap)
   exact(_,_,_,U,by rw[HU hx hR,ky])
  rw[rZ]at g;have hR:¬ Reach ks k x.1:=λz=>g (decide_eq_true ((V _).mpr z));exact(_,_,_,U,by rw[ML hx hR])
 rintro q ⟨X,o4,o5,rfl,rfl⟩;rw[cU,ox];exact(aX _,hq)
inductive NX(ts:ϓ)(Q:ϕ):Prop
 |mk (ks:ϖ) (u:L2.T) (fam:ϓ) (k:Str) (h1:ts=[.t [tKs ks,u],.t fam,.s k]) (h2:bC ks) (h3:ϙ fam=O) (h4:fam.length<=10) (h5:Q (.l ((cF ks k ks).map λm=>.t (fam++[.s m]))))
theorem j6(T:Txt K mg a):bg P w K mg base CX0 4 a.fA a.lH ["program","family","kind"] (spQ K NX):=by
 exists T.cV,tJ,V,(ai (aE (bI U (dM (ZB (aJ (pH T) hr T.oE (ae (ao (qv 0) ah) (ae (qv 2) aw))))) (N':=["maker","family"]) (.own U (.got (i:=1) U U (.inl U) .nil)) (bA (g:=(Tg.nm 0)) (λ_ _ _ _ _=>((cb 0),(aS (qv 1) (ZB (aq (af (XL (qv 0)) aj)))))))))),λts Q h=>?_;let(ks,u,fam,k,U,gk,hi,hl,hq):=h;have z:=gk.k2;have wl:=gk.wl (k:=k) (xs:=ks) λ_ h=>h;refine(_,U,ks,k,U,gk,aD (by rw[cU];omega),λi ys=>ys=((cF ks k ks).take i).map λm=>.t (fam++[.s m]),U,?_,?_)
 ·rintro i y ys q rfl;rw[fN]at q;let(m,hm,U):=gV.mp q;refine(_,U,U,bF (by show fam.length+1<=10000;omega),hi,U,?_);rw[p7,hm];simp
 rintro ys rfl;rw[cU,ox];exact hq
noncomputable def BZ(ks:ϖ)(i n:Nat)(o:Option Str):ϓ:=match o with|some k=>(cF ks k ks).map λm=>.t [.s "piece",iN i,iN n,.s m]|none=>[]
noncomputable def dR(ks:ϖ)(i:Nat):Nat->Ϙ->ϓ
 |_,[]=>[]|n,o::r=>BZ ks i n o++dR ks i (n+1) r
theorem BX{ks:ϖ}{i:Nat}:∀{n:Nat},dR ks i n (os++[o])=dR ks i n os++BZ ks i (n+os.length) o:=by
 induction os with
 |nil=>intro n;show _++[]=[]++_;rw[qp];rfl
 |cons p r g=>intro n;show _++dR ks i (n+1) (r++[o])=(_++_)++_;rw[g,vt,qf,show n+1+r.length=n+(r.length+1)by lia]
theorem Ib{ks:ϖ}(g:bC ks){i:Nat}:(BZ ks i n o).length<=36:=by
 unfold BZ;split
 ·rw[cU];have:=g.wl (k:=by assumption) λ_ h=>h;have:=g.k2;lia
 exact zt _
theorem oN(g:bC ks):∀{n:Nat},(dR ks i n os).length<=36*os.length:=by induction os with|nil=>exact zt _|cons p r q =>intro n;show(BZ ks i n p++dR ks i (n+1) r).length<=_;have h1:=Ib g (i:=i) (n:=n) (o:=p);have h2:=q (n:=n+1);rw[j3,qf];lia
theorem hV(h:n<=16000000):n<mu:=YD h ac
structure oH(ks:ϖ)(L:List Nod)(os:Ϙ):Prop where
 ln:os.length=L.length
 ok:∀(n:Nat)(e:Nod)(o:Option Str),L[n]?=Z e->os[n]?=Z o->Ask ks e.sc e.b o
inductive Ss(ts:ϓ)(Q:ϕ):Prop
 |mk(ks:ϖ)(fs:ϗ)(i:Nat)(f:Fn)(L:List Nod)(os:Ϙ)(h1:ts=[tPr ks fs,iN i])(h2:Prog ks fs)(h3:fs[i]?=Z f)(h4:Pre ks (fs.map (·.1)) 0 (rtN f) L)(h5:L.length<=50000)(h6:oH ks L os)(h7:Q (.l (dR ks i 0 os)))
theorem nB(T:Txt K mg a):bg P w K mg base CX0 6 a.du a.iF ["program","f"] (spQ K Ss):=by
 exists T.iM,b8,hu,(ag (aB 2 b8.nd (aO aj))
(ag (aB 3 b8.nd (aJ (uo T) hr T.lN (ae (qv 0) (ae (qv 1) aw))))
(ag (bc (g:=(Tg.tp [4,5])) PassesOwn.never U (tZ T.bh (aJ (wR T) hr T.vG (ae (ao (ao (ao (qv 0) ah) (qv 1)) ah) aw))) (cM (aZ 4 b8.nd) (aZ 5 b8.nd))
(ag (aB 6 b8.nd (aq (af aK (af (XL (qv 1)) (af (XL (qv 4)) aj)))))
(ai (aR (bO hu (ao (qv 5) ah) (ZB aK))
(ai (cT (i:=2) (pv 2) (aJ (j6 T) hr T.cV (ae (qv 0) (ae (qv 6) (ae (ZB (aJ (iA T) hr T.fO (ae (ao (qv 0) ah) (ae (ao (qv 5) ah) aw)))) aw))))))
(ai (aR (bO hu (ao (qv 5) ah) (ZB aK))
(ai (cT (i:=2) (pv 2) (aJ (j6 T) hr T.cV (ae (qv 0) (ae (qv 6) (ae (cN (ao (qv 3) (qv 4)) (ao (qv 5) ah)) aw))))))
(ai (aR (bO hu (ao (qv 5) ah) (ZB aK))
(ai (cT (i:=2) (pv 2) (aJ (j6 T) hr T.cV (ae (qv 0) (ae (qv 6) (ae (cN (ao (qv 3) (qv 4)) (ao (qv 5) ah)) aw))))))
aF))))))))
(ai (dm (i:=2) (pv 2)))))),λts Q h=>?_
 let(ks,fs,i,f,L,os,U,V,hf,hR,hL,hA,hq):=h;have bp:cv ks (fs.map (·.1)) 0 [rtN f] L:=by have:=cv.cons hR (.nil);rwa [qp]at this
 have a5:=g5 hf;have G:=A3 V a5 bp;have ef:atI (fs.map tF) (i:Int)=Z (tF f):=br (by rw[fN,hf];rfl);refine(ks,fs,i,f,L,U,V,hf,hR,hL,λX hX=>?_);refine(_,U,_,ef,_,U,ks,fs.map (·.1),rtN f,L,U,U,U,hR,hL,?_);refine(λc q=>Ea4 λ(F:ϓ)(o4 o5 o6:Sl)=>q=[.r (tPr ks fs),.r (iN i),.o (.l F),.o (.l X),o4,o5,o6]/\F=dR ks i 0 (os.take c),(_,_,_,_,U,U),?_,?_)
 ·rintro c y q hy ⟨F,o4,o5,o6,rfl,rfl⟩;let(z,hz,U):=bM hy;rw[fN]at hz;let(e,he,U):=gV.mp hz;have a6:=(jm.mp he).1;have a3:c<os.length:=by rw[hA.ln];exact a6
  have ho:os[c]?=Z os[c]:=dQ a3;obtain⟨o,ho,hk⟩:∃o,os[c]?=Z o/\Ask ks e.sc e.b o:=(_,ho,hA.ok c e _ he ho);have g:=G e (g5 he);have nx:∀{o:Option Str},os[c]?=Z o->dR ks i 0 (os.take (c+1))=dR ks i 0 (os.take c)++BZ ks i c o:=λ{o} h=>by
   rw[p7,h];show dR ks i 0 (os.take c++[o])=_;rw[BX,qr,Mi ap,Ft]
  have bt:(dR ks i 0 (os.take c)).length<=36*50000:=by have:=oN V.gk (i:=i) (os:=os.take c) (n:=0);rw[qr]at this;have:=hA.ln;lia
  obtain⟨t,a0,ar⟩:∃t,X[c]?=Z t/\t.dof=Z (e.sc.map enP):=by have:=congrArg (·[c]?) hX;simp only[fN,he]at this;exact gV.mp this
  have a1:atI X (c:Int)=Z t:=br a0;let(b,ab,am,pa,sc):=e;have hk:Ask ks sc b o:=hk;have ak:∀k,(dR ks i 0 (os.take c)).length+((cF ks k ks).map λm=>Ϝ ([.s "piece",iN i,iN c]++[.s m])).length<=mu:=λk=>by
   have:=V.gk.wl (k:=k) (xs:=ks) λ_ h=>h;have:=V.gk.k2;rw[cU];exact wz (hV ap)
  have non:o=Y->Ea4 λ(F:ϓ)(aP ay av:Sl)=>[.r (tPr ks fs),.r (iN i),.o (.l (dR ks i 0 (os.take c))),.o (.l X),.r (iN c),.r b,.o (.t [.s "piece",iN i,iN c])]=[.r (tPr ks fs),.r (iN i),.o (.l F),.o (.l X),aP,ay,av]/\F=dR ks i 0 (os.take (c+1)):=λe=>by
   subst e;exact(_,_,_,_,U,by rw[nx ho];exact(qp _).symm)
  refine(_,U,U,U,?_);cases hk with
  |give=>exact(_,U,U,aa ((_,U,U,aa ((_,U,U,aa (non U))))))|@cY w c' b hw =>
   have n1:¬ decide ((Ϛ w).v=(Ϛ "make").v)=true:=by obtain rfl|rfl:=hw <;> decide +kernel
   have n2:¬ decide ((Ϛ w).v=(Ϛ "name").v)=true:=by obtain rfl|rfl:=hw <;> decide +kernel
   have n3:¬ decide ((Ϛ w).v=(Ϛ "case").v)=true:=by obtain rfl|rfl:=hw <;> decide +kernel
   exact(_,U,U,aI (λz=>absurd z n1) λ_=>(_,U,U,aI (λz=>absurd z n2) λ_=>(_,U,U,aI (λz=>absurd z n3) λ_=>non U)))
  |call=>exact(_,U,U,aa ((_,U,U,aa ((_,U,U,aa (non U))))))|@make x m kd ns b a4 hm =>refine(_,U,U,aI (λ_=>?_) λz=>absurd bi z);refine(_,U,_,U,ks,kd,m,U,V.gk,a4,hm,ks,.t (fs.map tF),_,kd.1,U,V.gk,U,(by show 3<=10;decide),ak kd.1,?_);exact(_,_,_,_,U,by rw[nx ho];rfl)|@name x y k b aQ =>refine(_,U,U,aa ((_,U,U,aI (λ_=>?_) λz=>absurd bi z)));refine(t,a1,_,U,?_);simp only[gI,ar];refine(_,yF g.nd aQ,ks,.t (fs.map tF),_,k,U,V.gk,U,(by show 3<=10;decide),ak k,?_);exact(_,_,_,_,U,by rw[nx ho];rfl)|@case x k arms aW =>refine(_,U,U,aa ((_,U,U,aa ((_,U,U,aI (λ_=>?_) λz=>absurd bi z)))));refine(t,a1,_,U,?_);simp only[gI,ar];refine(_,yF g.nd aW,ks,.t (fs.map tF),_,k,U,V.gk,U,(by show 3<=10;decide),ak k,?_);exact(_,_,_,_,U,by rw[nx ho];rfl)
 rintro q ⟨F,o4,o5,o6,rfl,rfl⟩;rw[aU,cU,<- hA.ln,ox];exact hq
noncomputable def mx(ks:ϖ)(fam:ϓ)(k:Str):ϓ:=(cF ks k ks).map λm=>.t (fam++[.s m])
theorem nN(g:bC ks):(mx ks fam k).length<=36:=by unfold mx;rw[cU];have:=g.wl (k:=k) λ_ h=>h;have:=g.k2;lia
noncomputable def d3(ks:ϖ)(i:Nat):Nat->Sc->ϓ
 |_,[]=>[]|k,p::r=>mx ks [.s "param",iN i,iN k] p.2++d3 ks i (k+1) r
theorem zM:∀{k:Nat},d3 ks i k (sc++[p])=d3 ks i k sc++mx ks [.s "param",iN i,iN (k+sc.length)] p.2:=by
 induction sc with
 |nil=>intro k;show _++[]=[]++_;rw[qp];rfl
 |cons q r g=>intro k;show _++d3 ks i (k+1) (r++[p])=(_++_)++_;rw[g,vt,qf,show k+1+r.length=k+(r.length+1)by lia]
theorem lP(g:bC ks):∀{k:Nat},(d3 ks i k sc).length<=36*sc.length:=by induction sc with|nil=>exact zt _|cons p r q =>intro k;show(mx ks [.s "param",iN i,iN k] p.2++d3 ks i (k+1) r).length<=_;have h1:=nN g (fam:=[.s "param",iN i,iN k]) (k:=p.2);have h2:=q (k:=k+1);rw[j3,qf];lia
noncomputable def oP(ks:ϖ)(i:Nat)(f:Fn)(os:Ϙ):ϓ:=d3 ks i 0 f.1.2.1++[.t [.s "first",iN i]]++mx ks [.s "result",iN i] f.1.2.2++[.t [.s "last",iN i]]++dR ks i 0 os
noncomputable def bZ(ks:ϖ):Nat->List (Fn×Ϙ)->ϓ
 |_,[]=>[]|i,x::r=>oP ks i x.1 x.2++bZ ks (i+1) r
theorem B0{ks:ϖ}{x:Fn×Ϙ}:∀{i:Nat},bZ ks i (xs++[x])=bZ ks i xs++oP ks (i+xs.length) x.1 x.2:=by
 induction xs with
 |nil=>intro i;show _++[]=[]++_;rw[qp];rfl
 |cons q r g=>intro i;show _++bZ ks (i+1) (r++[x])=(_++_)++_;rw[g,vt,qf,show i+1+r.length=i+(r.length+1)by lia]
structure Unk(ks:ϖ)(fs:ϗ)(xs:List (Fn×Ϙ)):Prop where
 fn:xs.map (·.1)=fs
 ok:∀x∈xs,∃L,Pre ks (fs.map (·.1)) 0 (rtN x.1) L/\L.length<=50000/\oH ks L x.2
theorem Ic(g:bC ks){f:Fn}(h4:f.1.2.1.length<=4)(ho:os.length<=50000):(oP ks i f os).length<=1800200:=by have h1:=lP g (i:=i) (sc:=f.1.2.1) (k:=0);have h2:=nN g (fam:=[.s "result",iN i]) (k:=f.1.2.2);have h3:=oN g (i:=i) (os:=os) (n:=0);unfold oP;simp only[j3,zq];lia
theorem oO(g:bC ks)(h:∀x∈xs,x.1.1.2.1.length<=4/\x.2.length<=50000):∀{i:Nat},(bZ ks i xs).length<=1800200*xs.length:=by induction xs with|nil=>exact zt _|cons x r q =>intro i;show(oP ks i x.1 x.2++bZ ks (i+1) r).length<=_;have h0:=h x j0;have h1:=Ic g (i:=i) h0.1 h0.2;have h2:=q (λy z=>h y (j5 _ z)) (i:=i+1);rw[j3,qf];lia
inductive Vx(ts:ϓ)(Q:ϕ):Prop
 |mk(ks:ϖ)(fs:ϗ)(xs:List (Fn×Ϙ))(h1:ts=[tPr ks fs])(h2:Prog ks fs)(h3:Unk ks fs xs)(h4:Q (.l (bZ ks 0 xs)))
theorem gL(T:Txt K mg a):bg P w K mg base CX0 7 a.je a.uY ["program"] (spQ K Vx):=by
 exists T.gC,dU,hu,(ag (aB 1 dU.nd (aO aj))
(ag (bc (g:=(Tg.tp [2,3])) PassesOwn.never U (iZ U T.bh bn (ae (ao (qv 0) ah) aw)) (cM (aZ 2 dU.nd) (aZ 3 dU.nd))
(ag (bc (g:=(Tg.tp [4,5])) PassesOwn.never U (iZ U T.bh bn (ae (ao (qv 3) ah) aw)) (cM (aZ 4 dU.nd) (aZ 5 dU.nd))
(ai (cT (i:=1) (pv 1) (aJ (j6 T) hr T.cV (ae (qv 0) (ae (ZB (aq (af aK (af (XL (qv 2)) (af (XL (qv 4)) aj))))) (ae (ao (qv 5) ah) aw)))))))
(ag (bq (i:=1) (pv 1) (aq (af aK (af (XL (qv 2)) aj))))
(ag (cT (i:=1) (pv 1) (aJ (j6 T) hr T.cV (ae (qv 0) (ae (ZB (aq (af aK (af (XL (qv 2)) aj)))) (ae (ao (qv 3) ah) aw)))))
(ag (bq (i:=1) (pv 1) (aq (af aK (af (XL (qv 2)) aj))))
(ai (cT (i:=1) (pv 1) (aJ (nB T) hr T.iM (ae (qv 0) (ae (qv 2) aw))))))))))
(ai (dm (i:=1) (pv 1))))),λts Q h=>?_
 let(ks,fs,xs,U,V,hU,hq):=h;have l8:=V.l8;have lx:xs.length=fs.length:=by rw[<- hU.fn,cU]
 have lim:∀x∈xs,x.1.1.2.1.length<=4/\x.2.length<=50000:=λx hx=>by
  let(L,_,h5,hA):=hU.ok x hx;have:x.1∈fs:=by rw[<- hU.fn];exact kf.mpr (x,hx,U)
  exact((V.pk _ this).1,by rw[hA.ln];exact h5)
 refine(_,U,mj λf hf=>(V.sn f hf).1.im,λc q=>Ea5 λ(F:ϓ)(o2 o3 o4 o5:Sl)=>q=[.r (tPr ks fs),.o (.l F),o2,o3,o4,o5]/\F=bZ ks 0 (xs.take c),(_,_,_,_,_,U,U),?_,?_)
 ·rintro c y q hy ⟨F,o2,o3,o4,o5,rfl,rfl⟩;let(z,hz,U):=bM hy;rw[fN]at hz;let(f,hf,U):=gV.mp hz;have a4:=(jm.mp hf).1;have av:=g5 hf;let(p1,p2,p3,p4):=V.pk f av;have ak:xs[c]?=Z xs[c]:=dQ ap;have ex:xs[c].1=f:=by have:=congrArg (·[c]?) hU.fn;simp only[fN,ak,hf]at this;exact Option.some.inj this
  let(L,hR,hL,hA):=hU.ok xs[c] (P1 _);rw[ex]at hR;have a0:=oO V.gk (xs:=xs.take c) (λx hx=>lim x (QH hx)) (i:=0);have aW:(xs.take c).length<=7:=by rw[qr];lia
  have aQ:(bZ ks 0 (xs.take c)).length<=12601400:=ap;have hp:=lP V.gk (i:=c) (sc:=f.1.2.1) (k:=0);have aP:=nN V.gk (fam:=[.s "result",iN c]) (k:=f.1.2.2);have ay:=oN V.gk (i:=c) (os:=xs[c].2) (n:=0);have a5:=hA.ln;refine(_,U,_,U,aV eO _,λj q=>Ea3 λ(F:ϓ)(o4 o5:Sl)=>q=[.r (tPr ks fs),.o (.l F),.r (iN c),.r (tF f),o4,o5]/\F=bZ ks 0 (xs.take c)++d3 ks c 0 (f.1.2.1.take j),(_,_,_,U,(qp _).symm),?_,?_)
  ·rintro j y q hy ⟨F,o4,o5,rfl,rfl⟩;let(z,hz,U):=bM hy;rw[fN]at hz;let(p,ar,U):=gV.mp hz;have a3:=(jm.mp ar).1;have h1:=lP V.gk (i:=c) (sc:=f.1.2.1.take j) (k:=0);have h2:=nN V.gk (fam:=[.s "param",iN c,iN j]) (k:=p.2);rw[qr]at h1;refine(_,U,U,U,_,U,ks,.t (fs.map tF),_,p.2,U,V.gk,U,(by show 3<=10;decide),?_,?_)
   ·show(bZ ks 0 (xs.take c)++d3 ks c 0 (f.1.2.1.take j)).length+(mx ks [.s "param",iN c,iN j] p.2).length<=mu;rw[j3];exact wz (hV ap)
   refine(_,_,_,U,?_);rw[p7,ar];show _++_=_++d3 ks c 0 (f.1.2.1.take j++[p]);rw[zM,qr,Mi ap,Ft,vt];rfl
  rintro q ⟨F,o4,o5,rfl,rfl⟩;rw[aU,cU,ox];refine(hV (by rw[j3];lia),U,?_);refine(U,_,U,ks,.t (fs.map tF),_,f.1.2.2,U,V.gk,U,(by show 2<=10;decide),?_,?_)
  ·show _+(mx ks [.s "result",iN c] f.1.2.2).length<=mu;simp only[j3,zq];exact wz (hV ap)
  refine(?_,U,?_)
  ·show(_++mx ks [.s "result",iN c] f.1.2.2).length<mu;simp only[j3,zq];exact hV ap
  refine(ks,fs,c,f,L,xs[c].2,U,V,hf,hR,hL,hA,?_,?_)
  ·show(_++mx ks [.s "result",iN c] f.1.2.2++_).length+_<=mu;simp only[j3,zq];exact wz (hV ap)
  refine(_,_,_,_,_,U,?_);rw[p7,ak];show _=bZ ks 0 (xs.take c++[xs[c]]);rw[B0,qr,Mi ap,Ft,ex];unfold oP;simp only[vt];rfl
 rintro q ⟨F,o2,o3,o4,o5,rfl,rfl⟩;rw[aU,cU,<- lx,ox];exact hq
theorem unc{α:Type}{l:List α}(h:l.length=n+1):∃x r,l=x::r/\r.length=n:=by
 cases l with
 |nil=>cases h
 |cons x r=>exact(x,r,U,Nat.succ.inj h)
theorem pL(T:Txt K mg a):bg P w K mg base CX0 1 a.dv a.jh ["self","f","free","spent","kinds","holdings"] (xG a.aP ["f","free","spent","kinds","holdings"]):=by
 refine Fun.ok (k:=0) T.f6 vP (λvs H Q E h=>?_) λcdv A outer s H vs Q E hr h=>?_
 ·let(x,dx,args,U,hl,_):=h;show args.length+1=6;rw[hl];rfl
 let(x,dx,args,U,hl,hx,hq):=h;obtain⟨v1,v2,q,v4,g,rfl⟩:∃v1 v2 q v4 g,args=[v1,v2,q,v4,g]:=by let(v1,a1,U,h1):=unc (n:=4) hl;let(v2,a2,U,h2):=unc h1;let(q,a3,U,h3):=unc h2;let(v4,V,U,h4):=unc h3;let(g,z,U,h5):=unc h4;exact(v1,v2,q,v4,g,by rw[List.eq_nil_of_length_eq_zero h5])
 refine(_,bQ (jY (pv 0) (pv 1) U) (bQ (jY (pv 0) (pv 2) U) (bQ (jY (pv 0) (pv 3) U) (bQ (jY (pv 0) (pv 4) U) (gJ (jY (pv 0) (pv 5) U))))),?_);refine(_,U,_,U,x,a.aP,dx,_,U,hx,T.bp,T.dP,(by show 0<1000;decide),?_);refine(_,U,_,U,x,a.aP,dx,_,U,aA,T.bp,T.fu,(by show 1<1000;decide),?_);refine(_,U,_,U,x,a.aP,dx,_,U,aA,T.bp,T.eC,(by show 2<1000;decide),?_);refine(_,U,_,U,x,a.aP,dx,_,U,aA,T.bp,T.df,(by show 3<1000;decide),?_);refine(_,U,_,U,x,a.aP,dx,_,U,aA,T.bp,T.cX,(by show 4<1000;decide),?_);rw[fQ,fQ,fQ,fQ];exact hq
abbrev Fam:=List Key
def tH1(p:Fam×Int):L2.T:=.t [.t (p.1.map kT),.i p.2]
def tU(p:Str×Fam):L2.T:=.t [.s p.1,.t (p.2.map kT)]
theorem VZ(p:Fam×Int):(tH1 p).im=true:=by show(ϙ (p.1.map kT)&&O)=O;rw[aV λk=>by cases k <;> rfl];rfl
def pcF(i n:Nat):Fam:=[.inr "piece",.inl i,.inl n]
def usP(j:Nat):Nat->Γ->List (Str×Fam)
 |_,[]=>[]|k,y::r=>(y,[.inr "param",.inl j,.inl k])::usP j (k+1) r
theorem HZ:∀{k:Nat},usP j k (ns++[y])=usP j k ns++[(y,[.inr "param",.inl j,.inl ((k+ns.length:Nat):Int)])]:=by
 induction ns with
 |nil=>intro k;rfl
 |cons q r g=>intro k;show _::usP j (k+1) (r++[y])=_::_;rw[g,show k+1+r.length=k+(r.length+1)by lia];rfl
inductive fM(fs:ϗ)(i n:Nat):L2.T->List (Str×Fam)->List (Fam×Int)->Int->Prop
 |give{x:Str}:fM fs i n (.t [.s "give",.s x]) [(x,[.inr "result",.inl i])] [([.inr "last",.inl i],-1)] 0|pay{c:Int}{b:L2.T}:fM fs i n (.t [.s "pay",.i c,b]) [] [] c|get{c:Int}{b:L2.T}:fM fs i n (.t [.s "get",.i c,b]) [] [] (-c)|name{x y:Str}{b:L2.T}:fM fs i n (.t [.s "name",.s x,.s y,b]) [(y,pcF i n)] [] 0|make {x m:Str} {ns:Γ} {b:L2.T}:ns.length<=4->fM fs i n (.t [.s "make",.s x,.s m,.t (ns.map .s),b]) (ns.map λy=>(y,pcF i n)) [(pcF i n++[.inr m],-1)] 0|call{x:Str}{j:Nat}{f:Fn}{ns:Γ}{b:L2.T}:fs[j]?=Z f->ns.length<=4->fM fs i n (.t [.s "call",.s x,.s f.1.1,.t (ns.map .s),b]) (usP j 0 ns) [([.inr "first",.inl j],-1)] 0|case{x:Str}{arms:List Arm}:fM fs i n (.t [.s "case",.s x,.t (arms.map tA)]) [(x,pcF i n)] [] 0
inductive So(ts:ϓ)(Q:ϕ):Prop
 |mk(ks:ϖ)(fs:ϗ)(i n:Nat)(b:L2.T)(us:List (Str×Fam))(fr:List (Fam×Int))(sp:Int)(h1:ts=[tPr ks fs,iN i,iN n,b])(h2:Prog ks fs)(h3:fM fs i n b us fr sp)(h4:Q (.l (us.map tU)))
inductive NY(ts:ϓ)(Q:ϕ):Prop
 |mk(ks:ϖ)(fs:ϗ)(i n:Nat)(b:L2.T)(us:List (Str×Fam))(fr:List (Fam×Int))(sp:Int)(h1:ts=[tPr ks fs,iN i,iN n,b])(h2:Prog ks fs)(h3:fM fs i n b us fr sp)(h4:Q (.t (fr.map tH1)))
inductive N0(ts:ϓ)(Q:ϕ):Prop
 |mk(fs:ϗ)(i n:Nat)(b:L2.T)(us:List (Str×Fam))(fr:List (Fam×Int))(sp:Int)(h1:ts=[b])(h2:fM fs i n b us fr sp)(h3:Q (.i sp))
abbrev bS:=List (Fam×Int)
structure Sd where
 fr:bS
 sp:Int
 sc:Sc
 ho:List (Str×bS)
def tHo(h:bS):L2.T:=.t (h.map tH1)
abbrev enH:Str×bS->Key×L2.T:=en (·.1) (λp=>tHo p.2)
inductive IsS(C:J)(i:Nat):L2.T->Sd->Prop
 |mk{d:Sd}{o1 o2:Obj}{v1 v2:ϐ}:IsS C i (.ob C ["f","free","spent","kinds","holdings"] [iN i,tHo d.fr,.i d.sp,.fd o1 v1 (d.sc.map enP),.fd o2 v2 (d.ho.map enH)]) d
def rn(ho:List (Str×bS))(u:Str×Fam):List (Str×bS):=ho.map λp=>if p.1=u.1 then(p.1,p.2++[(u.2,-1)])else p
def Sd.wth(d:Sd)(us:List (Str×Fam))(fr:bS)(sp:Int):Sd:=(d.fr++fr,d.sp+sp,d.sc,us.foldl rn d.ho)
structure SOk(ώ:Nat)(d:Sd):Prop where
 nd:(d.ho.map (·.1)).Nodup
 fl:d.fr.length<=ώ
 hl:∀p∈d.ho,p.2.length<=ώ
 ln:d.ho.length<=1000
theorem MP:∀{k:Nat},(usP j k ns).length=ns.length:=by
 induction ns with
 |nil=>intro k;rfl
 |cons q r g=>intro k;show(usP j (k+1) r).length+1=_;rw[g];rfl
variable{us:List (Str×Fam)}{fr:bS}
theorem fM.len{b:L2.T}(h:fM fs i n b us fr sp):us.length<=4/\fr.length<=1:=by cases h with|make h=>exact(by rw[cU];exact h,kB _)|call _ h=>exact(by rw[MP];exact h,kB _)|_=>exact(ad,ad)
variable{ho:List (Str×bS)}
theorem HA{u:Str×Fam}:(rn ho u).map (·.1)=ho.map (·.1):=by unfold rn;rw[tr];exact TH λp _=>by show(if p.1=u.1 then(p.1,p.2++[(u.2,-1)])else p).1=p.1;split <;> rfl
theorem kR:∀{ho:List (Str×bS)},(us.foldl rn ho).map (·.1)=ho.map (·.1):=by
 induction us with
 |nil=>intro ho;rfl
 |cons u r g=>exact g.trans HA
theorem Ma{u:Str×Fam}(h:∀p∈ho,p.2.length<=ώ):∀p∈rn ho u,p.2.length<=ώ+1:=λp hp=>by
 let(q,hq,U):=kf.mp hp;have:=h q hq;split
 ·simpa using this
 lia
theorem EV:∀{ώ:Nat}{ho:List (Str×bS)},(∀p∈ho,p.2.length<=ώ)->∀p∈us.foldl rn ho,p.2.length<=ώ+us.length:=by
 induction us with
 |nil=>intro ώ ho h;exact h
 |cons u r g=>intro ώ ho h p hp;have:=g (Ma h) p hp;rw[qf];lia
theorem JT{fam:Fam}{h:bS}(hn:(ho.map (·.1)).Nodup)(hx:(x,h)∈ho):ix (ho.map enH) (.inr x) (tHo (h++[(fam,-1)]))=(rn ho (x,fam)).map enH:=by
 unfold ix rn;rw[if_pos,tr,tr]
 ·refine TH λp hp=>?_;show(if(Sum.inr p.1:Key)=.inr x then(Sum.inr p.1,tHo (h++[(fam,-1)]))else enH p)=enH (if p.1=x then(p.1,p.2++[(fam,-1)])else p);by_cases e:p.1=x
  ·rw[if_pos (congrArg _ e),if_pos e];let(i,hi,q):=ri hp;let(j,K,g):=ri hx;have:=uq hn (dQ hi) (dQ K) (by rw[q,g];exact e);subst this;have P:=q.symm.trans g;rw[P];rfl
  rw[if_neg λz=>e (Sum.inr.inj z),if_neg e]
 rw[Yz,P0];exact(_,hx,decide_eq_true U)
theorem kh(f:Fam):ϙ (f.map kT)=true:=aV (λk=>by cases k <;> rfl) f
theorem kj(h:bS):(tHo h).im=true:=aV VZ h
theorem qE:∀ho:List (Str×bS),ϝ (ho.map enH)=O
 |[]=>rfl|p::r=>by
  show(L2.T.im (tHo p.2)&&ϝ (r.map enH))=O;rw[qE r,kj];rfl
inductive Sn(C:J)(ts:ϓ)(Q:ϕ):Prop
 |mk(ks:ϖ)(fs:ϗ)(i n:Nat)(b S:L2.T)(d:Sd)(us:List (Str×Fam))(fr:bS)(sp:Int)(h1:ts=[tPr ks fs,iN n,b,S])(h2:Prog ks fs)(h3:b.im=O)(h4:IsS C i S d)(h5:fM fs i n b us fr sp)(h6:(∀u∈us,u.1∈d.ho.map (·.1)))(h7:SOk 5000 d)(h8:∀S',IsS C i S' (d.wth us fr sp)->Q S')
def wq(i:Nat):Nat->Sc->List (Str×bS)
 |_,[]=>[]|k,p::r=>(p.1,[([.inr "param",.inl i,.inl k],1)])::wq i (k+1) r
theorem Hw{i:Nat}{p:Str×Str}:∀{k:Nat},wq i k (sc++[p])=wq i k sc++[(p.1,[([.inr "param",.inl i,.inl ((k+sc.length:Nat):Int)],1)])]:=by
 induction sc with
 |nil=>intro k;rfl
 |cons q r g=>intro k;show _::wq i (k+1) (r++[p])=_::_;rw[g,show k+1+r.length=k+(r.length+1)by lia];rfl
theorem xn:∀{k:Nat},(wq i k sc).map (·.1)=sc.map (·.1):=by
 induction sc with
 |nil=>intro k;rfl
 |cons q r g=>intro k;show _ ::(wq i (k+1) r).map (·.1)=_::_;rw[g]
def L3(i:Nat)(f:Fn):Sd:=([([.inr "first",.inl i],1)],0,f.1.2.1,wq i 0 f.1.2.1)
inductive N3(C:J)(ts:ϓ)(Q:ϕ):Prop
 |mk(ks:ϖ)(fs:ϗ)(i:Nat)(f:Fn)(h1:ts=[tPr ks fs,iN i])(h2:Prog ks fs)(h3:fs[i]?=Z f)(h4:∀S,IsS C i S (L3 i f)->Q S)
inductive BrR(fs:ϗ)(i n:Nat):L2.T->L2.T->Fam->bS->Prop
 |plain{w:Str}{r:ϓ}{am:L2.T}:w ≠ "call"->w ≠ "case"->BrR fs i n (.t (.s w::r)) am (pcF i n) []|call{x:Str}{j:Nat}{f:Fn}{ns:Γ}{b am:L2.T}:fs[j]?=Z f->BrR fs i n (.t [.s "call",.s x,.s f.1.1,.t (ns.map .s),b]) am [.inr "result",.inl j] [([.inr "last",.inl j],1)]|case{x:Str}{arms:List Arm}{ar:Arm}:BrR fs i n (.t [.s "case",.s x,.t (arms.map tA)]) (tA ar) (pcF i n) [(pcF i n++[.inr ar.1],1)]
def Sd.bhd(d:Sd)(fam:Fam)(fr:bS)(sc':Sc):Sd:=(d.fr++fr,d.sp,sc',d.ho++(sc'.drop d.sc.length).map λp=>(Prod.mk p.1 [(fam,1)]))
inductive J8(C:J)(ts:ϓ)(Q:ϕ):Prop
 |mk(ks:ϖ)(fs:ϗ)(i n j:Nat)(b b' am S:L2.T)(d:Sd)(sc':Sc)(fam:Fam)(fr:bS)(h1:ts=[tPr ks fs,iN n,b,am,S])(h2:Prog ks fs)(h3:IsS C i S d)(h4:Kid ks (fs.map (·.1)) d.sc b j b' am sc')(h5:BrR fs i n b am fam fr)(h6:(d.sc.map (·.1)).Nodup)(h7:(∀p∈d.sc,p.2∈ks.map (·.1)))(h8:d.ho.map (·.1)=d.sc.map (·.1))(h9:d.sc.length<=900)(h10:d.fr.length<=5000)(h11:∀S',IsS C i S' (d.bhd fam fr sc')->Q S')
theorem AA(T:Txt K mg a):bg P w K mg base CX0 1 a.jf a.uZ [Wp] (spQ K N0):=by
 exists T.vE,zS,g,(ag (aR (bO g (ao (qv 0) ah) (ZB aK))
(ai (aE (XL (ao (qv 0) ah))))
aF)
(ag (aR (bO g (ao (qv 0) ah) (ZB aK))
(ai (aE (jU (ao (qv 0) ah))))
aF)
(ai (aE bw)))),λts Q h=>?_
 let(fs,i,n,b,us,fr,sp,U,q,hq):=h;cases q with|pay=>exact(_,U,U,aI (λ_=>(_,U,U,hq)) λz=>absurd bi z)|get=>exact(_,U,U,aa ((_,U,U,aI (λ_=>(_,U,hq)) λz=>absurd bi z)))|_=>exact(_,U,U,aa ((_,U,U,aa (hq))))
theorem vY(T:Txt K mg a):bg P w K mg base CX0 2 a.fX a.nZ ["program","f","n",Wp] (spQ K NY):=by
 exists T.oF,vO,g,(ag (aR (bO g (ao (qv 3) ah) (ZB aK))
(ai (aE (aq (af (aq (af (aq (af aK (af (XL (qv 1)) (af (XL (qv 2)) (af (XL (ao (qv 3) ah)) aj))))) (af (jU ah) aj))) aj))))
aF)
(ag (aR (bO g (ao (qv 3) ah) (ZB aK))
(ai (aE (aq (af (aq (af (aq (af aK (af (aJ (fV T) hr T.fG (ae (ao (qv 0) ah) (ae (ao (qv 3) ah) aw))) aj))) (af (jU ah) aj))) aj))))
aF)
(ag (aR (bO g (ao (qv 3) ah) (ZB aK))
(ai (aE (aq (af (aq (af (aq (af aK (af (XL (qv 1)) aj))) (af (jU ah) aj))) aj))))
aF)
(ai (aE (aq aj)))))),λts Q h=>?_
 let(ks,fs,i,n,b,us,fr,sp,U,q,hU,hq):=h;cases hU with|make=>exact(_,U,U,aI (λ_=>(U,U,_,U,U,hq)) λz=>absurd bi z)|@call x j f ns b V =>exact(_,U,U,aa ((_,U,U,aI (λ_=>(_,U,_,U,fs,j,f,U,q.hn,λf hf=>(q.sn f hf).1.im,q.l8,V,hq)) λz=>absurd bi z)))|give=>exact(_,U,U,aa ((_,U,U,aa ((_,U,U,aI (λ_=>(U,hq)) λz=>absurd bi z)))))|_=>exact(_,U,U,aa ((_,U,U,aa ((_,U,U,aa (hq))))))
theorem OE(T:Txt K mg a):bg P w K mg base CX0 2 a.yZ a.LJ ["program","f","n",Wp] (spQ K So):=by
 exists T.Mw,xJ,V,(ag (aB 4 xJ.nd (XL (ao (qv 3) ah)))
(ag (aR (bO V (qv 4) (ZB aK))
(ai (aE (bI U (dM (ao (qv 3) ah)) (N':=["name","f","n"]) (.own U (.got (i:=1) U U (.inl U) (.got (i:=2) U U (.inl U) .nil))) (bA (g:=(Tg.nm 0)) (λ_ _ _ _ _=>((cb 0),(aq (af (XL (qv 0)) (af (aq (af aK (af (XL (qv 1)) (af (XL (qv 2)) aj)))) aj)))))))))
aF)
(ag (aR (bO V (qv 4) (ZB aK))
(ag (aB 5 xJ.nd (aJ (fV T) hr T.fG (ae (ao (qv 0) ah) (ae (ao (qv 3) ah) aw))))
(ai (aE (bI U (yd U T.bh bn (ae (ao (qv 3) ah) aw)) (N':=["k","name","g"]) (.own U (.own U (.got (i:=5) U U (.inl U) .nil))) (bA (g:=(Tg.tp [0,1])) (λ_ _ _ _ _=>((cM (cb 0) (cb 1)),(aq (af (XL (qv 1)) (af (aq (af aK (af (XL (qv 2)) (af (XL (qv 0)) aj)))) aj))))))))))
aF)
(ag (aR (bO V (qv 4) (ZB aK))
(ai (aE (aO (af (aq (af (XL (ao (qv 3) ah)) (af (aq (af aK (af (XL (qv 1)) (af (XL (qv 2)) aj)))) aj))) aj))))
aF)
(ag (aR (bO V (qv 4) (ZB aK))
(ai (aE (aO (af (aq (af (XL (ao (qv 3) ah)) (af (aq (af aK (af (XL (qv 1)) (af (XL (qv 2)) aj)))) aj))) aj))))
aF)
(ag (aR (bO V (qv 4) (ZB aK))
(ai (aE (aO (af (aq (af (XL (ao (qv 3) ah)) (af (aq (af aK (af (XL (qv 1)) aj))) aj))) aj))))
aF)
(ai (aE (aO aj))))))))),λts Q h=>?_
 let(ks,fs,i,n,b,us,fr,sp,U,hP,hU,hq):=h;cases hU with
 |@make x m ns b hl =>
  refine(_,U,U,U,aI (λ_=>?_) λz=>absurd bi z);refine(_,U,aD (by rw[cU];lia),λc ys=>ys=((ns.take c).map λy=>(y,pcF i n)).map tU,U,?_,?_)
  ·rintro c y ys hy rfl;rw[fN]at hy;let(z,hz,U):=gV.mp hy;refine(_,U,U,U,U,?_);rw[p7,hz,ky,ky];rfl
  rintro ys rfl;rw[cU,ox];exact hq
 |@call x j f ns b hj hl =>
  refine(_,U,U,U,aa ((U,aI (λ_=>?_) λz=>absurd bi z)));refine(_,U,_,U,fs,j,f,U,hP.hn,λf hf=>(hP.sn f hf).1.im,hP.l8,hj,?_);refine(_,U,aD (by rw[aU,cU];lia),λc ys=>ys=(usP j 0 (ns.take c)).map tU,U,?_,?_)
  ·rintro c y ys hy rfl;let(z,q,U):=bM hy;rw[fN]at q;let(z,hz,U):=gV.mp q;have ak:=(jm.mp hz).1;refine(_,U,U,U,U,?_);rw[p7,hz];show _++_=(usP j 0 (ns.take c++[z])).map tU;rw[HZ,ky,qr,Mi ap,Ft];rfl
  rintro ys rfl;rw[aU,cU,ox];exact hq
 |name=>exact(_,U,U,U,aa ((U,aa ((U,aI (λ_=>(_,U,U,U,U,hq)) λz=>absurd bi z)))))|case=>exact(_,U,U,U,aa ((U,aa ((U,aa ((U,aI (λ_=>(_,U,U,U,U,hq)) λz=>absurd bi z)))))))|give=>exact(_,U,U,U,aa ((U,aa ((U,aa ((U,aa ((U,aI (λ_=>(_,U,U,U,hq)) λz=>absurd bi z)))))))))|_=>exact(_,U,U,U,aa ((U,aa ((U,aa ((U,aa ((U,aa (hq))))))))))
theorem lD(T:Txt K mg a):bg P w K mg base CX0 3 a.fY a.n6 ["program","n",Wp,"stand"] (spQ K (Sn a.aP)):=by
 exists T.jr,dz,hu,(ag (aB 4 dz.nd (aL eV fR ba T.eZ bn (ae (a7 T.bp T.cX (qv 3)) aw)))
(ag (bc (g:=(Tg.tp [5,6])) PassesOwn.never U (yc (aJ (OE T) hr T.Mw (ae (qv 0) (ae (a7 T.bp T.dP (qv 3)) (ae (qv 1) (ae (qv 2) aw)))))) (cM (aZ 5 dz.nd) (aZ 6 dz.nd))
(ai (jT (i:=4) hu (pv 4) (qv 5) (ZB (aS (cN (qv 4) (qv 5)) (ZB (aq (af (aq (af (XL (qv 6)) (af (jU ah) aj))) aj))))))))
(ag (aB 7 dz.nd (aS (a7 T.bp T.fu (qv 3)) (ZB (aJ (vY T) hr T.oF (ae (qv 0) (ae (a7 T.bp T.dP (qv 3)) (ae (qv 1) (ae (qv 2) aw))))))))
(ai (ph (i:=4) (aE (iu U T.uu (pL T) (hr.mono (by first|decide|omega)) U T.ur T.jk (ae (a7 T.bp T.dP (qv 3)) (ae (qv 7) (ae (ZB (aS (a7 T.bp T.eC (qv 3)) (ZB (aJ (AA T) hr T.vE (ae (qv 2) aw))))) (ae (a7 T.bp T.df (qv 3)) (ae (qv 4) aw)))))))))))),λts Q h=>?_
 let(ks,fs,i,n,b,S,d,us,fr,sp,U,hP,hb,hS,V,hx,hk,hq):=h;let(l1,l2):=V.len;cases hS with
 |@mk _ o1 o2 v1 v2 =>
  refine(U,ac,_,U,qE _,?_);refine(U,ac,_,U,ks,fs,i,n,b,us,fr,sp,U,hP,V,?_);refine(λc q=>Ea4 λ(o5 o6 o7:Sl)(D:List (Key×L2.T))=>q=[.r (tPr ks fs),.r (iN n),.r b,.r (.ob a.aP ["f","free","spent","kinds","holdings"] [iN i,tHo d.fr,.i d.sp,.fd o1 v1 (d.sc.map enP),.fd o2 v2 (d.ho.map enH)]),.o (.d D),o5,o6,o7]/\D=((us.take c).foldl rn d.ho).map enH,(_,_,_,_,U,U),?_,?_)
  ·rintro c y q hy ⟨o5,o6,o7,D,rfl,rfl⟩;rw[fN]at hy;let((x,fam),hz,U):=gV.mp hy;have hm:=g5 hz;have z:=hx _ hm;rw[<- kR (us:=us.take c)]at z;let((x',h),hp,U):=kf.mp z;have hn:(((us.take c).foldl rn d.ho).map (·.1)).Nodup:=by rw[kR];exact hk.nd
   have hl:=EV (us:=us.take c) hk.hl _ hp;have aQ:((us.take c).foldl rn d.ho).length=d.ho.length:=(congrArg HH (kR (us:=us.take c) (ho:=d.ho)):);have ay:=hk.ln;rw[qr]at hl;have hl:h.length<=5000+min c us.length:=hl;have av:=nH (f:=λp:Str×bS=>p.1) (g:=λp=>tHo p.2) hn hp;refine(_,U,?_);simp only[gI,Ϟ];refine(_,av,kh fam,?_);refine(?_,kj _,?_,aD (by rw[cU,aQ];exact ay),qE _,?_,?_)
   ·show(h.map tH1).length+1<=mu;rw[cU];exact wz (bL ap)
   ·show((ϙ (fam.map kT)&&O)&&O)=O;rw[kh];rfl
   ·show ϙ (h.map tH1++[tH1 (fam,-1)])=O;rw[show h.map tH1++[tH1 (fam,-1)]=(h++[Prod.mk fam (-1)]).map tH1 by rw[ky];rfl];exact kj _
   refine(_,_,_,_,U,?_);have:=JT (fam:=fam) hn hp;unfold tHo at this;rw[ky]at this;refine Eq.trans this ?_;rw[p7,hz,Y9];rfl
  rintro q ⟨o5,o6,o7,D,rfl,rfl⟩;rw[cU,ox];refine(U,ac,_,U,U,ac,_,U,ks,fs,i,n,b,us,fr,sp,U,hP,V,?_);refine(?_,kj _,kj _,qE _,λar ak=>?_)
  ·show(d.fr.map tH1).length+(fr.map tH1).length<=mu;have:=hk.fl;rw[cU,cU];exact wz (bL ap)
  refine(U,ac,_,U,U,ac,_,U,fs,i,n,b,us,fr,sp,U,V,U,ac,_,U,?_,U,?_)
  ·show(ϙ (d.fr.map tH1++fr.map tH1)&&O)=O;rw[<- ky];rw[show ϙ ((d.fr++fr).map tH1)=O from kj _];rfl
  refine hq _ ?_;have:=IsS.mk (C:=a.aP) (i:=i) (d:=d.wth us fr sp) (o1:=o1) (o2:=ar) (v1:=v1) (v2:=ak);unfold tHo Sd.wth at this;rw[ky]at this;exact this
theorem ny(T:Txt K mg a):bg P w K mg base CX0 3 a.dt a.iE ["program","f"] (spQ K (N3 a.aP)):=by
 exists T.iL,d7,hu,(ag (aB 2 d7.nd (XL (ao (ao (ao (qv 0) ah) (qv 1)) ah)))
(ag (dF (i:=3) d7.nd U (Or.inl U) U (yd U T.bh bn (ae (qv 2) aw)) (N':=["k","param","f"]) (.own U (.own U (.got (i:=1) U U (.inl U) .nil))) (bA (g:=(Tg.tp [0,1])) (λ_ _ _ _ _=>((cM (cb 0) (cb 1)),(aq (af (XL (ao (qv 1) ah)) (af (aq (af (aq (af (aq (af aK (af (XL (qv 2)) (af (XL (qv 0)) aj)))) (af bw aj))) aj)) aj)))))))
(ai (aE (iu U T.uu (pL T) (hr.mono (by first|decide|omega)) U T.ur T.jk (ae (qv 1) (ae (ZB (aq (af (aq (af (aq (af aK (af (XL (qv 1)) aj))) (af bw aj))) aj))) (ae ah (ae (ZB (rQ (aL (cB U) c9 ba T.eZ bn (ae (qv 2) aw)))) (ae (ZB (rQ (aL (cB U) c9 ba T.eZ bn (ae (qv 3) aw)))) aw)))))))))),λts Q h=>?_
 let(ks,fs,i,f,U,hP,hf,hq):=h;have V:=g5 hf;let(p1,p2,p3,p4):=hP.pk f V;have ef:atI (fs.map tF) (i:Int)=Z (tF f):=br (by rw[fN,hf];rfl);refine(_,U,_,ef,_,U,?_);refine(aV eO _,aD (by rw[aU,cU];lia),λc ys=>ys=(wq i 0 (f.1.2.1.take c)).map λp=>Ϝ [.s p.1,tHo p.2],U,?_,?_)
 ·rintro c y ys hy rfl;let(z,q,U):=bM hy;rw[fN]at q;let(z,hz,U):=gV.mp q;have ak:=(jm.mp hz).1;refine(_,U,_,U,U,U,U,?_);rw[p7,hz];show _++_=(wq i 0 (f.1.2.1.take c++[z])).map _;rw[Hw,ky,qr,Mi ap,Ft];rfl
 rintro ys rfl;rw[aU,cU,ox];refine(U,aV eO _,_,yt _,?_);rw[sD p3];refine(nK _,λo1 v1=>?_);refine(aV (λp=>by show(O&&(L2.T.im (tHo p.2)&&O))=O;rw[kj];rfl) _,_,nq (f:=λp:Str×bS=>p.1) (g:=λp=>tHo p.2) _,?_);rw[sD (by rw[xn];exact p3)];exact(qE _,λo2 v2=>(U,U,hq _ (IsS.mk (d:=L3 i f))))
theorem Sb{p:Str×Str}(h:((sc++[p]).map (·.1)).Nodup):ix (sc.map enP) (.inr p.1) (.s p.2)=(sc++[p]).map enP:=by
 unfold ix;rw[if_neg,ky]
 ·rfl
 rw[Yz,P0];rintro⟨q,hq,e⟩;have e:=of_decide_eq_true e;rw[ky,vw]at h;exact h.2.2 _ (kf.mpr (q,hq,U)) _ (kf.mpr (p,fy.mpr U,U)) (Sum.inr.inj e)
theorem Se{h:bS}(hx:x ∉ ho.map (·.1)):ix (ho.map enH) (.inr x) (tHo h)=(ho++[Prod.mk x h]).map enH:=by
 unfold ix;rw[if_neg,ky]
 ·rfl
 rw[Yz,P0];rintro⟨q,hq,e⟩;have e:=of_decide_eq_true e;exact hx (kf.mpr (q,hq,Sum.inr.inj e))
theorem WA{b am S:L2.T}{D:dZ}(g:Prog ks fs)(hB:BrR fs i n b am fam fr)(hl:f0.length<=5000)
  (k:∀o7:Sl,D.nx [.r (tPr ks fs),.r (iN n),.r b,.r am,.r S,.o (.t (fam.map kT)),.o (tHo (f0++fr)),o7,.no,.no,.no,.no]):
  Ac (jW (qOp CD (qOp qIx (aG 2) (qC (.i 0))) (qC (.s "call"))))
   (jD (iw 7 (cH Ag (az (qOp qIx (aG 0) (qC (.i 1))) (az (qOp qIx (aG 2) (qC (.i 2))) bP))))
(jD (iw 5 (jC (az (qC (.s "result")) (az (qIm (aG 7)) bP))))
(iw 6 (qOp k7 (aG 6) (jC (az (jC (az (jC (az (qC (.s "last")) (az (qIm (aG 7)) bP))) (az (qC (.i 1)) bP))) bP))))))
   (Ac (jW (qOp CD (qOp qIx (aG 2) (qC (.i 0))) (qC (.s "case"))))
(iw 6 (qOp k7 (aG 6) (jC (az (jC (az (qOp k7 (aG 5) (jC (az (qIm (qOp qIx (aG 3) (qC (.i 0)))) bP))) (az (qC (.i 1)) bP))) bP))))
t7) D [.r (tPr ks fs),.r (iN n),.r b,.r am,.r S,.o (.t ((pcF i n).map kT)),.o (tHo f0),.no,.no,.no,.no,.no]:=by
 have q:(f0.map tH1).length+1<=mu:=by rw[cU];exact wz (bL ap)
 cases hB with|@plain w r _ Q P =>have n1:=λz=>Q (V.str.inj (of_decide_eq_true z));have n2:=λz=>P (V.str.inj (of_decide_eq_true z));have K:atI (Ϛ w::r) 0=Z (Ϛ w):=br U;refine(_,K,U,aI (λz=>absurd z n1) λ_=>(_,K,U,aI (λz=>absurd z n2) λ_=>?_));have:=k .no;rw[qp]at this;exact this|@call x j f ns b _ hj =>refine(_,U,U,aI (λ_=>(_,U,_,U,fs,j,f,U,g.hn,λf hf=>(g.sn f hf).1.im,g.l8,hj,U,U,(q,kj _,U,?_))) λz=>absurd bi z);have:=k (.o (.i j));unfold tHo at this;rw[ky]at this;exact this|@case x arms ar =>refine(_,U,U,aa ((_,U,U,aI (λ_=>(_,U,U,(by show 3+1<=mu;decide),U,U,q,kj _,U,?_)) λz=>absurd bi z)));have:=k .no;unfold tHo at this;rw[ky]at this;exact this
theorem qT(T:Txt K mg a):bg P w K mg base CX0 3 a.eR a.kl ["program","n",Wp,"arm","stand"] (spQ K (J8 a.aP)):=by
 exists T.kI,bf,hu,(ag (aB 5 bf.nd (aq (af aK (af (XL (a7 T.bp T.dP (qv 4))) (af (XL (qv 1)) aj)))))
(ag (aB 6 bf.nd (XL (a7 T.bp T.fu (qv 4))))
(ag (aR (bO hu (ao (qv 2) ah) (ZB aK))
(ag (aB 7 bf.nd (aJ (fV T) hr T.fG (ae (ao (qv 0) ah) (ae (ao (qv 2) ah) aw))))
(ag (aB 5 bf.nd (aq (af aK (af (XL (qv 7)) aj))))
(ai (aB 6 bf.nd (aS (qv 6) (ZB (aq (af (aq (af (aq (af aK (af (XL (qv 7)) aj))) (af bw aj))) aj))))))))
(ai (aR (bO hu (ao (qv 2) ah) (ZB aK))
(ai (aB 6 bf.nd (aS (qv 6) (ZB (aq (af (aq (af (aS (qv 5) (ZB (aq (af (XL (ao (qv 3) ah)) aj)))) (af bw aj))) aj))))))
aF)))
(ag (aB 8 bf.nd (aL eV fR ba T.eZ bn (ae (a7 T.bp T.df (qv 4)) aw)))
(ag (aB 9 bf.nd (aL eV fR ba T.eZ bn (ae (a7 T.bp T.cX (qv 4)) aw)))
(ag (bc (g:=(Tg.tp [10,11])) PassesOwn.never U (yc (aJ (qw T) hr T.mL (ae (qv 0) (ae (qv 2) (ae (qv 3) (ae (a7 T.bp T.df (qv 4)) aw)))))) (cM (aZ 10 bf.nd) (aZ 11 bf.nd))
(ag (jT (i:=8) hu (pv 8) (qv 10) (qv 11))
(ai (jT (i:=9) hu (pv 9) (qv 10) (ZB (aq (af (aq (af (XL (qv 5)) (af bw aj))) aj)))))))
(ai (ph (i:=9) (ph (i:=8) (aE (iu U T.uu (pL T) (hr.mono (by first|decide|omega)) U T.ur T.jk (ae (a7 T.bp T.dP (qv 4)) (ae (qv 6) (ae (a7 T.bp T.eC (qv 4)) (ae (qv 8) (ae (qv 9) aw)))))))))))))))),λts Q h=>?_
 let(ks,fs,i,n,j,b,b',am,S,d,sc',fam,fr,U,hP,hS,hK,hB,ar,ay,av,a6,aQ,hq):=h;have ex:=hK.ext;have nn:=hK.nd ar;have hlen:=hK.len hP.gk;cases hS with|@mk _ o1 o2 v1 v2 =>
 have a5:∀g:Fam,ϙ (g.map kT)=true:=kh;refine(U,ac,_,U,U,U,U,ac,_,U,?_);refine(kj _,WA hP hB aQ λo7=>?_);refine(U,ac,_,U,nK _,U,ac,_,U,qE _,?_);refine(U,ac,_,U,ks,fs,d.sc,sc',b,b',am,j,_,U,U,hP,hK,ar,ay,?_);have bt:(sc'.drop d.sc.length).length<=4:=by rw[Yr];lia
 refine(λc q=>Ea4 λ(ak V:Sl)(A ώ:List (Key×L2.T))=>q=[.r (tPr ks fs),.r (iN n),.r b,.r am,.r (.ob a.aP ["f","free","spent","kinds","holdings"] [iN i,tHo d.fr,.i d.sp,.fd o1 v1 (d.sc.map enP),.fd o2 v2 (d.ho.map enH)]),.o (.t (fam.map kT)),.o (tHo (d.fr++fr)),o7,.o (.d A),.o (.d ώ),ak,V]/\A=(d.sc++(sc'.drop d.sc.length).take c).map enP/\ώ=(d.ho++((sc'.drop d.sc.length).take c).map λp:Str×Str=>Prod.mk p.1 [Prod.mk fam (1:Int)]).map enH,(_,_,_,_,U,ad,ad),?_,?_)
 ·rintro c y q hy ⟨ak,V,A,ώ,rfl,rfl,rfl⟩;rw[fN]at hy;let(p,hz,U):=gV.mp hy;have bD:=(jm.mp hz).1;have et:(sc'.drop d.sc.length).take (c+1)=(sc'.drop d.sc.length).take c++[p]:=by rw[p7,hz];rfl
  have n2:((d.sc++(sc'.drop d.sc.length).take c++[p]).map (·.1)).Nodup:=by rw[vt,<- et];rw[ex]at nn;refine List.Nodup.sublist (List.Sublist.map _ (List.Sublist.append_left (Yu _ _) _)) nn
  have n3:p.1 ∉ (d.ho++((sc'.drop d.sc.length).take c).map λp=>(Prod.mk p.1 [Prod.mk fam (1:Int)])).map (·.1):=by rw[ky,av,tr];have:=n2;rw[ky,ky,vw]at this;intro z;exact this.2.2 _ z _ (kf.mpr (p,fy.mpr U,U)) U
  have bh:d.ho.length=d.sc.length:=(congrArg HH av:);have tl:((sc'.drop d.sc.length).take c).length<=4:=by rw[qr];lia
  refine(_,U,?_);refine(aD (by rw[cU,j3];lia),nK _,U,?_);rw[show Ϛ p.2=.s p.2 from U,Sb n2];refine(kh _,aD (by rw[cU,j3,cU];lia),qE _,?_,?_)
  ·show((ϙ (fam.map kT)&&O)&&O)=O;rw[kh];rfl
  refine(_,_,_,_,U,?_,?_)
  ·rw[et,vt]
  refine(Se (h:=[(fam,1)]) n3).trans (congrArg (List.map enH) ?_);rw[et];simp
 rintro q ⟨ak,V,A,ώ,rfl,rfl,rfl⟩;rw[cU,ox,<- ex];refine(qE _,λa3 aW=>(nK _,λa4 a0=>?_));refine(U,ac,_,U,U,ac,_,U,?_,U,hq _ (IsS.mk (d:=d.bhd fam fr sc')));show(O&&(L2.T.im (tHo (d.fr++fr))&&O))=O;rw[kj];rfl
theorem d8(h:(sc.map (·.1)).Nodup)(h1:(x,k)∈sc)(h2:(x,k')∈sc):k=k':=by let(i,hi,q):=ri h1;let(j,z,g):=ri h2;have:=uq h (dQ hi) (dQ z) (by rw[q,g]);subst this;rw[q]at g;exact congrArg Prod.snd g
theorem uC(g:bC ks){q:Kd}(h1:kd∈ks)(h2:q∈ks)(h3:m∈kd.2)(h4:m'∈q.2)(e:m.1=m'.1):kd=q:=by let(i,hi,K):=ri h1;let(j,P,z):=ri h2;have:=uK g.mn (dQ hi) (dQ P) (K▸h3) (z▸h4) e;subst this;exact K.symm.trans z
theorem Qt(g:bC ks){q:Kd}(h1:kd∈ks)(h2:q∈ks)(e:kd.1=q.1):kd=q:=by let(i,hi,K):=ri h1;let(j,P,z):=ri h2;have:=uq g.nd (dQ hi) (dQ P) (by rw[K,z];exact e);subst this;exact K.symm.trans z
theorem Lv(hn:(hs.map (·.1)).Nodup){h h':Hd}(h1:h∈hs)(h2:h'∈hs)(e:h.1=h'.1):h=h':=by let(i,hi,q):=ri h1;let(j,z,g):=ri h2;have:=uq hn (dQ hi) (dQ z) (by rw[q,g];exact e);subst this;exact q.symm.trans g
theorem Cj:(("make":Str)="call")=False:=eq_false ac
theorem Co:(("call":Str)="make")=False:=eq_false ac
theorem WW:(("pay":Str)="get")=False:=eq_false ac
theorem WX:(("get":Str)="pay")=False:=eq_false ac
theorem Ca{a b:Arm}(h:tA a=tA b):a.1=b.1/\a.2.1=b.2.1/\a.2.2.1=b.2.2.1:=by
 injection h with h
 injection h with h1 h
 injection h with h2 h
 injection h with h3 _
 injection h1 with h1
 injection h2 with h2
 exact(h1,(Zq λ_ _ z=>L2.T.s.inj z).mp h2,h3)
theorem Snd.kid{m:Nat}{b t b' am:L2.T}(gk:bC ks)(hn:(hs.map (·.1)).Nodup)(nd:(sc.map (·.1)).Nodup)(S:Snd ks hs r m sc b)(e:b=t)(K:Kid ks hs sc t j b' am sc'):∃m',Snd ks hs r m' sc' b':=by
 cases S <;> cases K <;> first|exact absurd (congrArg tgT e) (Nat.ne_of_beq_eq_false rfl)|simp[Cj,Co]at e
 ·rename_i S _ _ _;let(U,U,U):=e;exact(_,S)
 ·rename_i hy hx S _ _ _ V g;let(U,U,U):=e;obtain rfl:=d8 nd hy V;exact(_,S)
 ·rename_i q hm _ hx S _ _ _ _ Q ak g;let(U,z,P,U):=e;obtain rfl:=uC gk q Q hm ak z;exact(_,S)
 ·rename_i hh _ hx S _ _ _ av g;let(U,z,P,U):=e;obtain rfl:=Lv hn hh av z;exact(_,S)
 rename_i x kd arms q aQ hx h1 h2 x' aP cR ar mm g Q XF hl hN ha hm;let(U,z):=e;obtain rfl:=Qt gk q Q (d8 nd hx g);have P:=congrArg (·[j]?) z;simp only[fN,ha]at P;let(ay,h0,e3):=gV.mp P;let(_,q2,q3):=Ca e3;have:=h2 j ay mm h0 hm;rw[q2,q3]at this;exact(_,this)
theorem Rx(g:Prog ks fs)(hf:f∈fs)(q:cv ks (fs.map (·.1)) 0 [rtN f] L):∀e∈L,∃m,Snd ks (fs.map (·.1)) f.1.2.2 m e.sc e.b:=by
 have hn:((fs.map (·.1)).map (·.1)).Nodup:=by have:=g.hn;rwa [tr]
 have:=q.all (R:=λe=>(e.sc.map (·.1)).Nodup/\∃m,Snd ks (fs.map (·.1)) f.1.2.2 m e.sc e.b) (λn d j b am sc (g1,m,g2) hk=>(hk.nd g1,g2.kid g.gk hn g1 U hk)) _ U λd hd=>by
  rw[fy.mp hd];exact((g.pk f hf).2.2.1,_,(g.sn f hf).1)
 exact λe he=>(this e he).2
theorem sL{k m:Str}{xs:ϖ}:m∈cF ks k xs ↔ ∃x∈xs,Reach ks k x.1/\m∈x.2.map (·.1):=by
 unfold cF;rw[Wc];constructor
 ·rintro⟨x,hx,h⟩;split at h
  ·exact(x,hx,(by assumption),h)
  cases h
 rintro⟨x,hx,hr,h⟩;exact(x,hx,by rw[if_pos hr];exact h)
theorem oI(h:kd∈ks)(hm:m∈kd.2):m.1∈cF ks kd.1 ks:=sL.mpr (kd,h,.here,kf.mpr (m,hm,U))
theorem zH(g:bC ks)(h:kd∈ks)(hm:m∈kd.2)(hk:k∈m.2)(hs:s∈cF ks k ks):s∈cF ks kd.1 ks:=by let(x,hx,hr,h'):=sL.mp hs;refine sL.mpr (x,hx,Reach.trans (.step .here ?_) hr,h');unfold yW;rw[ED g.nd h];exact Wc.mpr (m,hm,hk)
def FK(ϊ:ϕ)(ks:ϖ)(fam:Fam)(k:Str):Prop:=∀m∈cF ks k ks,ϊ (.t ((fam++[(.inr m:Key)]).map kT))
structure UOk(ϊ:ϕ)(ks:ϖ)(fs:ϗ)(i:Nat)(os:Ϙ):Prop where
 par:∀(j:Nat)(g:Fn)(k:Nat)(p:Str×Str),fs[j]?=Z g->g.1.2.1[k]?=Z p->FK ϊ ks [.inr "param",.inl j,.inl k] p.2
 fst:∀(j:Nat)(g:Fn),fs[j]?=Z g->ϊ (.t [.s "first",iN j])
 lst:∀(j:Nat)(g:Fn),fs[j]?=Z g->ϊ (.t [.s "last",iN j])
 res:∀(j:Nat)(g:Fn),fs[j]?=Z g->FK ϊ ks [.inr "result",.inl j] g.1.2.2
 pce:∀(n:Nat)(k:Str),os[n]?=Z (Z k)->FK ϊ ks (pcF i n) k
theorem FK.fld{ϊ:ϕ}(h:FK ϊ ks fam kd.1)(g:bC ks)(q:kd∈ks)(hm:m∈kd.2)(hk:k∈m.2):FK ϊ ks fam k:=λs hs=>h s (zH g q hm hk hs)
theorem DR{u:Str×Fam}:∀{k:Nat},u∈usP j k ns->∃l,ns[l]?=Z u.1/\u.2=[.inr "param",.inl (j:Int),.inl ((k+l:Nat):Int)]:=by
 induction ns with
 |nil=>intro k h;cases h
 |cons y r g =>
  intro k h;obtain rfl|h:=kC.mp h
  ·exact(0,U,U)
  let(l,h1,h2):=g h;exact(l+1,(h1:),by rw[h2,show k+1+l=k+(l+1)by lia])
theorem EZ{fl:Γ}(h:Fills sc ns fl)(g:ns[l]?=Z y):∃k,fl[l]?=Z k/\(y,k)∈sc:=by have hl:=(jm.mp g).1;have hk:fl[l]?=Z (fl[l]'(by rw[<- h.1];exact hl)):=dQ _;refine(_,hk,h.2 _ (g5 (i:=l) ?_));rw[Fq];exact(g,hk)
section
variable{ϊ:ϕ}{ks:ϖ}{fs:ϗ}{i n m:Nat}{f:Fn}{os:Ϙ}{o:Option Str}{sc:Sc}{b t:L2.T}
theorem HY(hP:Prog ks fs)(hf:fs[i]?=Z f)(Q:UOk ϊ ks fs i os)(nd:(sc.map (·.1)).Nodup)(S:Snd ks (fs.map (·.1)) f.1.2.2 m sc b)(ho:os[n]?=Z o)(e:b=t)(hA:Ask ks sc t o):
  ∃us fr sp,fM fs i n b us fr sp/\(∀u∈us,∃k,(u.1,k)∈sc/\FK ϊ ks u.2 k)/\∀p∈fr,ϊ (.t (p.1.map kT)):=by
 have one:∀{x:Str}{fam:Fam}{k:Str},(x,k)∈sc->FK ϊ ks fam k->∀u ∈ [(Prod.mk x fam)],∃k,(u.1,k)∈sc/\FK ϊ ks u.2 k:=λ{x fam k} h1 h2 u V=>by
  rw[fy.mp V];exact(k,h1,h2)
 have on1:∀{p:Fam×Int},ϊ (.t (p.1.map kT))->∀q ∈ [p],ϊ (.t (q.1.map kT)):=λ{p} h q hq=>by rw[fy.mp hq];exact h
 cases S <;> cases hA <;> first|exact absurd (congrArg tgT e) (Nat.ne_of_beq_eq_false rfl)|simp[Cj,Co]at e
 ·rename_i hx _;exact(_,_,_,.give,one hx (Q.res i f hf),on1 (Q.lst i f hf))
 ·rename_i w c b hw _ _ _ _ _ _;obtain rfl|rfl:=hw
  ·exact(_,_,_,.pay,nofun,nofun)
  exact(_,_,_,.get,nofun,nofun)
 ·rename_i hy hx S _ _ _ _ ak;let(U,U,U):=e;obtain rfl:=d8 nd hy ak;exact(_,_,_,.name,one hy (Q.pce n _ ho),nofun)
 ·rename_i x mm kd ns b K hm hF hx S _ _ ay _ _ pR av;let(U,e1,e2,U):=e;obtain rfl:=uC hP.gk K pR hm av e1;have hp:=Q.pce n _ ho;refine(_,_,_,.make (by rw[hF.1];exact(hP.gk.fl kd K mm hm).1),λu V=>?_,on1 (hp _ (oI K hm)));let(y,hy,U):=kf.mp V;let(l,hl,U):=ri hy;let(k,hk,hs):=EZ hF (dQ hl);exact(k,hs,hp.fld hP.gk K hm (g5 hk))
 ·rename_i x h ns b hh hF hx S _ _ _ _;let(g,hg,U):=kf.mp hh;let(j,hj,e1):=ri hg;have P:fs[j]?=Z g:=by rw[dQ hj,e1]
  have l4:=(hP.pk g hg).1;refine(_,_,_,.call P (by rw[hF.1,cU];exact l4),λu V=>?_,on1 (Q.fst j g P));let(l,h1,h2):=DR V;let(k,hk,hs):=EZ hF h1;rw[fN]at hk;let(p,hp,U):=gV.mp hk;rw[h2,Ft];exact(_,hs,Q.par j g l p P hp)
 rename_i x kd arms K aP hx h1 h2 x' k cR ar;let(U,e1):=e;obtain rfl:=d8 nd hx ar;exact(_,_,_,.case,one hx (Q.pce n _ ho),nofun)
theorem T9{b' am:L2.T}(hP:Prog ks fs)(hU:UOk ϊ ks fs i os)(nd:(sc.map (·.1)).Nodup)(K:Kid ks (fs.map (·.1)) sc b j b' am sc')(ho:os[n]?=Z o)(e:b=t)(hA:Ask ks sc t o):
  ∃fam fr,BrR fs i n b am fam fr/\(∀p∈sc'.drop sc.length,FK ϊ ks fam p.2)/\∀p∈fr,ϊ (.t (p.1.map kT)):=by
 have one:∀{x:Str}{fam:Fam}{k:Str},FK ϊ ks fam k->∀p∈(sc++[Prod.mk x k]).drop sc.length,FK ϊ ks fam p.2:=λ{x fam k} h p hp=>by
  rw[YV]at hp;rw[fy.mp hp];exact h
 have on1:∀{p:Fam×Int},ϊ (.t (p.1.map kT))->∀q ∈ [p],ϊ (.t (q.1.map kT)):=λ{p} h q hq=>by rw[fy.mp hq];exact h
 cases K <;> cases hA <;> first|exact absurd (congrArg tgT e) (Nat.ne_of_beq_eq_false rfl)|simp[Cj,Co]at e
 ·rename_i w c hw _ _ _ _;refine(_,_,.plain ?_ ?_,(λp hp=>by rw[ZH]at hp;cases hp),nofun)
  ·obtain rfl|rfl:=hw <;> decide
  obtain rfl|rfl:=hw <;> decide
 ·rename_i hy hx _ _ _ _ av;let(U,U,U):=e;obtain rfl:=d8 nd hy av;exact(_,_,.plain ac ac,one (hU.pce n _ ho),nofun)
 ·rename_i x mm kd ns P hm hx _ _ aW _ _ pR aQ;let(U,e1,e2,U):=e;obtain rfl:=uC hP.gk P pR hm aQ e1;exact(_,_,.plain ac ac,one (hU.pce n _ ho),nofun)
 ·rename_i x h ns hh hx _ _ _ _;let(g,hg,U):=kf.mp hh;let(j',hj,e1):=ri hg;have Q:fs[j']?=Z g:=by rw[dQ hj,e1]
  exact(_,_,.call Q,one (hU.res j' g Q),on1 (hU.lst j' g Q))
 rename_i x kd arms ar mm hx P aP hl hN ha hm x' k cR ay;let(U,e1):=e;obtain rfl:=d8 nd hx ay;have hp:=hU.pce n _ ho;have ak:=g5 hm;have em:ar.1=mm.1:=by have:=congrArg (·[j]?) aP;simp only[fN,ha,hm]at this;exact Option.some.inj this
 refine(_,_,.case,λp V=>?_,on1 ?_)
 ·rw[YV]at V;exact hp.fld hP.gk P ak (Yw V).2
 rw[em];exact hp _ (oI P ak)
end
inductive Std(ks:ϖ)(fs:ϗ)(i:Nat)(f:Fn)(L:List Nod):Nod->Sd->Prop
 |root:Std ks fs i f L (rtN f) (L3 i f)|kid{n j:Nat}{e:Nod}{d:Sd}{b am:L2.T}{sc:Sc}{us:List (Str×Fam)}{fr fr':bS}{sp:Int}{fam:Fam}:Std ks fs i f L e d->L[n]?=Z e->Kid ks (fs.map (·.1)) e.sc e.b j b am sc->fM fs i n e.b us fr sp->BrR fs i n e.b am fam fr'->Std ks fs i f L (C4 n e j b am sc) ((d.wth us fr sp).bhd fam fr' sc)
structure SdG(ϊ:ϕ)(ks:ϖ)(sc:Sc)(F H:Nat)(d:Sd):Prop where
 es:d.sc=sc
 hk:d.ho.map (·.1)=sc.map (·.1)
 fl:d.fr.length<=F
 hl:∀p∈d.ho,p.2.length<=H
 fm:∀p∈d.fr,ϊ (.t (p.1.map kT))
 hm:∀p∈d.ho,∀k,(p.1,k)∈sc->∀q∈p.2,FK ϊ ks q.1 k
theorem oo:∀{k:Nat},p∈wq i k sc->∃l x,sc[l]?=Z (p.1,x)/\p.2=[([.inr "param",.inl (i:Int),.inl ((k+l:Nat):Int)],1)]:=by
 induction sc with
 |nil=>intro k h;cases h
 |cons y r g =>
  intro k h;obtain rfl|h:=kC.mp h
  ·exact(0,y.2,U,U)
  let(l,x,h1,h2):=g h;exact(l+1,x,(h1:),by rw[h2,show k+1+l=k+(l+1)by lia])
theorem uP:∀{ho:List (Str×bS)}{p:Str×bS},p∈us.foldl rn ho->∃g∈ho,g.1=p.1/\∀q∈p.2,q∈g.2\/∃u∈us,u.1=p.1/\q=(u.2,-1):=by
 induction us with
 |nil=>intro ho p h;exact(p,h,U,λq hq=>.inl hq)
 |cons u r V =>
  intro ho p h;let(p1,h1,K,h2):=V h;let(g,h0,U):=kf.mp h1;refine(g,h0,?_,λq hq=>?_)
  ·rw[<- K];split <;> rfl
  obtain z |⟨v,hv,Q,P⟩:=h2 q hq
  ·split at z
   ·rename_i e;obtain z|z:=jn.mp z
    ·exact .inl z
    refine .inr (u,j0,?_,fy.mp z);rw[<- K,if_pos e];exact e.symm
   exact .inl z
  exact .inr (v,j5 _ hv,Q,P)
section
variable{ϊ:ϕ}{ks:ϖ}{fs:ϗ}{i F H:Nat}{f:Fn}{os:Ϙ}{sc:Sc}{d:Sd}
theorem SdG.root(z:Prog ks fs)(hf:fs[i]?=Z f)(g:UOk ϊ ks fs i os):SdG ϊ ks f.1.2.1 1 1 (L3 i f) where
 es:=rfl
 hk:=xn
 fl:=kB _
 hl:=λp hp=>by let(l,x,_,h):=oo hp;rw[h];exact kB _
 fm:=λp hp=>by rw[fy.mp hp];exact g.fst i f hf
 hm:=λp hp k hk q hq=>by
  let(l,x,h1,h2):=oo hp;rw[h2,Ft]at hq;rw[fy.mp hq];obtain rfl:=d8 (z.pk f (g5 hf)).2.2.1 hk (g5 h1);exact g.par i f l _ hf h1
theorem SdG.wth(g:SdG ϊ ks sc F H d)(nd:(sc.map (·.1)).Nodup)(h1:us.length<=4)(h2:fr.length<=1)(h3:∀u∈us,∃k,(u.1,k)∈sc/\FK ϊ ks u.2 k)(h4:∀p∈fr,ϊ (.t (p.1.map kT))):SdG ϊ ks sc (F+1) (H+4) (d.wth us fr sp) where
 es:=g.es
 hk:=kR.trans g.hk
 fl:=by show(d.fr++fr).length<=_;have:=g.fl;rw[j3];lia
 hl:=λp hp=>by have:=EV g.hl p hp;lia
 fm:=λp hp=>(jn.mp hp).elim (g.fm p) (h4 p)
 hm:=λp hp k hk q hq=>by
  let(K,m0,V,h0):=uP hp;obtain z |⟨u,P,Q,rfl⟩:=h0 q hq
  ·exact g.hm K m0 k (by rw[V];exact hk) q z
  let(k',h5,h6):=h3 u P;rw[Q]at h5;rw[d8 nd hk h5];exact h6
theorem SdG.bhd{hs:List Hd}{b b' am:L2.T}{j:Nat}{sc':Sc}{fam:Fam}{fr:bS}(g:SdG ϊ ks sc F H d)(nd:(sc.map (·.1)).Nodup)(K:Kid ks hs sc b j b' am sc')(h1:1<=H)(h2:fr.length<=1)(h3:∀p∈sc'.drop sc.length,FK ϊ ks fam p.2)(h4:∀p∈fr,ϊ (.t (p.1.map kT))):SdG ϊ ks sc' (F+1) H (d.bhd fam fr sc') where
 es:=rfl
 hk:=by show(d.ho++(sc'.drop d.sc.length).map λp=>(Prod.mk p.1 [Prod.mk fam (1:Int)])).map (·.1)=_;rw[ky,g.hk,g.es,tr];have ex:=congrArg (List.map (·.1)) K.ext;rw[ky]at ex;exact ex.symm
 fl:=by show(d.fr++fr).length<=_;have:=g.fl;rw[j3];lia
 hl:=λp hp=>by
  obtain z|z:=jn.mp hp
  ·exact g.hl p z
  let(q,_,U):=kf.mp z;exact h1
 fm:=λp hp=>(jn.mp hp).elim (g.fm p) (h4 p)
 hm:=λp hp k hk q hq=>by
  have nn:=K.nd nd;have ex:=K.ext;obtain z|z:=jn.mp hp
  ·have hx:p.1∈sc.map (·.1):=by rw[<- g.hk];exact kf.mpr (p,z,U)
   let((x,k'),h5,P):=kf.mp hx;subst P;obtain rfl:=d8 nn hk (by rw[ex];exact qh _ h5);exact g.hm p z _ h5 q hq
  let(r,hr,U):=kf.mp z;rw[g.es]at hr;rw[fy.mp hq];obtain rfl:=d8 nn hk (by rw[ex];exact pq _ hr);exact h3 r hr
end
theorem BrR.len{b am:L2.T}(h:BrR fs i n b am fam fr):fr.length<=1:=by cases h <;> simp
theorem fM.det(hn:(fs.map (·.1.1)).Nodup){b t:L2.T}{g:List (Str×Fam)}{fr':bS}{q:Int}(h:fM fs i n b us fr sp)(e:b=t)(h':fM fs i n t g fr' q):us=g/\fr=fr'/\sp=q:=by
 cases h <;> cases h' <;> first|exact absurd (congrArg tgT e) (Nat.ne_of_beq_eq_false rfl)|simp[Cj,Co,WW,WX]at e
 ·obtain rfl:=e;exact(U,U,U)
 ·let(U,_):=e;exact(U,U,U)
 ·let(U,_):=e;exact(U,U,U)
 ·let(_,U,_):=e;exact(U,U,U)
 ·let(_,U,e,_):=e;obtain rfl:=(Zq λ_ _ z=>L2.T.s.inj z).mp e;exact(U,U,U)
 ·rename_i P _ _ _ _ _ _ K _;let(_,Q,e,_):=e;obtain rfl:=(Zq λ_ _ z=>L2.T.s.inj z).mp e;obtain rfl:=uq hn P K Q;exact(U,U,U)
 let(U,_):=e;exact(U,U,U)
theorem BrR.det(hn:(fs.map (·.1.1)).Nodup){b t am:L2.T}{fam q:Fam}(h:BrR fs i n b am fam fr)(e:b=t)(h':BrR fs i n t am q fr'):fam=q/\fr=fr':=by
 generalize K:am=P at h';cases h <;> cases h' <;> simp at e
 ·exact(U,U)
 ·exact absurd e.1 (by assumption)
 ·exact absurd e.1 (by assumption)
 ·exact absurd e.1.symm (by assumption)
 ·rename_i z _ _ _ _ _ g;obtain rfl:=uq hn z g e.2.1;exact(U,U)
 ·exact absurd e.1.symm (by assumption)
 rw[(Ca K).1];exact(U,U)
theorem Std.det(hn:(fs.map (·.1.1)).Nodup){e P:Nod}(h:Std ks fs i f L e d)(ee:e=P)(h':Std ks fs i f L P Q):d=Q:=by
 induction h generalizing P Q with
 |root =>
  cases h' with|root=>rfl|kid=>have:=congrArg Nod.pa ee;simp[rtN,C4]at this
 |@kid n j e d b am sc us fr fr' sp fam s he _ hU hB ih =>
  cases h' with
  |root=>have:=congrArg Nod.pa ee;simp[rtN,C4]at this|@kid n2 j2 e2 d2 b2 av q V ar Yl ak Ym s2 g _ z hB2 =>
   have e1:=congrArg Nod.pa ee;have K:=(List.append_inj' e1 U).2;have e4:n=n2:=by injection K with K _;exact congrArg Prod.fst K
   subst e4;rw[he]at g;cases g;have e5:=congrArg Nod.am ee;have e6:sc=q:=congrArg Nod.sc ee;subst e5 e6;obtain rfl:=ih U s2;let(U,U,U):=hU.det hn U z;let(U,U):=hB.det hn U hB2;rfl
def gB(fs:ϗ)(i:Nat)(ps:List Nat):List Fam:=ps.map (pcF i)++(Fs fs.length).flatMap λ(j:Nat)=>[[.inr "result",.inl (j:Int)],[.inr "param",.inl (j:Int),.inl 0],[.inr "param",.inl (j:Int),.inl 1],[.inr "param",.inl (j:Int),.inl 2],[.inr "param",.inl (j:Int),.inl 3]]
theorem Mv{fs:ϗ}{i:Nat}:(gB fs i ps).length=ps.length+5*fs.length:=by
 unfold gB;rw[j3,cU];have:∀n,((Fs n).flatMap λ(j:Nat)=>([[.inr "result",.inl (j)],[.inr "param",.inl (j),.inl 0],[.inr "param",.inl (j),.inl 1],[.inr "param",.inl (j),.inl 2],[.inr "param",.inl (j),.inl 3]]:List Fam)).length=5*n:=by intro n;induction n with|zero=>rfl|succ n g=>rw[ZN,ZY,j3,g];simp;lia
 rw[this]
theorem gB.pc:pcF i n∈gB fs i (ps++[n]):=qh _ (kf.mpr (n,ad,U))
theorem gB.res{g:Fn}(h:fs[j]?=Z g):([.inr "result",.inl (j:Int)]:Fam)∈gB fs i ps:=pq _ (Wc.mpr (j,YL.mpr (jm.mp h).1,ad))
theorem gB.par{i k:Nat}{g:Fn}(h:fs[j]?=Z g)(hk:k<4):([.inr "param",.inl (j:Int),.inl (k:Int)]:Fam)∈gB fs i ps:=pq _ (Wc.mpr (j,YL.mpr (jm.mp h).1,by
 obtain rfl|rfl|rfl|rfl:=(by lia:k=0\/k=1\/k=2\/k=3) <;> simp))
theorem gB.up{u:Fam}(h:u∈gB fs i ps):u∈gB fs i (ps++[n]):=by
 obtain z|z:=jn.mp h
 ·refine qh _ ?_;rw[ky];exact qh _ z
 exact pq _ z
def SdF(fs:ϗ)(i:Nat)(ps:List Nat)(d:Sd):Prop:=∀p∈d.ho,∀q∈p.2,q.1∈gB fs i ps
theorem SdF.wth{b:L2.T}(h:SdF fs i ps d)(u:fM fs i n b us fr sp)(hf:fs[i]?=Z f):SdF fs i (ps++[n]) (d.wth us fr sp):=λp hp q hq=>by
 let(g,m0,_,h0):=uP hp;obtain z |⟨v,hv,_,rfl⟩:=h0 q hq
 ·exact gB.up (h g m0 q z)
 cases u with
 |give=>rw[fy.mp hv];exact gB.res hf|pay=>cases hv
 |get=>cases hv
 |name=>rw[fy.mp hv];exact gB.pc|make _=>let(y,_,U):=kf.mp hv;exact gB.pc|call K hl =>let(l,Q,P):=DR hv;rw[P];exact gB.par K (by have:=(jm.mp Q).1;lia)|case=>rw[fy.mp hv];exact gB.pc
theorem Std.fam{ks:ϖ}{fs:ϗ}{i:Nat}{f:Fn}{L:List Nod}{e:Nod}{d:Sd}(hf:fs[i]?=Z f)(h4:f.1.2.1.length<=4)(h:Std ks fs i f L e d):SdF fs i (e.pa.map (·.1)) d:=by
 induction h with
 |root =>
  intro p hp q hq;let(l,x,e1,e2):=oo hp;rw[e2,Ft]at hq;rw[fy.mp hq];exact gB.par hf (by have:=(jm.mp e1).1;lia)
 |@kid n j e d b am sc us fr fr' sp fam s he V g K P =>
  have h1:=P.wth g hf;clear V g;have ep:(C4 n e j b am sc).pa.map (·.1)=e.pa.map (·.1)++[n]:=by show(e.pa++[Prod.mk n (Prod.mk e.b j)]).map (·.1)=_;rw[ky];rfl
  rw[ep];intro p hp q hq;obtain z|z:=jn.mp hp
  ·exact h1 p z q hq
  let(r,_,U):=kf.mp z;rw[fy.mp hq];generalize e.b=b' at K;cases K with|plain=>exact gB.pc|call Q=>exact gB.res Q|case=>exact gB.pc
def Pm(q:Fam×Int):Prop:=q.2=1\/q.2 = -1
def SdT(d:Sd):Prop:=(∀p∈d.fr,Pm p)/\∀p∈d.ho,∀q∈p.2,Pm q
theorem SdT.wth{b:L2.T}(h:SdT d)(u:fM fs i n b us fr sp):SdT (d.wth us fr sp):=by
 refine(λp hp=>?_,λp hp q hq=>?_)
 ·obtain z|z:=jn.mp hp
  ·exact h.1 p z
  cases u with|give=>rw[fy.mp z];exact .inr U|make=>rw[fy.mp z];exact .inr U|call=>rw[fy.mp z];exact .inr U|_=>cases z
 let(g,m0,_,h0):=uP hp;obtain z |⟨v,_,_,rfl⟩:=h0 q hq
 ·exact h.2 g m0 q z
 exact .inr U
variable{d:Sd}
theorem Std.pm1(h:Std ks fs i f L e d):SdT d:=by
 induction h with
 |root =>refine(λp hp=>by rw[fy.mp hp];exact .inl U,λp hp q hq=>?_);let(l,x,_,Q):=oo hp;rw[Q]at hq;rw[fy.mp hq];exact .inl U|@kid n j e d b am sc us fr fr' sp fam s he V P g K =>
  have h1:=K.wth P;generalize e.b=b' at g;refine(λp hp=>?_,λp hp q hq=>?_)
  ·obtain z|z:=jn.mp hp
   ·exact h1.1 p z
   cases g with
   |plain=>cases z
   |call=>rw[fy.mp z];exact .inl U|case=>rw[fy.mp z];exact .inl U
  obtain z|z:=jn.mp hp
  ·exact h1.2 p z q hq
  let(r,_,U):=kf.mp z;rw[fy.mp hq];exact .inl U
def Fm(C:J)(ϊ:ϕ)(ks:ϖ)(fs:ϗ)(i:Nat)(f:Fn)(L:List Nod)(e:Nod)(S:L2.T):Prop:=∃d,IsS C i S d/\Std ks fs i f L e d/\SdG ϊ ks e.sc (1+2*e.pa.length) (1+4*e.pa.length) d
inductive J1(C:J)(ts:ϓ)(Q:ϕ):Prop
 |mk(ks:ϖ)(fs:ϗ)(i:Nat)(f:Fn)(L:List Nod)(os:Ϙ)(ϊ:ϕ)(h1:ts=[tPr ks fs,iN i])(h2:Prog ks fs)(h3:fs[i]?=Z f)(h4:Pre ks (fs.map (·.1)) 0 (rtN f) L)(h5:L.length<=50000)(h6:oH ks L os)(h7:UOk ϊ ks fs i os)(h8:∀X:ϓ,X.length=L.length->(∀(n:Nat)(e:Nod)(S:L2.T),L[n]?=Z e->X[n]?=Z S->Fm C ϊ ks fs i f L e S)->Q (.l X))
theorem IsS.im(h:IsS C i S d):S.im=true:=by cases h;rfl
theorem Good.p88(g:Good ks fs f e):e.pa.length<=92:=by let(N,h,_):=g.dp;lia
theorem GK(T:Txt K mg a):bg P w K mg base CX0 5 a.nQ a.Bg ["program","f"] (spQ K (J1 a.aP)):=by
 exists T.BK,f9,hu,(ag (aB 2 f9.nd (aO aj))
(ag (aB 3 f9.nd (aJ (um T) hr T.sI (ae (ao (ao (ao (qv 0) ah) (qv 1)) ah) aw)))
(ag (bc (g:=(Tg.nm 4)) PassesOwn.never U (Ef (i:=3) (pv 3)) (aZ 4 f9.nd)
(ai (aR (bE pE kM (bB _) (a7 T.cA T.bT (qv 4)) (ZB cu))
(ai (bq (i:=2) (pv 2) (aJ (ny T) hr T.iL (ae (qv 0) (ae (qv 1) aw)))))
(ag (aB 5 f9.nd (XL (a7 T.cA T.dC (ao (qv 3) (a7 T.cA T.bT (qv 4))))))
(ag (aB 6 f9.nd (aJ (lD T) hr T.jr (ae (qv 0) (ae (a7 T.cA T.bT (qv 4)) (ae (qv 5) (ae (ao (qv 2) (a7 T.cA T.bT (qv 4))) aw))))))
(ai (bq (i:=2) (pv 2) (aJ (qT T) hr T.kI (ae (qv 0) (ae (a7 T.cA T.bT (qv 4)) (ae (qv 5) (ae (a7 T.cA T.j8 (qv 4)) (ae (qv 6) aw)))))))))))))
(ai (dm (i:=2) (pv 2)))))),λts Q h=>?_
 let(ks,fs,i,f,L,os,ϊ,U,hP,hf,hR,hL,hA,hU,hq):=h;have aQ:cv ks (fs.map (·.1)) 0 [rtN f] L:=by have:=cv.cons hR (.nil);rwa [qp]at this
 have a5:=g5 hf;have G:=A3 hP a5 aQ;have SN:=Rx hP a5 aQ;have ef:atI (fs.map tF) (i:Int)=Z (tF f):=br (by rw[fN,hf];rfl);refine(_,U,_,ef,_,U,ks,fs.map (·.1),rtN f,L,U,U,U,hR,hL,?_);refine(λc q=>Ea4 λ(X:ϓ)(o4 o5 o6:Sl)=>q=[.r (tPr ks fs),.r (iN i),.o (.l X),.r (.l (L.map (spN a.aW))),o4,o5,o6]/\X.length=c/\∀(n:Nat)(e:Nod)(S:L2.T),L[n]?=Z e->X[n]?=Z S->Fm a.aP ϊ ks fs i f L e S,([],_,_,_,U,U,λn e S _ h=>by simp at h),?_,?_)
 ·rintro c y q hy ⟨X,o4,o5,o6,rfl,ar,hX⟩;rw[fN]at hy;let(e,he,U):=gV.mp hy;have cP:=(jm.mp he).1;have a6:X.length<mu:=bL ap;have cQ:ϙ X=true:=kQ λt ht=>by
   let(n,hn,U):=ri ht;let(d,hd,_):=hX n _ _ (dQ ap) (dQ hn);exact hd.im
  have fin:∀S:L2.T,Fm a.aP ϊ ks fs i f L e S->∀(n:Nat)(z:Nod)(S':L2.T),L[n]?=Z z->(X++[S])[n]?=Z S'->Fm a.aP ϊ ks fs i f L z S':=λS hS n z S' h1 h2=>by
   by_cases hn:n<X.length
   ·rw[u6 hn]at h2;exact hX n z S' h1 h2
   rw[vr ap]at h2;have bD:n-X.length=0:=by have:=(jm.mp h2).1;simp at this;lia
   rw[bD]at h2;cases h2;rw[show n=c by lia,he]at h1;cases h1;exact hS
  refine(_,U,U,ac,_,U,?_);obtain⟨j,hj,_⟩|⟨p,z,cs,j,cK,ak,hK,hc⟩:=aQ.from _ rfl c e he
  ·have:e=rtN f:=by
    cases j with
    |zero=>cases hj;rfl
    |succ j=>simp at hj
   subst this;refine(a6,ks,fs,i,f,U,hP,hf,λS hS=>?_);exact(_,_,_,_,U,by rw[j3,ar];rfl,fin S (_,hS,.root,.root hP hf hU))
  rw[Ft]at hK;let(a3,yQ):=hK.ok j _ hc;let(eb,cz,ct,a0,bh):=e;obtain rfl:cz=iN p:=congrArg Nod.ab a3;have a4:=g5 ak;have g':=G z a4;let(m,ay):=SN z a4;have bp:=(jm.mp ak).1;obtain⟨t,ht⟩:∃t,X[p]?=Z t:=(_,dQ ap);let(d,hd,hs,hg):=hX p z t ak ht;have bt:p<os.length:=by rw[hA.ln];exact bp
  have ho:os[p]?=Z os[p]:=dQ bt;have hk:=hA.ok p z _ ak ho;let(us,fr,sp,u1,u2,u3):=HY hP hf hU g'.nd ay ho U hk;let(fam,fr',b1,b2,b3):=T9 hP hU g'.nd yQ ho U hk;let(l1,l2):=u1.len;have p88:=g'.p88;have av:=hg.wth (sp:=sp) g'.nd l1 l2 u2 u3;have V:=av.bhd g'.nd yQ ap b1.len b2 b3;have a1:atI X (p:Int)=Z t:=br ht;have a2:atI (L.map (spN a.aW)) (p:Int)=Z (spN a.aW z):=br (by rw[fN,ak];rfl);have cE:=hg.es;have lim:=g'.lim;have key:d.ho.length=z.sc.length:=(congrArg HH hg.hk:);refine(U,ac,_,U,_,a2,U,ac,_,U,?_);refine(ay.im,U,ac,_,U,U,ac,_,U,_,a1,?_);refine(ks,fs,i,p,z.b,t,d,us,fr,sp,U,hP,ay.im,hd,u1,λu hu=>?_,(?_,?_,λq hq=>?_,?_),λS2 cq=>?_)
  ·let(k,h1,_):=u2 u hu;rw[hg.hk];exact kf.mpr (_,h1,U)
  ·rw[hg.hk];exact g'.nd
  ·have:=hg.fl;lia
  ·have:=hg.hl q hq;lia
  ·lia
  have w1:(d.wth us fr sp).sc=z.sc:=av.es;refine(a6,U,ac,_,U,U,ac,_,U,ks,fs,i,p,j,z.b,eb,ct,S2,d.wth us fr sp,bh,fam,fr',U,hP,cq,by rw[w1];exact yQ,b1,by rw[w1];exact g'.nd,by rw[w1];exact g'.sk,by rw[w1];exact av.hk,by rw[w1];lia,by have:=av.fl;lia,λS3 b0=>?_);refine(_,_,_,_,U,by rw[j3,ar];rfl,fin S3 (_,b0,?_,?_))
  ·rw[a3];exact .kid hs ak yQ u1 b1
  have ep:a0=z.pa++[(p,z.b,j)]:=congrArg Nod.pa a3;show SdG ϊ ks bh (1+2*a0.length) (1+4*a0.length) _;rw[ep,j3];exact(V.es,V.hk,by have:=V.fl;simp;lia,λq hq=>by have:=V.hl q hq;simp;lia,V.fm,V.hm)
 rintro q ⟨X,o4,o5,o6,rfl,ar,hX⟩;rw[cU]at ar;exact hq X ar hX
abbrev Wt:=List (Int×Int)
def enI(p:Int×Int):Key×L2.T:=(.inl p.1,.i p.2)
def plc(kvs:ϑ)(fam:Fam):Int:=match bV kvs fam with|some (.int j)=>j|_=>0
def Df(ws:Wt)(j:Int):Int:=((ws.find? λp=>decide (p.1=j)).map (·.2)).getD 0
def vS(ws:Wt)(j x:Int):Wt:=if(ws.any λp=>decide (p.1=j))=O then ws.map (λp=>if p.1=j then(p.1,x)else p)else ws++[(j,x)]
def addW(kvs:ϑ)(ws:Wt)(p:Fam×Int):Wt:=vS ws (plc kvs p.1) (Df ws (plc kvs p.1)+p.2)
def nz(p:Int×Int):Bool:=!decide ((ϛ p.2).v=(ϛ 0).v)
def lQ(kvs:ϑ)(ps:bS):Wt:=(ps.foldl (addW kvs) []).filter nz
theorem yN(x j:Int):decide ((Sum.inl x:Key)=.inl j)=decide (x=j):=by
 by_cases h:x=j
 ·rw[decide_eq_true h,decide_eq_true (congrArg _ h)]
 rw[decide_eq_false h,decide_eq_false λz=>h (Sum.inl.inj z)]
theorem NP{ws:Wt}{j x:Int}:ix (ws.map enI) (.inl j) (.i x)=(vS ws j x).map enI:=by
 unfold ix vS;have e:((ws.map enI).any λp=>decide (p.1=(.inl j)))=ws.any λp=>decide (p.1=j):=by rw[Yz];exact congrArg (ws.any ·) (funext λp=>yN p.1 j)
 rw[e];split
 ·rw[tr,tr];refine TH λp _=>?_;show(if(Sum.inl p.1:Key)=.inl j then _ else _)=enI (if p.1=j then(p.1,x)else p);by_cases h:p.1=j
  ·rw[if_pos h,if_pos (congrArg _ h)];rfl
  rw[if_neg h,if_neg λz=>h (Sum.inl.inj z)]
 rw[ky];rfl
theorem Pf{ws:Wt}{j:Int}:(bH (ws.map enI) (.inl j)).getD (.i 0)=.i (Df ws j):=by unfold bH Df;rw[List.find?_map];have e:((λp=>decide (p.1=.inl j)) ∘ enI)=λp=>decide (p.1=j):=funext λp=>yN p.1 j;rw[e];cases ws.find? λp=>decide (p.1=j) <;> rfl
theorem pC{ws:Wt}{j x:Int}:(vS ws j x).map (·.1)=if(ws.any λp=>decide (p.1=j))=O then ws.map (·.1)else ws.map (·.1)++[j]:=by
 unfold vS;split
 ·rw[tr];exact TH λp _=>by show(if p.1=j then(p.1,x)else p).1=p.1;split <;> rfl
 rw[ky];rfl
theorem NQ{ws:Wt}{j x:Int}(h:(ws.map (·.1)).Nodup):((vS ws j x).map (·.1)).Nodup:=by
 rw[pC];split
 ·exact h
 rename_i z;refine vw.mpr (h,ad,λa q b g e=>z ?_);rw[fy.mp g]at e;subst e;let(p,hp,e):=kf.mp q;exact P0.mpr (p,hp,decide_eq_true e)
theorem JU{ws:Wt}{j x k:Int}(h:k∈(vS ws j x).map (·.1)):k=j\/k∈ws.map (·.1):=by
 rw[pC]at h;split at h
 ·exact .inr h
 obtain z|z:=jn.mp h
 ·exact .inr z
 exact .inl (fy.mp z)
theorem JV{ws:Wt}{j x:Int}:(vS ws j x).length<=ws.length+1:=by have:=congrArg HH (pC (ws:=ws) (j:=j) (x:=x));rw[cU]at this;rw[this];split <;> simp
theorem gA:∀{ps:bS}{ws:Wt},(ws.map (·.1)).Nodup->((ps.foldl (addW kvs) ws).map (·.1)).Nodup/\(ps.foldl (addW kvs) ws).length<=ws.length+ps.length/\∀k∈(ps.foldl (addW kvs) ws).map (·.1),k∈ws.map (·.1)\/∃p∈ps,k=plc kvs p.1
 |[],ws,h=>(h,kB _,λk hk=>.inl hk)|p::r,ws,h=>by
  let(h1,h2,h3):=gA (NQ h);have:=JV (ws:=ws) (j:=plc kvs p.1) (x:=Df ws (plc kvs p.1)+p.2);refine(h1,by rw[qf];unfold addW at h2;show(r.foldl (addW kvs) (addW kvs ws p)).length<=_;unfold addW;lia,λk hk=>?_);obtain z |⟨q,hq,e⟩:=h3 k hk
  ·obtain z|z:=JU z
   ·exact .inr (p,j0,z)
   exact .inl z
  exact .inr (q,j5 _ hq,e)
theorem EM:∀ws:Wt,ϝ (ws.map enI)=O
 |[]=>rfl|p::r=>by show(O&&ϝ (r.map enI))=O;rw[EM r];rfl
theorem gp:∀f:Fam,lE (f.map kT)=Z f
 |[]=>rfl|k::r=>by
  have e:(kT k).key=Z k:=by cases k <;> rfl
  show(match(kT k).key,lE (r.map kT)with|some k,Z r=>Z (k::r)|_,_=>Y)=_;rw[e,gp r]
def tPI(p:Int×Int):L2.T:=.t [.i p.1,.i p.2]
theorem Eu:∀ws:Wt,cO (ws.map tPI)=Z (ws.map enI)
 |[]=>rfl|k::r=>by
  show(match(Z (.inl k.1)),cO (r.map tPI)with|some k',Z r=>Z ((Prod.mk k' (ϛ k.2))::r)|_,_=>Y)=_;rw[Eu r];rfl
theorem T2{ws:Wt}(h:(ws.map (·.1)).Nodup):dg [] (ws.map enI)=ws.map enI:=by
 rw[nG]
 ·rfl
 ·rw[tr];have:(ws.map ((λx=>x.1) ∘ enI))=(ws.map (·.1)).map Sum.inl:=by rw[tr];rfl
  rw[this];exact Xt.mpr (h.imp λg z=>g (Sum.inl.inj z))
 intro p hp q hq;exact absurd hq v5
inductive J0(ts:ϓ)(Q:ϕ):Prop
 |mk(kvs:ϑ)(A:L2.T)(pr:bS)(h1:ts=[.fz (.dT kvs),A])(h2:(A=.t (pr.map tH1)\/A=.l (pr.map tH1)))(h3:pr.length<=10000)(h4:(∀p∈pr,∃j:Int,bV kvs p.1=Z (.int j)))(h5:∀o vs,Q (.fd o vs ((lQ kvs pr).map enI)))
theorem wO(T:Txt K mg a):bg P w K mg base CX0 1 a.nP a.Bf ["places","pairs"] (spQ K J0):=by
 exists T.vD,kN,hu,(ag (aB 2 kN.nd rS)
(ag (bc (g:=(Tg.tp [3,4])) PassesOwn.never U (Jw (i:=1) (pv 1)) (cM (aZ 3 kN.nd) (aZ 4 kN.nd))
(ai (jT (i:=2) hu (pv 2) (ZB (t5 (uI hr) (qv 0) (qv 3))) (ZB (aS (yg hu (qv 2) (ZB (t5 (uI hr) (qv 0) (qv 3))) ah) (qv 4))))))
(ai (ph (i:=2) (aE (rQ (aL (cB U) c9 ba T.eZ bn (ae (ZB (bI U (zZ (qv 2)) (N':=["place","weight"]) (.own U (.own U .nil)) (yh (g:=(Tg.tp [0,1])) (λ_ _ _ _ _=>((cM (cb 0) (cb 1)),(bE Aw tu (bB _) (qv 1) ah),(aq (af (XL (qv 0)) (af (XL (qv 1)) aj)))))))) aw)))))))),λts Q h=>?_
 let(kvs,A,pr,U,hA,hl,ak,hq):=h;have st:∀c,((pr.take c).foldl (addW kvs) []).length<=10000:=λc=>by
  have:=(gA (kvs:=kvs) (ps:=pr.take c) (ws:=[]) ad).2.1;rw[qr]at this;simp at this;lia
 obtain rfl|rfl:=hA;all_goals
  refine(λc q=>Ea4 λ(A:Sl)(o3 V:Sl)(D:List (Key×L2.T))=>q=[.r (.fz (.dT kvs)),A,.o (.d D),o3,V]/\D=((pr.take c).foldl (addW kvs) []).map enI,(_,_,_,_,U,U),?_,?_)
  ·rintro c y q z ⟨A,o3,V,D,rfl,rfl⟩;rw[fN]at z;let((fam,x),hz,U):=gV.mp z;let(j,hj):=ak _ (g5 hz);have ej:plc kvs fam=j:=by unfold plc;rw[hj]
   have s0:=st c;refine(_,U,((fam,j),(gp fam,hj),?_));dsimp only[L2.T.key,qC];rw[Pf];refine((fam,j),(gp fam,hj),bL (by rw[cU];lia),EM _,U,_,_,_,_,U,?_);rw[p7,hz,Y9,NP,<- ej];rfl
  rintro q ⟨A,o3,V,D,rfl,rfl⟩;rw[cU,ox];let(h1,h2,_):=gA (kvs:=kvs) (ps:=pr) (ws:=[]) ad;have h2:(pr.foldl (addW kvs) []).length<=10000:=by simp at h2;lia
  refine(EM _,λo vs=>?_);refine(bL (by rw[cU,cU];lia),λc ys=>ys=(((pr.foldl (addW kvs) []).take c).filter nz).map tPI,U,?_,?_)
  ·rintro c y ys z rfl;rw[tr,fN]at z;let(p,hp,U):=gV.mp z;have et:(pr.foldl (addW kvs) []).take (c+1)=(pr.foldl (addW kvs) []).take c++[p]:=by rw[p7,hp];rfl
   rw[et,Y3,ky];refine(_,U,U,aI (λg=>?_) λg=>?_)
   ·have g:nz p=true:=g;have e:[p].filter nz=[p]:=x2 g;rw[e];exact(U,U,U)
   have g:¬ nz p=true:=g;have e:[p].filter nz=[]:=Es g;rw[e];exact(qp _).symm
  rintro ys rfl;rw[cU,cU,ox];refine(aV (λ_=>rfl) _,_,Eu _,?_);rw[T2 (List.Nodup.sublist (List.Sublist.map _ Zn) h1)];exact(EM _,λo vs=>hq o vs)
def fC(u:Fam):L2.T:=.t (u.map kT)
theorem yX{u v:Fam}(h:fC u=fC v):u=v:=by
 injection h with h
 have e:=gp u;rw[h,gp]at e;exact(Option.some.inj e).symm
section
variable{ks:ϖ}{fs:ϗ}{xs:List (Fn×Ϙ)}
theorem A8{fam:ϓ}{k m:Str}(h:m∈cF ks k ks):Ϝ (fam++[.s m])∈mx ks fam k:=kf.mpr (m,h,U)
theorem BY{i:Nat}{t:L2.T}{p:Str×Str}:∀{k:Nat},sc[l]?=Z p->t∈mx ks [.s "param",iN i,iN (k+l)] p.2->t∈d3 ks i k sc:=by
 induction sc generalizing l with
 |nil=>intro k h;simp at h
 |cons y r q =>
  intro k h g;cases l with
  |zero=>cases h;exact qh _ g
  |succ l=>exact pq _ (q (h:) (by rw[show k+1+l=k+(l+1)by lia];exact g))
theorem FT{i:Nat}{t:L2.T}:∀{n:Nat},os[l]?=Z o->t∈BZ ks i (n+l) o->t∈dR ks i n os:=by
 induction os generalizing l with
 |nil=>intro k h;simp at h
 |cons y r q =>
  intro n h g;cases l with
  |zero=>cases h;exact qh _ g
  |succ l=>exact pq _ (q (h:) (by rw[show n+1+l=n+(l+1)by omega];exact g))
theorem FV{t:L2.T}{x:Fn×Ϙ}:∀{xs:List (Fn×Ϙ)}{i j:Nat},xs[j]?=Z x->t∈oP ks (i+j) x.1 x.2->t∈bZ ks i xs:=by
 intro xs;induction xs with
 |nil=>intro i j h;simp at h
 |cons y r q =>
  intro i j h g;cases j with
  |zero=>cases h;exact qh _ g
  |succ j=>exact pq _ (q (h:) (by rw[show i+1+j=i+(j+1)by omega];exact g))
theorem UOk.of(K:Unk ks fs xs){x:Fn×Ϙ}(hx:xs[i]?=Z x):UOk (· ∈ bZ ks 0 xs) ks fs i x.2:=by
 have at_:∀{j:Nat}{g:Fn},fs[j]?=Z g->∃os,xs[j]?=Z (g,os):=λ{j g} h=>by
  have:=congrArg (·[j]?) K.fn;simp only[fN,h]at this;let(y,q,e):=gV.mp this;exact(y.2,by rw[q,<- e])
 have go:∀{t:L2.T}{j:Nat}{g:Fn}{os:Ϙ},xs[j]?=Z (g,os)->t∈oP ks j g os->t∈bZ ks 0 xs:=λ{t j g os} h z=>FV (j:=j) h (by rw[Ft];exact z);refine(λj g k p h1 h2 m hm=>?_,λj g h1=>?_,λj g h1=>?_,λj g h1 m hm=>?_,λn k h1 m hm=>?_)
 ·let(os,h3):=at_ h1;refine go h3 ?_;refine qh _ (qh _ (qh _ (qh _ (BY h2 ?_))));rw[Ft];exact A8 hm
 ·let(os,h3):=at_ h1;refine go h3 ?_;exact qh _ (qh _ (qh _ (pq _ (fy.mpr U))))
 ·let(os,h3):=at_ h1;refine go h3 ?_;exact qh _ (pq _ (fy.mpr U))
 ·let(os,h3):=at_ h1;refine go h3 ?_;exact qh _ (qh _ (pq _ (A8 hm)))
 refine go hx ?_;refine pq _ (FT h1 ?_);rw[Ft];exact kf.mpr (m,hm,U)
def vo(u:Fam):Prop:=u.length<=10/\∃s r,u=.inr s::r
theorem MQ:∃us:List Fam,bZ ks 0 xs=us.map fC/\∀u∈us,vo u:=by
 have lift:∀l,(∀t∈l,∃u,t=fC u/\vo u)->∃us:List Fam,l=us.map fC/\∀u∈us,vo u:=by
  intro l;induction l with
  |nil=>intro _;exact([],U,nofun)
  |cons t r q =>intro h;let(u,U,P):=h t j0;let(us,U,K):=q λt g=>h t (j5 _ g);exact(u::us,U,λv hv=>(kC.mp hv).elim (λe=>e▸P) (K v))
 have fam:∀s0 fm k,fm.length<=8->∀t∈mx ks ((.inr s0::fm).map kT) k,∃u,t=fC u/\vo u:=λs0 fm k h9 t g=>by
  let(m,_,U):=kf.mp g;exact(.inr s0::fm++[.inr m],by unfold fC;rw[ky];rfl,by rw[j3,qf,zq];lia,_,_,U)
 have par:∀sc i k,∀t∈d3 ks i k sc,∃u,t=fC u/\vo u:=by
  intro sc;induction sc with
  |nil=>intro i k t g;cases g
  |cons p r q =>
   intro i k t g;obtain z|z:=jn.mp g
   ·exact fam "param" [.inl i,.inl k] p.2 (by show 2<=8;decide) t z
   exact q i (k+1) t z
 have ps:∀os i n,∀t∈dR ks i n os,∃u,t=fC u/\vo u:=by
  intro os;induction os with
  |nil=>intro i k t g;cases g
  |cons o r q =>
   intro i n t g;obtain z|z:=jn.mp g
   ·cases o with
    |none=>cases z
    |some k=>exact fam "piece" [.inl i,.inl n] k (by show 2<=8;decide) t z
   exact q i (n+1) t z
 have all:∀xs i,∀t∈bZ ks i xs,∃u,t=fC u/\vo u:=by
  intro xs;induction xs with
  |nil=>intro i t g;cases g
  |cons x r q =>
   intro i t g;obtain z|z:=jn.mp g
   ·obtain z|z:=jn.mp z
    ·obtain z|z:=jn.mp z
     ·obtain z|z:=jn.mp z
      ·obtain z|z:=jn.mp z
       ·exact par _ _ _ t z
       exact([.inr "first",.inl i],fy.mp z,by show 2<=10;decide,_,_,U)
      exact fam "result" [.inl i] _ (by show 1<=8;decide) t z
     exact([.inr "last",.inl i],fy.mp z,by show 2<=10;decide,_,_,U)
    exact ps _ _ _ t z
   exact q (i+1) t z
 exact lift _ (all xs 0)
end
def gy:Nat->List Fam->ϑ
 |_,[]=>[]|k,u::r=>(u,.int k)::gy (k+1) r
def plD(us:List Fam):ϑ:=cD [] (gy 0 us)
theorem Dk{us:List Fam}{u:Fam}:∀{k:Nat},gy k (us++[u])=gy k us++[(u,.int ((k+us.length:Nat):Int))]:=by
 induction us with
 |nil=>intro k;rfl
 |cons v r g=>intro k;show _::gy (k+1) (r++[u])=_::_;rw[g,show k+1+r.length=k+(r.length+1)by lia];rfl
theorem wU{R:V->Prop}{u:List Key}:∀{more kvs:ϑ},(∀p∈more,R p.2)->((∃v,bV kvs u=Z v/\R v)\/u∈more.map (·.1))->∃v,bV (cD kvs more) u=Z v/\R v
 |[],kvs,_,h=>by
  obtain h|h:=h
  ·exact h
  cases h
 |p::r,kvs,g,h=>by
  show ∃v,bV (cD (putK kvs p.1 p.2) r) u=Z v/\R v;refine wU (λq hq=>g q (j5 _ hq)) ?_;rw[sM];by_cases e:u=p.1
  ·rw[if_pos e];exact .inl (_,U,g p j0)
  rw[if_neg e];obtain h|h:=h
  ·exact .inl h
  obtain z|z:=kC.mp h
  ·exact absurd z e
  exact .inr z
theorem Hh{us:List Fam}:∀{k:Nat},∀p∈gy k us,∃j:Nat,p.2=.int j/\j<k+us.length:=by
 induction us with
 |nil=>intro k p hp;cases hp
 |cons u r g =>
  intro k p hp;obtain rfl|hp:=kC.mp hp
  ·exact(k,U,by rw[qf];lia)
  let(j,h1,h2):=g p hp;exact(j,h1,by rw[qf];lia)
theorem Dm{us:List Fam}:∀{k:Nat},(gy k us).map (·.1)=us:=by
 induction us with
 |nil=>intro k;rfl
 |cons u r g=>intro k;show u ::(gy (k+1) r).map (·.1)=_;rw[g]
theorem VA{us:List Fam}{u:Fam}(h:fC u∈us.map fC):∃j:Nat,bV (plD us) u=Z (.int j)/\j<us.length:=by let(v,hv,e):=kf.mp h;obtain rfl:=yX e;let(x,h1,j,h2,h3):=wU (R:=λx=>∃j:Nat,x=.int j/\j<us.length) (more:=gy 0 us) (λp hp=>by let(j,a,b):=Hh p hp;exact(j,a,ap)) (.inr (by rw[Dm];exact hv));rw[h2]at h1;exact(j,h1,h3)
theorem As{us:List Fam}:∀{k:Nat},kP ((gy k us).map λp=>.t [.t (p.1.map kT),match p.2 with|.int x=>.i x|_=>.n])=Z (gy k us):=by
 induction us with
 |nil=>intro k;rfl
 |cons u r g =>
  intro k;have e:Ew (.t [.t (u.map kT),.i (k)])=Z (u,.int k):=by show(lE (u.map kT)).map _=_;rw[gp];rfl
  show(match Ew (.t [.t (u.map kT),.i (k)]),kP ((gy (k+1) r).map _)with|some p,Z ps=>Z (p::ps)|_,_=>Y)=_;rw[e,g];rfl
structure Row where
 nm:ϓ
 ws:Wt
 sp:Int
inductive IsR(N:Nat):L2.T->Row->Prop
 |mk{r:Row}{o:Obj}{vs:ϐ}:(∀p∈r.ws,∃j:Nat,p.1=(j:Int)/\j<N)->ϙ r.nm=O/\L2.T.me r.nm=O->r.ws.length<=60->(r.ws.map (·.1)).Nodup->(∀p∈r.ws,-100000<=p.2/\p.2<=100000)->IsR N (.t [.t r.nm,.fd o vs (r.ws.map enI),.i r.sp]) r
structure Rws(N:Nat)(ys:ϓ)(rs:List Row):Prop where
 ln:ys.length=rs.length
 ok:∀(i:Nat)(y:L2.T)(r:Row),ys[i]?=Z y->rs[i]?=Z r->IsR N y r
theorem Rws.nil:Rws N [] []:=(U,λi y r h=>by simp at h)
variable{rs:List Row}
theorem Rws.app{ys g:ϓ}{q:List Row}(h:Rws N ys rs)(h':Rws N g q):Rws N (ys++g) (rs++q):=by
 refine(by rw[j3,j3,h.ln,h'.ln],λi y r h1 h2=>?_);by_cases hi:i<ys.length
 ·rw[u6 hi]at h1;rw[u6 (by rw[<- h.ln];exact hi)]at h2;exact h.ok i y r h1 h2
 rw[vr ap]at h1;rw[vr (by rw[<- h.ln];lia),<- h.ln]at h2;exact h'.ok _ y r h1 h2
theorem Rws.one{y:L2.T}{r:Row}(h:IsR N y r):Rws N [y] [r]:=(U,λi g q h1 h2=>by
 cases i with
 |zero=>cases h1;cases h2;exact h
 |succ i=>simp at h1)
def Dd(ho:List (Str×bS))(x:Str):bS:=((ho.find? λp=>decide (p.1=x)).map (·.2)).getD []
theorem Hb{p:Str×bS}(h:(ho.map (·.1)).Nodup)(hp:p∈ho):Dd ho p.1=p.2:=by
 unfold Dd;induction ho with
 |nil=>cases hp
 |cons q r g =>
  have h':=vp.mp h;rw[zr];obtain rfl|z:=kC.mp hp
  ·rw[decide_eq_true rfl];rfl
  have e:q.1≠p.1:=λe=>h'.1 (kf.mpr (p,z,e.symm));rw[decide_eq_false e];exact g h'.2 z
def FR(kvs:ϑ)(i n:Nat)(ho:List (Str×bS))(x m:Str):Row:=([.s "use",iN i,iN n,.s x,.s m],lQ kvs ((Dd ho x).map λq=>(q.1++[.inr m],q.2)),0)
noncomputable def mR(ks:ϖ)(kvs:ϑ)(i n:Nat)(ho:List (Str×bS))(sc:Sc):List Row:=sc.flatMap λp=>(cF ks p.2 ks).map (FR kvs i n ho p.1)
theorem wD(g:bC ks):(mR ks kvs i n ho sc).length<=36*sc.length:=nM sc λp _=>by
 rw[cU];have:=g.wl (k:=p.2) λ_ h=>h;have:=g.k2;lia
def PV(N:Nat)(kvs:ϑ)(u:Fam):Prop:=∃j:Nat,bV kvs u=Z (.int j)/\j<N/\u.length<=10
theorem DZ{ps:bS}(h:∀p∈ps,PV N kvs p.1):∀p∈lQ kvs ps,∃j:Nat,p.1=(j:Int)/\j<N:=λp hp=>by
 have hp:=(Uu.mp hp).1;let(_,_,h3):=gA (ws:=[]) ad;obtain z |⟨q,hq,e⟩:=h3 p.1 (kf.mpr (p,hp,rfl))
 ·cases z
 let(j,h1,h2,_):=h q hq;exact(j,by rw[e];unfold plc;rw[h1],h2)
theorem KN:∀{l l':Ψ},l.Nodup->(∀x∈l,x∈l')->l.length<=l'.length
 |[],_,_,_=>zt _|x::r,l',hn,h=>by
  have hx:=h x j0;have g:=vp.mp hn;have:=KN (l':=l'.erase x) g.2 λy q=>(ZR λe=>g.1 (by rw[<- e];exact q)).mpr (h y (j5 _ q));have e:=Zy hx;have:=Yb.mpr (List.ne_nil_of_mem hx);rw[qf];lia
theorem NS{ws:Wt}{j x:Int}{p:Int×Int}(h:p∈vS ws j x):p∈ws\/p.2=x:=by
 unfold vS at h;split at h
 ·let(q,hq,U):=kf.mp h;by_cases e:q.1=j
  ·rw[if_pos e];exact .inr U
  rw[if_neg e];exact .inl hq
 obtain z|z:=jn.mp h
 ·exact .inl z
 rw[fy.mp z];exact .inr U
theorem Pg{ws:Wt}{j:Int}:Df ws j=0\/∃p∈ws,Df ws j=p.2:=by unfold Df;cases h:ws.find? λp=>decide (p.1=j)with|none=>exact .inl U|some p=>exact .inr (p,YG h,U)
theorem Fl{kvs:ϑ}:∀{ps:bS}{ws:Wt}{ώ:Int},0<=ώ->(∀p∈ps,-1<=p.2/\p.2<=1)->(∀p∈ws,-ώ<=p.2/\p.2<=ώ)->∀p∈ps.foldl (addW kvs) ws,-(ώ+ps.length)<=p.2/\p.2<=ώ+ps.length
 |[],ws,ώ,_,_,h,p,hp=>by
  have:=h p hp;rw[Yg];lia
 |q::r,ws,ώ,h0,h1,h,p,hp=>by
  have hq:=h1 q j0;have:=Fl (kvs:=kvs) (ps:=r) (ws:=addW kvs ws q) (ώ:=ώ+1) ap (λp hp=>h1 p (j5 _ hp)) (λp hp=>by
   obtain z|z:=NS hp
   ·have:=h p z;lia
   rw[z];obtain e |⟨y,g,e⟩:=Pg (ws:=ws) (j:=plc kvs q.1)
   ·rw[e];lia
   rw[e];have:=h y g;lia) p hp
  rw[qf];lia
theorem D3{ps:bS}(hl:ps.length<=100000)(h:∀p∈ps,p.2=1\/p.2 = -1):∀p∈lQ kvs ps,-100000<=p.2/\p.2<=100000:=λp hp=>by
 have:=Fl (ws:=[]) (ώ:=0) ac (λq hq=>by have:=h q hq;lia) nofun p (Uu.mp hp).1;lia
theorem xE{ps:bS}:((lQ kvs ps).map (·.1)).Nodup:=by have h1:=(gA (kvs:=kvs) (ps:=ps) (ws:=[]) ad).1;exact List.Nodup.sublist (List.Sublist.map _ Zn) h1
theorem MY{ps:bS}:(lQ kvs ps).length<=ps.length:=by have h2:=(gA (kvs:=kvs) (ps:=ps) (ws:=[]) ad).2.1;have h3:=Ur nz (ps.foldl (addW kvs) []);unfold lQ;simp at h2;lia
theorem Iv{ps:bS}{FS:List Fam}(h:∀p∈ps,p.1∈FS):(lQ kvs ps).length<=FS.length:=by
 have:=KN xE λx hx=>by
  let(p,hp,U):=kf.mp hx;let(_,_,h3):=gA (kvs:=kvs) (ws:=[]) ad;obtain z |⟨q,hq,e⟩:=h3 p.1 (kf.mpr (p,(Uu.mp hp).1,rfl))
  ·cases z
  rw[e];exact kf.mpr (_,h q hq,U)
 rw[cU,cU]at this;exact this
inductive Gu(C:J)(ts:ϓ)(Q:ϕ):Prop
 |mk(ks:ϖ)(fs:ϗ)(i n N:Nat)(kvs:ϑ)(S:L2.T)(d:Sd)(h1:ts=[tPr ks fs,iN n,.fz (.dT kvs),S])(h2:Prog ks fs)(h3:IsS C i S d)(h4:(d.sc.map (·.1)).Nodup)(h5:d.ho.map (·.1)=d.sc.map (·.1))(h6:d.sc.length<=372)(h7:(∀p∈d.ho,p.2.length<=5000))(h8:(∀p∈d.ho,∀k,(p.1,k)∈d.sc->∀q∈p.2,∀m∈cF ks k ks,PV N kvs (q.1++[.inr m])))(h9:(∃FS:List Fam,FS.length<=60/\∀p∈d.ho,∀q∈p.2,q.1∈FS/\(q.2=1\/q.2 = -1)))(h10:∀ys,Rws N ys (mR ks kvs i n d.ho d.sc)->Q (.l ys))
theorem Az(T:Txt K mg a):bg P w K mg base CX0 4 a.jd a.uX ["program","n","places","stand"] (spQ K (Gu a.aP)):=by
 exists T.vC,dS,hu,(ag (aB 4 dS.nd (aO aj))
(ag (bc (g:=(Tg.tp [5,6])) PassesOwn.never U (Jx (a7 T.bp T.df (qv 3))) (cM (aZ 5 dS.nd) (aZ 6 dS.nd))
(ai (bc (g:=(Tg.nm 7)) PassesOwn.never U (fh (aJ (pH T) hr T.oE (ae (ao (qv 0) ah) (ae (qv 6) aw)))) (aZ 7 dS.nd)
(ag (dF (i:=8) dS.nd U (Or.inl U) U (dM (cN (a7 T.bp T.cX (qv 3)) (qv 5))) (N':=["family","times","maker"]) (.own U (.own U (.got (i:=7) U U (.inl U) .nil))) (bA (g:=(Tg.tp [0,1])) (λ_ _ _ _ _=>((cM (cb 0) (cb 1)),(aq (af (aS (qv 0) (ZB (aq (af (XL (qv 2)) aj)))) (af (XL (qv 1)) aj)))))))
(ai (bq (i:=4) (pv 4) (aq (af (aq (af aK (af (XL (a7 T.bp T.dP (qv 3))) (af (XL (qv 1)) (af (XL (qv 5)) (af (XL (qv 7)) aj)))))) (af (aJ (wO T) hr T.vD (ae (qv 2) (ae (qv 8) aw))) (af bw aj))))))))))
(ai (dm (i:=4) (pv 4))))),λts Q h=>?_
 let(ks,fs,i,n,N,kvs,S,d,U,hP,hS,nd,hk,a6,a5,a0,(FS,XQ,Wa),hq):=h;have gk:=hP.gk;cases hS with
 |@mk _ o1 o2 v1 v2 =>
  refine(U,ac,_,U,?_);refine(λc q=>Ea5 λ(X:ϓ)(o5 o6 o7 o8:Sl)=>q=[.r (tPr ks fs),.r (iN n),.r (.fz (.dT kvs)),.r (.ob a.aP ["f","free","spent","kinds","holdings"] [iN i,tHo d.fr,.i d.sp,.fd o1 v1 (d.sc.map enP),.fd o2 v2 (d.ho.map enH)]),.o (.l X),o5,o6,o7,o8]/\Rws N X (mR ks kvs i n d.ho (d.sc.take c)),([],_,_,_,_,U,.nil),?_,?_)
  ·rintro c y q hy ⟨X,o5,o6,o7,o8,rfl,hX⟩;rw[tr,fN]at hy;let((x,k),hz,U):=gV.mp hy;have hm:=g5 hz;have aW:x∈d.ho.map (·.1):=by rw[hk];exact kf.mpr (_,hm,U)
   let((x',h),hp,e):=kf.mp aW;have e:x'=x:=e;subst e;have a3:=nH (f:=λp:Str×bS=>p.1) (g:=λp=>tHo p.2) (by rw[hk];exact nd) hp;have a4:=Hb (by rw[hk];exact nd) hp;have ak:=a5 _ hp;have ar:=a0 _ hp k hm;have ez:mR ks kvs i n d.ho (d.sc.take (c+1))=mR ks kvs i n d.ho (d.sc.take c)++(cF ks k ks).map (FR kvs i n d.ho x'):=by unfold mR;rw[p7,hz,ZY];exact congrArg _ (qp _)
   have wl:=gk.wl (k:=k) (xs:=ks) λ_ h=>h;have k6:=gk.k2;have ul:=wD gk (kvs:=kvs) (i:=i) (n:=n) (ho:=d.ho) (sc:=d.sc.take c);rw[qr]at ul;refine(_,U,_,U,ks,k,U,gk,?_);refine(λj q=>Ea3 λ(X:ϓ)(o7 o8:Sl)=>q=[.r (tPr ks fs),.r (iN n),.r (.fz (.dT kvs)),.r (.ob a.aP ["f","free","spent","kinds","holdings"] [iN i,tHo d.fr,.i d.sp,.fd o1 v1 (d.sc.map enP),.fd o2 v2 (d.ho.map enH)]),.o (.l X),.r (.s x'),.r (.s k),o7,o8]/\Rws N X (mR ks kvs i n d.ho (d.sc.take c)++((cF ks k ks).take j).map (FR kvs i n d.ho x')),(X,_,_,U,by rw[ZV,List.map_nil,qp];exact hX),?_,?_)
   ·rintro j y q hy ⟨X,o7,o8,rfl,hX⟩;rw[fN]at hy;let(m,aQ,U):=gV.mp hy;have av:=g5 aQ;have bh:X.length<=15000:=by have:=hX.ln;rw[j3,cU,qr]at this;lia
    refine(_,U,U,ac,_,U,?_);simp only[gI,Ϟ];refine(_,a3,?_);refine(bF (by rw[cU];show _<=10000;lia),λc ys=>ys=((h.take c).map λq=>(q.1++[(.inr m:Key)],q.2)).map tH1,U,?_,?_)
    ·rintro c' y ys hy rfl;rw[fN]at hy;let((fam,tm),ay,U):=gV.mp hy;let(_,_,_,h10):=ar _ (g5 ay) m av;have h10:fam.length+1<=10:=(h10:);refine(_,U,U,bF (by rw[cU];show fam.length+1<=10000;lia),kh _,U,U,?_);rw[p7,ay,ky,ky];show _++[Ϝ [.t (fam.map kT++[.s m]),.i tm]]=_++[Ϝ [.t ((fam++[(.inr m:Key)]).map kT),.i tm]];rw[ky];rfl
    rintro ys rfl;rw[cU,ox];refine(bL ap,?_);have Xw:∀p∈lQ kvs ((h.map λq=>(q.1++[(.inr m:Key)],q.2))),∃j:Nat,p.1=(j:Int)/\j<N:=DZ λp V=>by
     let(q,z,U):=kf.mp V;exact ar q z m av
    refine(U,ac,_,U,U,U,U,U,kvs,_,h.map λq=>(q.1++[(.inr m:Key)],q.2),U,.inr U,by rw[cU];have ak:h.length<=5000:=ak;lia,λp V=>?_,λo vs=>?_)
    ·let(q,z,U):=kf.mp V;let(jj,h1,_):=ar q z m av;exact(_,h1)
    have hR:IsR N (.t [.t [.s "use",iN i,iN n,.s x',.s m],.fd o vs ((lQ kvs (h.map λq=>(q.1++[(.inr m:Key)],q.2))).map enI),.i 0]) (FR kvs i n d.ho x' m):=by
     have:=@IsR.mk N (FR kvs i n d.ho x' m) o vs;unfold FR at this ⊢;rw[a4]at this ⊢;refine this Xw (U,U) (sF (Iv (FS:=FS.map λu=>u++[(.inr m:Key)]) λp V=>?_) (by rw[cU];exact XQ)) xE (D3 (by rw[cU];have ak:h.length<=5000:=ak;lia) λp V=>?_)
     ·let(q,z,U):=kf.mp V;exact kf.mpr (_,(Wa _ hp q z).1,U)
     let(q,z,U):=kf.mp V;exact(Wa _ hp q z).2
    refine(_,_,_,U,?_);rw[p7,aQ,ky,<- vt];exact hX.app (.one hR)
   rintro q ⟨X,o7,o8,rfl,hX⟩;rw[cU,ox,<- ez]at hX;exact(X,_,_,_,_,U,hX)
  rintro q ⟨X,o5,o6,o7,o8,rfl,hX⟩;rw[cU,cU,ox]at hX;exact hq X hX
noncomputable def sdW(ks:ϖ)(fs:ϗ)(i:Nat)(f:Fn)(L:List Nod)(n:Nat)(e:Nod):Sd:=open Classical in if h:∃d g us fr sp,Std ks fs i f L e g/\fM fs i n e.b us fr sp/\d=g.wth us fr sp then h.choose else L3 i f
theorem RD(hn:(fs.map (·.1.1)).Nodup)(h1:Std ks fs i f L e d)(h2:fM fs i n e.b us fr sp):sdW ks fs i f L n e=d.wth us fr sp:=by unfold sdW;have h:∃d g us fr sp,Std ks fs i f L e g/\fM fs i n e.b us fr sp/\d=g.wth us fr sp:=(_,d,us,fr,sp,h1,h2,U);rw[dif_pos h];let(d1,q,K,z,a1,a2,P):=h.choose_spec;rw[P];obtain rfl:=a1.det hn U h1;let(U,U,U):=a2.det hn U h2;rfl
def wrd:L2.T->Str
 |.t (.s w::_)=>w|_=>""
def PAY:Γ:=["make","call","pay","give"]
noncomputable def chunk(ks:ϖ)(kvs:ϑ)(i n:Nat)(w:Str)(d:Sd):List Row:=if w∈PAY then([.s "purse",iN i,iN n],lQ kvs d.fr,d.sp) ::(if w="give" then mR ks kvs i n d.ho d.sc else [])else []
noncomputable def pV(ks:ϖ)(fs:ϗ)(kvs:ϑ)(i:Nat)(f:Fn)(L:List Nod):Nat->List Nod->List Row
 |_,[]=>[]|n,e::r=>chunk ks kvs i n (wrd e.b) (sdW ks fs i f L n e)++pV ks fs kvs i f L (n+1) r
theorem Hf{ks:ϖ}{fs:ϗ}{i:Nat}{f:Fn}{es:List Nod}:∀{n:Nat},pV ks fs kvs i f L n (es++[e])=pV ks fs kvs i f L n es++chunk ks kvs i (n+es.length) (wrd e.b) (sdW ks fs i f L (n+es.length) e):=by
 induction es with
 |nil=>intro n;show _++[]=[]++_;rw[qp];rfl
 |cons q r g=>intro n;show _++pV ks fs kvs i f L (n+1) (r++[e])=(_++_)++_;rw[g,vt,qf,show n+1+r.length=n+(r.length+1)by lia]
noncomputable def dY(ks:ϖ)(fs:ϗ)(kvs:ϑ):Nat->List (Fn×List Nod)->List Row
 |_,[]=>[]|i,z::r=>pV ks fs kvs i z.1 z.2 0 z.2++dY ks fs kvs (i+1) r
theorem Dw{ks:ϖ}{fs:ϗ}{zs:List (Fn×List Nod)}{z:Fn×List Nod}:∀{i:Nat},dY ks fs kvs i (zs++[z])=dY ks fs kvs i zs++pV ks fs kvs (i+zs.length) z.1 z.2 0 z.2:=by
 induction zs with
 |nil=>intro n;show _++[]=[]++_;rw[qp];rfl
 |cons q r g=>intro n;show _++dY ks fs kvs (n+1) (r++[z])=(_++_)++_;rw[g,vt,qf,show n+1+r.length=n+(r.length+1)by lia]
structure Nds(ks:ϖ)(fs:ϗ)(xs:List (Fn×Ϙ))(zs:List (Fn×List Nod)):Prop where
 fn:zs.map (·.1)=fs
 ok:∀(i:Nat)(x:Fn×Ϙ)(z:Fn×List Nod),xs[i]?=Z x->zs[i]?=Z z->Pre ks (fs.map (·.1)) 0 (rtN z.1) z.2/\z.2.length<=100/\oH ks z.2 x.2/\∀e∈z.2,e.pa.length<=20
 l3:fs.length<=3
theorem KW(h:n<=12000000):n<mu:=YD h ac
def tPV(p:List Key×V):L2.T:=.t [.t (p.1.map kT),match p.2 with|.int x=>.i x|_=>.n]
theorem Snd.wrd{m:Nat}{b:L2.T}(S:Snd ks hs r m sc b):∃w l,b=.t (.s w::l):=by cases S <;> exact(_,_,U)
inductive Sr(ts:ϓ)(Q:ϕ):Prop
 |mk(ks:ϖ)(fs:ϗ)(xs:List (Fn×Ϙ))(zs:List (Fn×List Nod))(us:List Fam)(h1:ts=[tPr ks fs])(h2:Prog ks fs)(h3:Unk ks fs xs)(h4:Nds ks fs xs zs)(h5:bZ ks 0 xs=us.map fC)(h6:(∀u∈us,u.length<=10))(h7:∀ys,Rws us.length ys (dY ks fs (plD us) 0 zs)->ys.length<=12000000->Q (.l ys))
theorem Ey(T:Txt K mg a):bg P w K mg base CX0 8 a.y0 a.LL ["program"] (spQ K Sr):=by
 exists T.zx,fS,hu,(ag (aB 1 fS.nd (JD (uI hr) T.eZ (bI U (JA U T.bh bn (ae (ZB (aJ (gL T) hr T.gC (ae (qv 0) aw))) aw)) (N':=["place","unknown"]) (.own U (.own U .nil)) (bA (g:=(Tg.tp [0,1])) (λ_ _ _ _ _=>((cM (cb 0) (cb 1)),(aq (af (XL (qv 1)) (af (XL (qv 0)) aj)))))))))
(ag (aB 2 fS.nd (aO aj))
(ag (bc (g:=(Tg.tp [3,4])) PassesOwn.never U (iZ U T.bh bn (ae (ao (qv 0) ah) aw)) (cM (aZ 3 fS.nd) (aZ 4 fS.nd))
(ag (aB 5 fS.nd (aJ (wR T) hr T.vG (ae (ao (qv 4) ah) aw)))
(ai (bc (g:=(Tg.tp [6,7])) PassesOwn.never U (tZ T.bh (aJ (GK T) hr T.BK (ae (qv 0) (ae (qv 3) aw)))) (cM (aZ 6 fS.nd) (aZ 7 fS.nd))
(ai (aR (bE (yx U) tw U (ao (ao (qv 5) (qv 6)) ah) (ZB (JC U T.L0 T.JF)))
(ag (aB 8 fS.nd (aJ (lD T) hr T.jr (ae (qv 0) (ae (qv 6) (ae (ao (qv 5) (qv 6)) (ae (qv 7) aw))))))
(ag (bq (i:=2) (pv 2) (aq (af (aq (af aK (af (XL (qv 3)) (af (XL (qv 6)) aj)))) (af (aJ (wO T) hr T.vD (ae (qv 1) (ae (a7 T.bp T.fu (qv 8)) aw))) (af (XL (a7 T.bp T.eC (qv 8))) aj)))))
(ai (aR (bO hu (ao (ao (qv 5) (qv 6)) ah) (ZB aK))
(ai (cT (i:=2) (pv 2) (aJ (Az T) hr T.vC (ae (qv 0) (ae (qv 6) (ae (qv 1) (ae (qv 8) aw)))))))
aF))))
aF))))))
(ai (dm (i:=2) (pv 2)))))),λts Q h=>?_
 let(ks,fs,xs,zs,us,U,hP,hU,hN,a4,Xv,hq):=h;have l8:=hP.l8;have lx:xs.length=fs.length:=by rw[<- hU.fn,cU]
 have lz:zs.length=fs.length:=by rw[<- hN.fn,cU]
 have lim:∀x∈xs,x.1.1.2.1.length<=4/\x.2.length<=50000:=λx hx=>by
  let(L,_,h5,hA):=hU.ok x hx;have:x.1∈fs:=by rw[<- hU.fn];exact kf.mpr (x,hx,U)
  exact((hP.pk _ this).1,by rw[hA.ln];exact h5)
 have lus:us.length<=14500000:=by have:=oO hP.gk lim (i:=0);rw[a4,cU]at this;lia
 have PL:∀{u:Fam},fC u∈bZ ks 0 xs->PV us.length (plD us) u:=λ{u} h=>by
  rw[a4]at h;let(j,h1,h2):=VA h;let(v,hv,e):=kf.mp h;obtain rfl:=yX e;exact(j,h1,h2,Xv v hv)
 refine(ks,fs,xs,U,hP,hU,?_);rw[a4];refine(hV (by rw[aU,cU];lia),λc ys=>ys=(gy 0 (us.take c)).map tPV,U,?_,?_)
 ·rintro c y ys hy rfl;let(z,hz,U):=bM hy;rw[fN]at hz;let(u,b0,U):=gV.mp hz;have cP:=(jm.mp b0).1;refine(_,U,kh u,U,?_);rw[p7,b0];show _=(gy 0 (us.take c++[u])).map tPV;rw[Dk,ky,qr,Mi ap,Ft];rfl
 rintro ys rfl;rw[aU,cU,ox];refine(gy 0 us,As,?_);refine(_,U,mj λf hf=>(hP.sn f hf).1.im,λc q=>Ea7 λ(X:ϓ)(o3 o4 o5 o6 o7 o8:Sl)=>q=[.r (tPr ks fs),.o (.fz (.dT (plD us))),.o (.l X),o3,o4,o5,o6,o7,o8]/\Rws us.length X (dY ks fs (plD us) 0 (zs.take c))/\X.length<=1340000*c,([],_,_,_,_,_,_,U,.nil,zt _),?_,?_)
 ·rintro c y q hy ⟨X,o3,o4,o5,o6,o7,o8,rfl,hX,aP⟩;let(z,hz,U):=bM hy;rw[fN]at hz;let(f,hf,U):=gV.mp hz;have cP:=(jm.mp hf).1;have ay:=g5 hf;have bT:xs[c]?=Z xs[c]:=dQ ap;have aW:zs[c]?=Z zs[c]:=dQ ap;have ez:zs[c].1=f:=by have:=congrArg (·[c]?) hN.fn;simp only[fN,aW,hf]at this;exact Option.some.inj this
  let(hR,hL,hA,a5):=hN.ok c _ _ bT aW;have cz:=UOk.of hU bT;generalize c0:zs[c].2=L at hR hL hA a5;rw[ez]at hR;have cE:cv ks (fs.map (·.1)) 0 [rtN f] L:=by have:=cv.cons hR (.nil);rwa [qp]at this
  have G:=A3 hP ay cE;have SN:=Rx hP ay cE;have c3:dY ks fs (plD us) 0 (zs.take (c+1))=dY ks fs (plD us) 0 (zs.take c)++pV ks fs (plD us) c f L 0 L:=by rw[p7,aW];show dY ks fs (plD us) 0 (zs.take c++[zs[c]])=_;rw[Dw,qr,Mi ap,Ft,ez,c0]
  refine(_,U,_,U,ks,fs.map (·.1),rtN f,L,U,U,U,hR,ap,?_);refine(ks,fs,c,f,L,_,_,U,hP,hf,hR,ap,hA,cz,λύ ct hY=>?_);refine(λn q=>Ea4 λ(X:ϓ)(o6 o7 o8:Sl)=>q=[.r (tPr ks fs),.o (.fz (.dT (plD us))),.o (.l X),.r (iN c),.r (tF f),.o (.l (L.map (·.b))),o6,o7,o8]/\Rws us.length X (dY ks fs (plD us) 0 (zs.take c)++pV ks fs (plD us) c f L 0 (L.take n))/\X.length<=1340000*c+13394*n,(X,_,_,_,U,by rw[ZV];show Rws _ _ (_++[]);rw[qp];exact hX,ap),?_,?_)
  ·rintro n y q hy ⟨X,o6,o7,o8,rfl,hX,aP⟩;let(S,hS,U):=bM hy;have cq:n<L.length:=by have:=(jm.mp hS).1;lia
   have he:L[n]?=Z L[n]:=dQ cq;generalize L[n]=e at he;have aQ:=g5 he;have g:=G e aQ;let(m,bt):=SN e aQ;let(d,hd,hs,hg):=hY n e S he hS;have ho:xs[c].2[n]?=Z (xs[c].2[n]'(by rw[hA.ln];exact cq)):=dQ _;have hk:=hA.ok n e _ he ho;let(ak,fr,sp,u1,u2,u3):=HY hP hf cz g.nd bt ho U hk;let(l1,l2):=u1.len;have p88:=g.p88;have ar:=hg.wth (sp:=sp) g.nd l1 l2 u2 u3;have c2:=RD hP.hn hs u1;let(wd,l,eb):=bt.wrd;have c1:wrd e.b=wd:=by rw[eb];rfl
   have ab:atI (L.map (·.b)) (n:Int)=Z e.b:=br (by rw[fN,he];rfl);have a0:atI (Ϛ wd::l) 0=Z (.s wd):=br (j:=0) U;have c4:pV ks fs (plD us) c f L 0 (L.take (n+1))=pV ks fs (plD us) c f L 0 (L.take n)++chunk ks (plD us) c n wd (d.wth ak fr sp):=by rw[p7,he];show pV ks fs (plD us) c f L 0 (L.take n++[e])=_;rw[Hf,qr,Mi ap,Ft,c1,c2]
   have fin:∀(ϋ X':ϓ)(bD:Sl)(C:List Row),ϋ=X++X'->chunk ks (plD us) c n wd (d.wth ak fr sp)=C->Rws us.length X' C->X'.length<=13394->Ea4 λ(X2:ϓ)(o6 o7 o8:Sl)=>[.r (tPr ks fs),.o (.fz (.dT (plD us))),.o (.l ϋ),.r (iN c),.r (tF f),.o (.l (L.map (·.b))),.r (iN n),.r S,bD]=[.r (tPr ks fs),.o (.fz (.dT (plD us))),.o (.l X2),.r (iN c),.r (tF f),.o (.l (L.map (·.b))),o6,o7,o8]/\Rws us.length X2 (dY ks fs (plD us) 0 (zs.take c)++pV ks fs (plD us) c f L 0 (L.take (n+1)))/\X2.length<=1340000*c+13394*(n+1):=λϋ X' bD C hZ hC cR c5=>by
    subst hZ;exact(_,_,_,_,U,by rw[c4,<- vt,hC];exact hX.app cR,by rw[j3];lia)
   have cQ:X.length<=12000000:=ap;have cV:=wD hP.gk (kvs:=plD us) (i:=c) (n:=n) (ho:=(d.wth ak fr sp).ho) (sc:=(d.wth ak fr sp).sc);have Xk:=g.lim;have av:=ar.es;rw[av]at cV;refine(_,U,_,ab,?_);rw[eb];refine(_,a0,aI (λg1=>?_) λg1=>?_)
   ·have hw:wd∈PAY:=by have g1:inT (.s wd) (PAY.map Ϛ)=true:=g1;rw[eJ,sd]at g1;exact g1
    refine(_,ab,ks,fs,c,n,e.b,S,d,ak,fr,sp,U,hP,bt.im,hd,u1,λu hu=>?_,(?_,?_,λq hq=>?_,?_),λS2 cA=>?_)
    ·let(k,h1,_):=u2 u hu;rw[hg.hk];exact kf.mpr (_,h1,U)
    ·rw[hg.hk];exact g.nd
    ·have:=hg.fl;lia
    ·have:=hg.hl q hq;lia
    ·have:d.ho.length=e.sc.length:=(congrArg HH hg.hk:);lia
    have ay:∀p∈(d.wth ak fr sp).fr,PV us.length (plD us) p.1:=λp hp=>PL (ar.fm p hp);have cX:=cA;cases cA with
    |@mk _ o1 o2 v1 v2 =>
     refine(KW cQ,U,U,U,ac,_,U,plD us,_,(d.wth ak fr sp).fr,U,.inl U,by have:=ar.fl;lia,λp hp=>?_,λo vs=>?_)
     ·let(j,h1,_):=ay p hp;exact(_,h1)
     have hR:IsR us.length (.t [.t [.s "purse",iN c,iN n],.fd o vs ((lQ (plD us) (d.wth ak fr sp).fr).map enI),.i (d.wth ak fr sp).sp]) ([.s "purse",iN c,iN n],lQ (plD us) (d.wth ak fr sp).fr,(d.wth ak fr sp).sp):=IsR.mk (r:=([.s "purse",iN c,iN n],lQ (plD us) (d.wth ak fr sp).fr,(d.wth ak fr sp).sp)) (DZ ay) (U,U) (sF MY (by have:=ar.fl;have:=a5 e aQ;lia)) xE (D3 (by have:=ar.fl;lia) (Std.pm1 hs |>.wth u1).1);refine(U,ac,_,U,U,?_);refine(_,ab,?_);rw[eb];refine(_,a0,U,aI (λg2=>?_) λg2=>?_)
     ·have a6:wd="give":=V.str.inj (of_decide_eq_true g2);refine(ks,fs,c,n,us.length,plD us,_,_,U,hP,cX,by rw[av];exact g.nd,by rw[av];exact ar.hk,by rw[av];exact Xk,λp hp=>?_,λp hp k hk q hq m hm=>?_,?_,λys a3=>?_)
      ·have:=ar.hl p hp;lia
      ·rw[av]at hk;exact PL (ar.hm p hp k hk q hq m hm)
      ·refine(gB fs c (e.pa.map (·.1)++[n]),?_,λp hp q hq=>((hs.fam hf (hP.pk f (g5 hf)).1).wth u1 hf p hp q hq,(Std.pm1 hs |>.wth u1).2 p hp q hq));have:=a5 e aQ;have:=hN.l3;rw[Mv,j3,cU,zq];lia
      have cK:=a3.ln;rw[av]at cK a3;refine(?_,?_)
      ·rw[j3,zq];exact wz (hV ap)
      have hC:chunk ks (plD us) c n wd (d.wth ak fr sp)=[([.s "purse",iN c,iN n],lQ (plD us) (d.wth ak fr sp).fr,(d.wth ak fr sp).sp)]++mR ks (plD us) c n (d.wth ak fr sp).ho e.sc:=by unfold chunk;rw[if_pos hw,if_pos a6,av];rfl
      exact fin _ ([_]++ys) _ _ (vt ..) hC (Rws.app (.one hR) a3) (by rw[j3,zq];lia)
     have a6:¬ wd="give":=λz=>g2 (by rw[z];rfl);exact fin _ [_] _ _ U (by unfold chunk;rw[if_pos hw,if_neg a6]) (.one hR) (by show 1<=13394;decide)
   have hw:¬ wd∈PAY:=λz=>g1 (by show inT (.s wd) (PAY.map Ϛ)=O;rw[eJ,sd];exact z);exact fin _ [] _ _ (qp _).symm (by unfold chunk;rw[if_neg hw]) .nil ac
  rintro q ⟨X,o6,o7,o8,rfl,hX,aP⟩;rw[aU,ct,ox,<- c3]at hX;rw[aU,ct]at aP;exact(X,_,_,_,_,_,_,U,hX,ap)
 rintro q ⟨X,o3,o4,o5,o6,o7,o8,rfl,hX,aP⟩;rw[aU,cU,<- lz,ox]at hX;rw[aU,cU]at aP;exact hq X hX ap
def iD(ns:Ψ)(ws:Wt):Int:=(ws.map λp=>p.2*ns.getD p.1.toNat 0).sum
def bY(parts:Int)(ns:Ψ):Nat->List Row->Option Nat
 |_,[]=>Y|k,r::rs=>if iD ns r.ws<parts*r.sp then Z k else bY parts ns (k+1) rs
structure PrC(ks:ϖ)(fs:ϗ)(xs:List (Fn×Ϙ))(zs:List (Fn×List Nod))(us:List Fam):Prop where
 p:Prog ks fs
 u:Unk ks fs xs
 z:Nds ks fs xs zs
 e:bZ ks 0 xs=us.map fC
 l:∀u∈us,u.length<=10
def Sm(x:Int):Prop:=-(2 ^ 64)<x/\x<2 ^ 64
theorem jb(ns:Ψ):ϙ (ns.map .i)=true:=aV (λ_=>rfl) ns
theorem PrC.lus{us:List Fam}(h:PrC ks fs xs zs us):us.length<=14500000:=by
 have lim:∀x∈xs,x.1.1.2.1.length<=4/\x.2.length<=50000:=λx hx=>by
  let(L,_,h5,g):=h.u.ok x hx;have:x.1∈fs:=by rw[<- h.u.fn];exact kf.mpr (x,hx,U)
  exact((h.p.pk _ this).1,by rw[g.ln];exact h5)
 have q:xs.length=fs.length:=by rw[<- h.u.fn,cU]
 have l8:=h.p.l8;have:=oO h.p.gk lim (i:=0);rw[h.e,cU]at this;omega
theorem A6{ns:Ψ}{c:Nat}{r:Row}(h:rs[c]?=Z r):bY parts ns c (rs.drop c)=if iD ns r.ws<parts*r.sp then Z c else bY parts ns (c+1) (rs.drop (c+1)):=by let(g,e):=jm.mp h;rw[Zu g,e];rfl
theorem yG{ws:Wt}(h:(ws.map (·.1)).Nodup)(hp:p∈ws):bH (ws.map enI) (.inl p.1)=Z (.i p.2):=by
 induction ws with
 |nil=>cases hp
 |cons q r g =>
  have h':=vp.mp h;unfold bH;rw[ro,zr,show(enI q).1=.inl q.1 from U,yN];obtain rfl|z:=kC.mp hp
  ·rw[decide_eq_true rfl];rfl
  have e:q.1≠p.1:=λe=>h'.1 (kf.mpr (p,z,e.symm));rw[decide_eq_false e];exact g h'.2 z
def wrT(o:Option Nat):L2.T:=match o with|none=>.n|some k=>iN k
inductive NV(ts:ϓ)(Q:ϕ):Prop
 |mk(ys:ϓ)(rs:List Row)(parts:Int)(ns:Ψ)(h1:ts=[.zl ys,.i parts,.l (ns.map .i)])(h2:Rws ns.length ys rs)(h3:Sm parts)(h4:(∀y∈ns,Sm y))(h5:Q (wrT (bY parts ns 0 rs)))
theorem Kw(T:Txt K mg a):bg P w K mg base CX0 1 a.sf a.E6 [TD,Tm,Th] (spQ K NV):=by
 exists T.FH,tI,hu,(ag (bc (g:=(Tg.tp [3,4])) PassesOwn.never U (Gn (i:=0) U T.bh bn (pv 0)) (cM (aZ 3 tI.nd) (aZ 4 tI.nd))
(ai (aR (tX (ZB (bK (fk U U) iS ba T.vg bn (ae (ZB (bI U (Jz (ao (qv 4) ah)) (N':=[P3,"_law_line",Th]) (.own U (.got (i:=4) U U (.inl U) (.got (i:=2) U U (.inl U) .nil))) (bA (g:=(Tg.nm 0)) (λ_ _ _ _ _=>((cb 0),(bJ (cN (ao (qv 1) ah) (qv 0)) (ao (qv 2) (qv 0)))))))) aw))) (ZB (bJ (qv 1) (ao (qv 4) ah))))
(ai (aE (XL (qv 3))))
aF)))
(ai (aE cu))),λts Q h=>?_
 let(ys,rs,parts,ns,U,ak,ay,aP,hq):=h;refine(λc q=>Ea2 λ(o3 o4:Sl)=>q=[.r (.zl ys),.r (.i parts),.r (.l (ns.map .i)),o3,o4]/\bY parts ns c (rs.drop c)=bY parts ns 0 rs,(_,_,U,U),?_,?_)
 ·rintro c y q hy ⟨o3,o4,rfl,V⟩;let(z,hz,U):=bM hy;have aQ:c<rs.length:=by rw[<- ak.ln];exact(jm.mp hz).1
  have ar:rs[c]?=Z rs[c]:=dQ aQ;have hR:=ak.ok c _ _ hz ar;generalize rs[c]=r at ar hR;rw[A6 ar]at V;let(h1,_,h3,h4):=hR;refine(_,U,_,U,?_);refine(bL (by rw[cU,cU];omega),λj ys=>ys=((r.ws.take j).map λp=>p.2*ns.getD p.1.toNat 0).map .i,U,?_,?_)
  ·rintro j y ys hy rfl;rw[tr,fN]at hy;let(p,hp,U):=gV.mp hy;have av:=g5 hp;let(jj,e1,e2):=h1 p av;have en:ns.getD p.1.toNat 0=ns[jj]:=by rw[e1,P4,zu,dQ e2];rfl
   have ea:atI (ns.map ϛ) p.1=Z (.i ns[jj]):=by rw[e1];exact br (by rw[fN,dQ e2];rfl)
   refine(_,U,_,U,?_);simp only[gI,Ϟ];refine(_,yG h4 av,_,ea,.inr (aP _ (P1 e2)),?_);rw[p7,hp,ky,ky];show _=_++[ϛ (p.2*ns.getD p.1.toNat 0)];rw[en]
  rintro ys rfl;rw[cU,cU,ox];refine(_,L2.ins_map _,_,U,.inl ay,aI (λg=>(U,?_)) λg=>?_)
  ·have g:iD ns r.ws<parts*r.sp:=of_decide_eq_true g;rw[if_pos g]at V;rw[<- V]at hq;exact hq
  have g:¬ iD ns r.ws<parts*r.sp:=λz=>g (decide_eq_true z);rw[if_neg g]at V;exact(_,_,U,V)
 rintro q ⟨o3,o4,rfl,V⟩;rw[aU,ak.ln,ZH]at V;rw[<- V]at hq;exact hq
theorem LA:∀ns:Ψ,fls (ns.map ϛ)=O
 |[]=>rfl|n::r=>by show(O&&fls (r.map ϛ))=O;rw[LA r];rfl
theorem A5{ns:Ψ}:∀{c k:Nat},bY parts ns c rs=Z k->∃j r,k=c+j/\rs[j]?=Z r/\iD ns r.ws<parts*r.sp:=by
 induction rs with
 |nil=>intro c k h;cases h
 |cons r rs q =>
  intro c k h;unfold bY at h;split at h
  ·cases h;exact(0,r,U,U,(by assumption))
  let(j,g,e,h1,h2):=q h;exact(j+1,g,ap,(h1:),h2)
inductive J4(ts:ϓ)(Q:ϕ):Prop
 |mk(ys:ϓ)(rs:List Row)(parts ώ:Int)(turns:Nat)(ns:Ψ)(A:L2.T)(h1:ts=[.cz,.zl ys,.i parts,A,.i (turns:Int)])(h2:A.lst=Z (ns.map .i))(h3:Rws ns.length ys rs)(h4:1<=parts)(h5:parts<=40)(h6:∀y∈ns,0<=y/\y<=ώ)(h7:100000000<=ώ)(h8:ώ<=4000000000)(h9:ns.length<=16000000)(h10:turns<=1000)(h11:Q .n)(h12:∀ns':Ψ,ns'.length=ns.length->(∀y∈ns',0<=y/\y<=ώ)->bY parts ns' 0 rs=Y->Q (.l (ns'.map .i)))
theorem pK(T:Txt K mg a):bg P w K mg base CX0 2 a.nU a.Bj [We,TD,Tm,Th,Sa] (spQ K J4):=by
 exists T.oG,cS,hu,(ag (aB 3 cS.nd (aL (pW U) sZ ba T.mB bn (ae (qv 3) aw)))
(ag (bc (g:=(Tg.nm 5)) PassesOwn.never U (gc U T.fZ (ae (qv 4) aw)) (aZ 5 cS.nd)
(ag (aB 6 cS.nd (aJ (Kw T) hr T.FH (ae (qv 1) (ae (qv 2) (ae (qv 3) aw)))))
(ag (aR (bE pE kM (bB _) (qv 6) (ZB cu))
(ai (dm (i:=3) (pv 3)))
aF)
(ag (l5 (g:=(Tg.tp [7,8,9])) (ao (qv 1) (qv 6)) (i6 (K:=K) (n:=3) U U (bG (aZ 7 cS.nd) (bG (aZ 8 cS.nd) (bG (aZ 9 cS.nd) i5)))))
(ag (dF (i:=10) cS.nd U (Or.inl U) U (fU (ZB (bK (Bp U U) F8 ba T.L5 bn (ae (qv 8) aw)))) (N':=[P3,"_law_weights"]) (.own U (.got (i:=8) U U (.inl U) .nil)) (yh (g:=(Tg.nm 0)) (λ_ _ _ _ _=>((cb 0),(Ju (cN (qv 1) (qv 0)) ah),(XL (qv 0))))))
(ag (aR (bO hu (qv 10) (ZB (aO aj)))
(ai (aE cu))
aF)
(ag (aB 11 cS.nd (XL (ao (qv 10) (ZB (aJ (fj (dq T)) hr T.a6 (ae (qv 0) (ae (ZB (bW T.cK (ae (qv 10) aw))) aw)))))))
(ag (aB 12 cS.nd (pA (ZB (bJ (qv 2) (qv 9))) (ZB (bK (fk U U) iS ba T.vg bn (ae (ZB (bI U (Jz (qv 8)) (N':=[Ty,"_law_weights",Th]) (.own U (.got (i:=8) U U (.inl U) (.got (i:=3) U U (.inl U) .nil))) (bA (g:=(Tg.nm 0)) (λ_ _ _ _ _=>((cb 0),(bJ (cN (qv 1) (qv 0)) (ao (qv 2) (qv 0)))))))) aw)))))
(ag (yb (i:=3) (pv 3) (qv 11) (ZB (aS (ao (qv 3) (qv 11)) (ZB (Eg (ZB (pA (ZB (aS (qv 12) (cN (qv 8) (qv 11)))) ah)) (cN (qv 8) (qv 11)))))))
(ai (aR (Ju (ao (qv 3) (qv 11)) (ZB (RQ ah ah)))
(ai (aE cu))
aF)))))))))))
(ai (aE cu)))),λts Q h=>?_
 let(ys,rs,parts,ώ,turns,a0,A,U,hA,a3,p1,p2,TQ,hB1,hB2,cE,ht,a4,hq):=h;have a5:Sm parts:=(ap,ap);refine(_,hA,jb a0,?_);refine(ap,ap,λc q=>Ea9 λ(ns:Ψ)(o5 o6 o7 o8 o9 aW aQ aP:Sl)=>q=[.r .cz,.r (.zl ys),.r (.i parts),.o (.l (ns.map .i)),.r (.i turns),o5,o6,o7,o8,o9,aW,aQ,aP]/\ns.length=a0.length/\∀y∈ns,0<=y/\y<=ώ,(a0,_,_,_,_,_,_,_,_,U,U,TQ),?_,?_)
 ·rintro c y q hy ⟨ns,o5,o6,o7,o8,o9,aW,aQ,aP,rfl,hl,ar⟩;have bh:∀y∈ns,Sm y:=λy hy=>by have:=ar y hy;exact(ap,ap)
  refine(_,U,ys,rs,parts,ns,U,by rw[hl];exact a3,a5,bh,?_);cases hF:bY parts ns 0 rs with
  |none=>exact hq ns hl ar hF|some k =>
   let(j,r,ek,hr,cR):=A5 hF;rw[Ft]at ek;subst ek;have bT:k<ys.length:=by rw[a3.ln];exact(jm.mp hr).1
   have hy:ys[k]?=Z ys[k]:=dQ bT;have hR:=a3.ok k _ _ hy hr;rw[<- hl]at hR;generalize ys[k]=y at hy hR;have ay:atI ys (k:Int)=Z y:=br hy;cases hR with
   |@mk _ o vs h1 cq h3 h4 h5 =>
    have ct:(Ϝ [Ϝ r.nm,L2.T.fd o vs (r.ws.map enI),ϛ r.sp]).im=true:=by show(ϙ r.nm&&O)=O;rw[cq.1];rfl
    have V7:(r.ws.map enI).map (·.1)=(r.ws.map (·.1)).map Sum.inl:=by rw[tr,tr];rfl
    refine(_,ay,ct,_,U,r.ws.map (·.1),(V7,by rw[cU];lia),λzs Lp _=>?_);refine(bL (by rw[cU,Lp.length_eq,cU];lia),λc ys=>∃zs:Ψ,ys=zs.map .i/\(∀z∈zs,∃p∈r.ws,p.1=z/\0<p.2)/\zs.length<=c,([],U,cc,kB _),?_,?_)
    ·rintro c y ys hy ⟨xs,rfl,av,ak⟩;rw[fN]at hy;let(z,hz,U):=gV.mp hy;let(p,hp,ep):=kf.mp (Lp.mem_iff.mp (g5 hz));subst ep;refine(_,U,?_);simp only[jW,qOp,aG,gI,Ϟ];refine(_,yG h4 hp,aI (λg=>(U,xs++[p.1],by rw[ky];rfl,λz hz=>?_,by rw[j3];exact Nat.add_le_add_right ak 1)) λ_=>(xs,U,av,Nat.le_succ_of_le ak));obtain z' |z':=jn.mp hz
     ·exact av z z'
     rw[fy.mp z'];exact(p,hp,U,of_decide_eq_true g)
    rintro bD ⟨xs,rfl,av,b0⟩;rw[cU,Lp.length_eq,cU]at b0;refine(by rw[LA];rfl,aI (λ_=>a4) λg=>?_);have cQ:0<xs.length:=by cases xs with|nil=>exact absurd U g|cons _ _=>exact Nat.succ_pos _
    have ak:((xs.map ϛ).length:Int)=xs.length:=by rw[cU]
    refine(by rw[ak];lia,by rw[ak];lia,λd d0 d1=>?_);rw[ak]at d1;let(z,hz,ez):=hJ (xs:=xs) (f:=ϛ) d0 d1;let(p,hp,ep,O8):=av z hz;subst ep;let(V,e1,e2):=h1 p hp;have hw:=h5 p hp;have ea:atI (ns.map ϛ) p.1=Z (.i ns[V]):=by rw[e1];exact br (by rw[fN,dQ e2];rfl)
    have cP:=ar _ (P1 e2);refine(_,ez,U,.inl a5,?_);refine(bL (by rw[cU,cU];lia),λj ys=>ys=((r.ws.take j).map λp=>p.2*ns.getD p.1.toNat 0).map .i,U,?_,?_)
    ·rintro j y ys hy rfl;rw[tr,fN]at hy;let(p,hp,U):=gV.mp hy;have bp:=g5 hp;let(V,e1,e2):=h1 p bp;have en:ns.getD p.1.toNat 0=ns[V]:=by rw[e1,P4,zu,dQ e2];rfl
     have ea:atI (ns.map ϛ) p.1=Z (.i ns[V]):=by rw[e1];exact br (by rw[fN,dQ e2];rfl)
     refine(_,U,?_);simp only[qOp,aG,gI,Ϟ];refine(_,yG h4 bp,_,ea,.inr (bh _ (P1 e2)),?_);rw[p7,hp,ky,ky];show _=_++[ϛ (p.2*ns.getD p.1.toNat 0)];rw[en]
    rintro bD rfl;rw[cU,cU,ox];refine(_,L2.ins_map _,?_);have Yf:0<parts*r.sp-iD ns r.ws:=ap;have rd:∀{Q':ϕ},Q' (.i p.2)->gI (.fd o vs (r.ws.map enI)) (.i p.1) Q':=λ{Q'} h=>by
     simp only[gI,Ϟ];exact(_,yG h4 hp,h)
    have V5:0 <=(parts*r.sp-iD ns r.ws+p.2-1) / p.2:=Int.ediv_nonneg ap ap;obtain⟨more,hm⟩:∃more,more=(parts*r.sp-iD ns r.ws+p.2-1) / p.2:=(_,U);rw[<- hm]at V5;have bt:atI ((ns.set V (ns[V]+more)).map ϛ) p.1=Z (.i (ns[V]+more)):=by rw[e1];exact br (by rw[fN,WO e2];rfl)
    refine(_,ea,rd (rd ((O8,ap),?_)));have cA:ixN (ns.map ϛ).length p.1=Z V:=by rw[cU,e1];unfold ixN;rw[if_pos (Yn V),if_pos ap,P4]
    refine(V,cA,jb ns,U,?_);have es:(ns.map ϛ).set V (ϛ (ns[V]+(parts*r.sp-iD ns r.ws+p.2-1) / p.2))=(ns.set V (ns[V]+more)).map ϛ:=by rw[<- hm];exact aa1.symm
    rw[<- es]at bt;refine(_,bt,(ac,ac,ac),aI (λ_=>a4) λg=>?_);have g:ns[V]+more<=100000000:=by have e:(10:Int) ^ (8:Int).toNat=100000000:=ac;have g:¬(10:Int) ^ (8:Int).toNat<ns[V]+more:=λz=>g (decide_eq_true z);rw[e]at g;lia
    refine(ns.set V (ns[V]+more),_,_,_,_,_,_,_,_,by rw[<- es];rfl,by rw[Ye,hl],λy hy=>?_);obtain z|z:=YF hy
    ·exact ar y z
    rw[z];lia
 rintro q ⟨ns,o5,o6,o7,o8,o9,aW,aQ,aP,rfl,hl,ar⟩;exact a4
inductive ua(ts:ϓ)(Q:ϕ):Prop
 |mk(ys:ϓ)(rs:List Row)(parts:Int)(turns:Nat)(ns:Ψ)(ώ:Int)(h1:ts=[.cz,.zl ys,.i parts,.zl (ns.map .i),.i (turns:Int)])(h3:Rws ns.length ys rs)(h4:1<=parts)(h5:parts<=40)(hB1:100000000<=ώ)(hB2:ώ<=2000000000)(h6:∀y∈ns,0<=y/\y<=ώ)(h8:0<ns.length)(h9:ns.length<=16000000)(h10:turns<=100)(h12:∀ns':Ψ,ns'.length=ns.length->(∀y∈ns',0<=y/\y<=ώ+20000)->(bY parts ns 0 rs=Y->bY parts ns' 0 rs=Y)->Q (.zl (ns'.map .i)))
theorem i4:∀ns:Ψ,L2.T.me (ns.map .i)=O
 |[]=>rfl|n::r=>by show(O&&L2.T.me (r.map .i))=O;rw[i4 r];rfl
theorem wQ(T:Txt K mg a):bg P w K mg base CX0 3 a.nR a.Bh [We,TD,Tm,Th,Sa] (spQ K ua):=by
 exists T.vF,gb,hu,(ag (bc (g:=(Tg.nm 5)) PassesOwn.never U (gc U T.fZ (ae (qv 4) aw)) (aZ 5 gb.nd)
(ag (aB 6 gb.nd (aL (pW U) sZ ba T.mB bn (ae (qv 3) aw)))
(ag (aB 7 gb.nd (aJ (fj (dq T)) hr T.a6 (ae (qv 0) (ae (ZB (bW T.cK (ae (qv 3) aw))) aw))))
(ag (yb (i:=6) (pv 6) (qv 7) (ZB (aS (ao (qv 6) (qv 7)) (ZB (i3 (aO (af bw (af (XL (qv 2)) (af (bJ ah (qv 2)) (af bw aj))))) (ZB (aJ (fj (dq T)) hr T.a6 (ae (qv 0) (ae ah aw)))))))))
(ag (aB 6 gb.nd (t6 (aJ (pK T) hr T.oG (ae (qv 0) (ae (qv 1) (ae (qv 2) (ae (qv 6) (ae ah aw))))))))
(ai (aR (bE nt jJ (bB _) (qv 6) (ZB cu))
(ai (aB 3 gb.nd (XL (qv 6))))
aF)))))))
(ai (aE (XL (qv 3))))),λts Q h=>?_
 let(ys,rs,parts,turns,ak,ώ,U,ay,p1,p2,b1,b2,TQ,a4,a0,ht,hq):=h;refine(ap,ap,λc q=>Ea5 λ(ns:Ψ)(o3 o5 o6 o7:Sl)=>q=[.r .cz,.r (.zl ys),.r (.i parts),o3,.r (.i turns),o5,o6,o7]/\(o3=.r (.zl (ns.map .i))\/o3=.o (.zl (ns.map .i)))/\ns.length=ak.length/\(∀y∈ns,0<=y/\y<=ώ+200*c)/\(bY parts ak 0 rs=Y->bY parts ns 0 rs=Y),(ak,_,_,_,_,U,.inl U,U,λy hy=>by have:=TQ y hy;lia,id),?_,?_)
 ·rintro c y q hy ⟨ns,o3,o5,o6,o7,rfl,ho,hl,V,hF⟩;let(U,hc):=jS hy;have ar:((ns.map ϛ).length:Int)=ns.length:=by rw[cU]
  obtain rfl|rfl:=ho;all_goals
   refine(_,U,_,U,jb ns,?_);refine(by rw[ar];lia,by rw[ar];lia,λd d0 d1=>?_);rw[ar]at d1;obtain⟨j,rfl⟩:∃j:Nat,d=j:=(d.toNat,ap);have hj:j<ns.length:=ap;have ea:atI (ns.map ϛ) (j:Int)=Z (.i ns[j]):=br (by rw[fN,dQ hj];rfl);refine(_,ea,U,.inl (ac,ac),ac,ac,λe e0 e1=>?_);let(v,hv,ev):=hJ (xs:=[1,parts,5*parts,40]) (f:=ϛ) e0 e1;have hv:1<=v/\v<=200:=by simp only[kC,v5,or_false]at hv;lia
   have a3:=V _ (P1 hj);have aW:ixN (ns.map ϛ).length (j:Int)=Z j:=by rw[cU];unfold ixN;rw[if_pos (Yn j),if_pos ap,P4]
   have es:(ns.map ϛ).set j (ϛ (ns[j]+v))=(ns.set j (ns[j]+v)).map ϛ:=aa1.symm;have av:(ns.set j (ns[j]+v)).length=ns.length:=Ye ..;refine(_,ev,j,aW,jb ns,U,?_);refine(ys,rs,parts,ώ+200*((c+1:Nat):Int),6,ns.set j (ns[j]+v),_,U,congrArg Z es,by rw[av,hl];exact ay,p1,p2,λy hy=>?_,ap,ap,ap,ap,?_,λns' aP XE aQ=>?_)
   ·obtain z|z:=YF hy
    ·have:=V y z;lia
    rw[z];lia
   ·exact(ns,_,_,_,_,U,by first|exact .inl rfl|exact .inr U,hl,λy hy=>by have:=V y hy;lia,hF)
   refine(i4 ns',U,?_);exact(ns',_,_,_,_,U,.inr U,by rw[aP,av,hl],XE,λ_=>aQ)
 rintro q ⟨ns,o3,o5,o6,o7,rfl,ho,hl,V,hF⟩;have r:(Gh 0 ((turns:Int)).toNat).length=turns:=by rw[eh];lia
 rw[r]at V;obtain rfl|rfl:=ho;all_goals exact(U,hq ns hl (λy hy=>by have:=V y hy;lia) hF)
inductive dw(g:Bool)(ks:ϖ)(hs:List Hd):Sc->L2.T->Ϙ->Prop
 |give{sc:Sc}{x:Str}:dw g ks hs sc (.t [.s "give",.s x]) [Y]|cY{sc:Sc}{w:Str}{c:Int}{b:L2.T}{os:Ϙ}:(w="pay" \/ w="get")->(w="pay"->g=O)->dw g ks hs sc b os->dw g ks hs sc (.t [.s w,.i c,b]) (Y::os)|name{sc:Sc}{x y k:Str}{b:L2.T}{os:Ϙ}:(y,k)∈sc->dw g ks hs (sc++[Prod.mk x k]) b os->dw g ks hs sc (.t [.s "name",.s x,.s y,b]) (Z k::os)|make{sc:Sc}{x:Str}{m:Mk1}{kd:Kd}{ns:Γ}{b:L2.T}{os:Ϙ}:kd∈ks->m∈kd.2->dw g ks hs (sc++[(x,kd.1)]) b os->dw g ks hs sc (.t [.s "make",.s x,.s m.1,.t (ns.map .s),b]) (Z kd.1::os)|call{sc:Sc}{x:Str}{h:Hd}{ns:Γ}{b:L2.T}{os:Ϙ}:h∈hs->dw g ks hs (sc++[(x,h.2.2)]) b os->dw g ks hs sc (.t [.s "call",.s x,.s h.1,.t (ns.map .s),b]) (Y::os)|case{sc:Sc}{x:Str}{kd:Kd}(arms:List Arm)(oss:List (Ϙ)):(x,kd.1)∈sc->kd∈ks->arms.map (·.1)=kd.2.map (·.1)->oss.length=arms.length ->
   (∀(j:Nat)(a:Arm)(m:Mk1)(os:Ϙ),arms[j]?=Z a->kd.2[j]?=Z m->oss[j]?=Z os->dw g ks hs (sc++a.2.1.zip m.2) a.2.2.1 os)->dw g ks hs sc (.t [.s "case",.s x,.t (arms.map tA)]) (Z kd.1::oss.flatten)
theorem Aj{P:Nat->Ϙ->Prop}:∀n,(∀j,j<n->∃os,P j os)->∃oss:List (Ϙ),oss.length=n/\∀(j:Nat)(os:Ϙ),oss[j]?=Z os->P j os
 | 0,_=>([],U,λj os h=>by simp at h)|n+1,h=>by
  let(oss,hl,ho):=Aj n λj z=>h j ap;let(os,h1):=h n ap;refine(oss++[os],by rw[j3,hl];rfl,λj q g=>?_);by_cases z:j<oss.length
  ·rw[u6 z]at g;exact ho j q g
  rw[vr ap]at g;have:j=oss.length:=by have:=(jm.mp g).1;simp at this;lia
  subst this;rw[Zo]at g;cases g;rw[hl];exact h1
theorem dw.kids{d:Nod}(gk:bC ks)(hn:(hs.map (·.1)).Nodup)(nd:(d.sc.map (·.1)).Nodup)(h:dw g ks hs d.sc d.b os)(hK:PZ ks hs n d cs):∃(o:Option Str)(oss:List (Ϙ)),os=o::oss.flatten/\Ask ks d.sc d.b o/\oss.length=cs.length/\∀(j:Nat)(c:Nod)(q:Ϙ),cs[j]?=Z c->oss[j]?=Z q->dw g ks hs c.sc c.b q:=by
 have len:=congrArg HH hK.su;rw[cU]at len;have one:∀{q:Ϙ},cs.length=1->(∀c,cs[0]?=Z c->dw g ks hs c.sc c.b q)->([q]:List (Ϙ)).length=cs.length/\∀(j:Nat)(c:Nod)(av:Ϙ),cs[j]?=Z c->([q]:List (Ϙ))[j]?=Z av->dw g ks hs c.sc c.b av:=λ{q} h1 h2=>(h1.symm,λj c av e1 e2=>by
  cases j with
  |zero=>cases e2;exact h2 c e1
  |succ j=>simp at e2)
 have kid:=hK.ok;generalize d.sc=sc at h kid nd ⊢;generalize d.b=b at h kid len ⊢;cases h with
 |give=>exact(Y,[],U,.give,len.symm,λj c q _ h=>by simp at h)|@cY _ w c b os hw _ hb =>
  refine(Y,[os],ad,.cY hw,one len λe he=>?_);let(_,hk):=kid 0 e he;let(eb,ak,V,Q,P):=e;dsimp only at hk ⊢;generalize z:Ϝ [.s w,.i c,b]=t at hk;cases hk <;> first|exact absurd (congrArg tgT z) (Nat.ne_of_beq_eq_false rfl)|simp at z
  let(_,_,U):=z;exact hb
 |@name _ x y k b os hy hb =>
  refine(Z k,[os],ad,.name hy,one len λe he=>?_);let(_,hk):=kid 0 e he;let(eb,ak,V,Q,P):=e;dsimp only at hk ⊢;generalize z:Ϝ [.s "name",.s x,.s y,b]=t at hk;cases hk <;> first|exact absurd (congrArg tgT z) (Nat.ne_of_beq_eq_false rfl)|simp at z
  rename_i ay _ _;let(U,U,U):=z;obtain rfl:=d8 nd hy ay;exact hb
 |@make _ x m kd ns b os K hm hb =>
  refine(Z kd.1,[os],ad,.make K hm,one len λe he=>?_);let(_,hk):=kid 0 e he;let(eb,ak,V,Q,P):=e;dsimp only at hk ⊢;generalize z:Ϝ [.s "make",.s x,.s m.1,.t (ns.map .s),b]=t at hk;cases hk <;> first|exact absurd (congrArg tgT z) (Nat.ne_of_beq_eq_false rfl)|simp[Cj,Co]at z
  rename_i pR aQ _ _;let(U,e1,e2,U):=z;obtain rfl:=uC gk K pR hm aQ e1;exact hb
 |@call _ x h ns b os hh hb =>
  refine(Y,[os],ad,.call,one len λe he=>?_);let(_,hk):=kid 0 e he;let(eb,ak,V,Q,P):=e;dsimp only at hk ⊢;generalize z:Ϝ [.s "call",.s x,.s h.1,.t (ns.map .s),b]=t at hk;cases hk <;> first|exact absurd (congrArg tgT z) (Nat.ne_of_beq_eq_false rfl)|simp[Cj,Co]at z
  rename_i aW _ _;let(U,e1,e2,U):=z;obtain rfl:=Lv hn hh aW e1;exact hb
 |@case _ x kd arms oss hx K a4 hl ho =>
  have len:cs.length=arms.length:=by rw[len];show((arms.map tA).map _).length=_;rw[cU,cU]
  refine(Z kd.1,oss,U,.case hx,by rw[hl,len],λj e q he h'=>?_);let(_,hk):=kid j e he;let(eb,ak,V,Q,P):=e;dsimp only at hk ⊢;generalize z:Ϝ [.s "case",.s x,.t (arms.map tA)]=t at hk;cases hk <;> first|exact absurd (congrArg tgT z) (Nat.ne_of_beq_eq_false rfl)|simp at z
  rename_i x' a3 cR ar mm aP pR XF a5 hN ha hm _;let(U,e1):=z;obtain rfl:=Qt gk K pR (d8 nd hx aP);have e2:=congrArg (·[j]?) e1;simp only[fN,ha]at e2;let(a0,h0,e3):=gV.mp e2;let(_,q2,q3):=Ca e3;have:=ho j a0 mm q h0 hm h';rw[q2,q3]at this;exact this
theorem L8{ks:ϖ}(gk:bC ks)(hn:(hs.map (·.1)).Nodup):∀(k:Nat){n:Nat}{ds M:List Nod}{oss:List (Ϙ)},M.length=k->cv ks hs n ds M->oss.length=ds.length->(∀d∈ds,(d.sc.map (·.1)).Nodup)->(∀(j:Nat)(d:Nod)(os:Ϙ),ds[j]?=Z d->oss[j]?=Z os->dw g ks hs d.sc d.b os)->oH ks M oss.flatten/\∀e∈M,∃os,dw g ks hs e.sc e.b os:=by
 intro k;induction k with
 |zero =>
  intro n ds M oss hl h ho _ _;rw[vq.mp hl]at h ⊢;cases ds with
  |nil =>rw[vq.mp ho];exact((U,λn e o h=>by simp at h),λ_ h=>nomatch h)|cons d ds =>
   let(_,_,_,e,_):=h.pop;cases e
 |succ k ih =>
  intro n ds M oss hl h ho P hA;cases ds with
  |nil=>cases h;simp at hl
  |cons d0 ds =>
   cases oss with
   |nil=>simp at ho|cons Q oss =>
    let(cs,L',hK,U,h2):=h.pop;have nd0:=P d0 j0;let(o,W7,U,a1,a2,a3):=dw.kids gk hn nd0 (hA 0 d0 Q U U) hK;let(this,al):=ih (oss:=W7++oss) (hl:) h2 (by rw[j3,j3,a2];simp at ho;lia) (λd hd=>by
     obtain z|z:=jn.mp hd
     ·let(j,V,e):=ri z;exact((hK.ok j d (by rw[dQ V,e])).2).nd nd0
     exact P d (j5 _ z)) λj d os K q=>by
     by_cases V:j<cs.length
     ·rw[u6 V]at K;rw[u6 ap]at q;exact a3 j d os K q
     rw[vr ap]at K q;rw[a2]at q;exact hA (j-cs.length+1) d os (K:) (q:)
    rw[List.flatten_append]at this;refine((by rw[List.flatten_cons,j3,qf,qf,<- this.ln,j3];lia,λi e o' K q=>?_),λe he=>(kC.mp he).elim (λz=>z▸(_,hA 0 d0 _ U U)) (al e));cases i with
    |zero=>cases K;cases q;exact a1
    |succ i=>exact this.ok i e o' (K:) (q:)
theorem Bs{ks:ϖ}(gk:bC ks)(hn:(hs.map (·.1)).Nodup){d:Nod}(h:Pre ks hs n d L)(nd:(d.sc.map (·.1)).Nodup)(K:dw g ks hs d.sc d.b os):oH ks L os/\∀e∈L,∃os,dw g ks hs e.sc e.b os:=by
 have h2:=by have:=cv.cons h (.nil);rwa [qp]at this
 have:=L8 gk hn L.length (oss:=[os]) U h2 U (λQ hd=>by rw[fy.mp hd];exact nd) λj Q z q P=>by
  cases j with
  |zero=>cases q;cases P;exact K
  |succ j=>simp at q
 rwa [List.flatten_cons,List.flatten_nil,qp]at this
theorem gW(h:Dep M (.t ts)):∃g,M=g+1/\∀x∈ts,Dep g x:=by
 cases M with
 |zero=>obtain⟨x,h⟩|⟨x,h⟩:=h <;> cases h
 |succ M =>
  obtain⟨x,h⟩|⟨x,h⟩|⟨us,h,q⟩:=h
  ·cases h
  ·cases h
  cases h;exact(M,U,q)
inductive W6(N:Nat)(ts:ϓ)(Q:ϕ):Prop
 |mk(ks:ϖ)(hs:List Hd)(r:Str)(n:Nat)(sc:Sc)(b:L2.T)(h1:ts=[b])(h2:bC ks)(h3:Snd ks hs r n sc b)(h4:Dep N b)(h5:∀b',Snd ks hs r n sc b'->(∀M,Dep M b->Dep M b')->(∃os,dw O ks hs sc b os/\dw ϊ ks hs sc b' os)->Q b')
theorem nX{w q:Str}{b b':L2.T}(h:∀M,Dep M b->Dep M b')(hd:Dep M (.t (.s w ::(mid++[b])))):Dep M (.t (.s q ::(mid++[b']))):=by
 let(K,U,hx):=gW hd;refine Dep.t (cI Dep.s λx g=>?_);obtain z|z:=jn.mp g
 ·exact hx x (by simp[z])
 rw[fy.mp z];exact h _ (hx b ad)
theorem qU(T:Txt K mg a)(N:Nat):bg P w K mg base CX0 (N+2) a.eT a.km [Op] (spQ K (W6 N)):=by
 induction N with
 |zero =>
  refine never λts Q hz=>?_;let(ks,hs,r,n,sc,b,_,_,hS,hD,_):=hz;cases hS <;>(obtain⟨x,h⟩|⟨x,h⟩:=hD <;> cases h)
 |succ N e9 =>
  exists T.fb,fI,hu,(ag (aR (bO hu (ao (qv 0) ah) (ZB aK))
(ai (aE (XL (qv 0))))
aF)
(ag (aR (bO hu (ao (qv 0) ah) (ZB aK))
(ag (dF (i:=1) fI.nd U (Or.inl U) U (dM (ao (qv 0) ah)) (N':=["_law_arm"]) (.own U .nil) (bA (g:=(Tg.nm 0)) (λ_ _ _ _ _=>((cb 0),(aq (af (XL (ao (qv 0) ah)) (af (XL (ao (qv 0) ah)) (af (aJ e9 hr T.fb (ae (ao (qv 0) ah) aw)) aj))))))))
(ai (aE (aq (af aK (af (XL (ao (qv 0) ah)) (af (aL (bN U) b7 ba T.cE bn (ae (qv 1) aw)) aj)))))))
aF)
(ag (aB 2 fI.nd (i3 (aO (af (XL (ao (qv 0) ah)) (af aK aj))) (ZB (aL iG mV ba T.Bq bn (ae (ZB (jV (yy hu U) rL (bB _) (ao (qv 0) ah) (ZB aK))) aw)))))
(ai (aE (aS (ZB (aS (ZB (aq (af (XL (qv 2)) aj))) (ZB (gi (qv 0) (gH ah) (gH (ZB (jU ah))))))) (ZB (aq (af (aJ e9 hr T.fb (ae (ao (qv 0) (ZB (jU ah))) aw)) aj))))))))),λts Q h=>?_
  let(ks,hs,r,n,sc,b,U,gk,hS,hD,hq):=h;have aP:=hS.im;obtain⟨_,e0,a0⟩:∃M',N+1=M'+1/\∀(ts:ϓ),b=.t ts->∀x∈ts,Dep M' x:=by refine(N,U,λts e x hx=>?_);subst e;let(M',e,h):=gW hD;cases e;exact h x hx
  cases e0;have one:∀{b':L2.T},b'.im=O->ϙ [b']=true:=λ{b'} h=>by show(b'.im&&O)=O;rw[h];rfl
  cases hS with
  |give hx =>exact(_,U,U,aI (λ_=>(aP,hq _ (.give hx) (λ_ h=>h) (_,.give,.give))) λz=>absurd bi z)|@cY n sc w c b hw hc hb =>
   have n1:¬ decide ((Ϛ w).v=(Ϛ "give").v)=true:=by obtain rfl|rfl:=hw <;> decide +kernel
   have n2:¬ decide ((Ϛ w).v=(Ϛ "case").v)=true:=by obtain rfl|rfl:=hw <;> decide +kernel
   refine(_,U,U,aI (λz=>absurd z n1) λ_=>(_,U,U,aI (λz=>absurd z n2) λ_=>?_));have ew:atI [Ϛ w,.s "get"] (if decide ((Ϛ w).v=(Ϛ "pay").v)=O then 1 else 0)=Z (.s "get"):=by
    obtain rfl|rfl:=hw
    ·rw[if_pos bi];rfl
    rw[if_neg bi];rfl
   refine(_,U,U,_,U,U,_,ew,U,aP,(by show 2<=mu;decide),U,U,_,U,ks,hs,r,_,_,b,U,gk,hb,a0 _ U b ad,λb' h1 h2 av=>?_);let(os,a1,a2):=av;exact((by show 3<=mu;decide),U,one h1.im,hq _ (.cY (.inr U) hc h1) (λM h=>nX (mid:=[.i c]) h2 h) (_,.cY hw (λ_=>rfl) a1,.cY (.inr U) (λz=>absurd z ac) a2))
  |@name n sc x y k b hy hx hb =>
   refine(_,U,U,aa ((_,U,U,aa ?_)));have ew:atI [Ϛ "name",.s "get"] (if decide ((Ϛ "name").v=(Ϛ "pay").v)=O then 1 else 0)=Z (.s "name"):=by rw[if_neg bi];rfl
   refine(_,U,U,_,U,U,_,ew,U,aP,(by show 3<=mu;decide),U,U,_,U,ks,hs,r,_,_,b,U,gk,hb,a0 _ U b ad,λb' h1 h2 av=>?_);let(os,a1,a2):=av;exact((by show 4<=mu;decide),U,one h1.im,hq _ (.name hy hx h1) (λM h=>nX (mid:=[.s x,.s y]) h2 h) (_,.name hy a1,.name hy a2))
  |@make n sc x m kd ns b ak hm hF hx hb =>
   refine(_,U,U,aa ((_,U,U,aa ?_)));have ew:atI [Ϛ "make",.s "get"] (if decide ((Ϛ "make").v=(Ϛ "pay").v)=O then 1 else 0)=Z (.s "make"):=by rw[if_neg bi];rfl
   have ay:ϙ [.s x,.s m.1,.t (ns.map .s)]=true:=by show(ϙ (ns.map .s)&&O)=O;rw[aX];rfl
   refine(_,U,U,_,U,U,_,ew,U,aP,(by show 4<=mu;decide),U,ay,_,U,ks,hs,r,_,_,b,U,gk,hb,a0 _ U b ad,λb' h1 h2 av=>?_);let(os,a1,a2):=av;exact((by show 5<=mu;decide),ay,one h1.im,hq _ (.make ak hm hF hx h1) (λM h=>nX (mid:=[.s x,.s m.1,.t (ns.map .s)]) h2 h) (_,.make ak hm a1,.make ak hm a2))
  |@call n sc x hd ns b hh hF hx hb =>
   refine(_,U,U,aa ((_,U,U,aa ?_)));have ew:atI [Ϛ "call",.s "get"] (if decide ((Ϛ "call").v=(Ϛ "pay").v)=O then 1 else 0)=Z (.s "call"):=by rw[if_neg bi];rfl
   have ay:ϙ [.s x,.s hd.1,.t (ns.map .s)]=true:=by show(ϙ (ns.map .s)&&O)=O;rw[aX];rfl
   refine(_,U,U,_,U,U,_,ew,U,aP,(by show 4<=mu;decide),U,ay,_,U,ks,hs,r,_,_,b,U,gk,hb,a0 _ U b ad,λb' h1 h2 av=>?_);let(os,a1,a2):=av;exact((by show 5<=mu;decide),ay,one h1.im,hq _ (.call hh hF hx h1) (λM h=>nX (mid:=[.s x,.s hd.1,.t (ns.map .s)]) h2 h) (_,.call hh a1,.call hh a2))
  |@case sc x kd arms hx ak aQ h1 h2 =>
   have la:arms.length=kd.2.length:=by have:=congrArg HH aQ;rwa [cU,cU]at this
   have l6:arms.length<=6:=by have:=(gk.ne kd ak).2;lia
   refine(_,U,U,aa ((_,U,U,aI (λ_=>?_) λz=>absurd bi z)));refine(_,U,aD (by rw[cU];lia),λi ys=>∃cR:List Arm,ys=cR.map tA/\cR.length=i/\∀(j:Nat)(ar q:Arm),arms[j]?=Z ar->cR[j]?=Z q->q.1=ar.1/\q.2.1=ar.2.1/\q.2.2.2=ar.2.2.2/\(∀m,kd.2[j]?=Z m->Snd ks hs r ar.2.2.2 (sc++ar.2.1.zip m.2) q.2.2.1)/\(∀M,Dep M ar.2.2.1->Dep M q.2.2.1)/\∀m,kd.2[j]?=Z m->∃os,dw O ks hs (sc++ar.2.1.zip m.2) ar.2.2.1 os/\dw ϊ ks hs (sc++ar.2.1.zip m.2) q.2.2.1 os,([],U,U,λj _ _ _ h=>by simp at h),?_,?_)
   ·rintro i y ys hy ⟨cR,rfl,hl,hA⟩;rw[fN]at hy;let(ar,aW,U):=gV.mp hy;have a6:=(jm.mp aW).1;have hm:kd.2[i]?=Z (kd.2[i]' ap):=dQ _;have hS:=h2 i ar _ aW hm;have hd:Dep N ar.2.2.1:=by let(M1,V,g1):=gW hD;cases V;let(M2,U,g2):=gW (g1 (.t (arms.map tA)) ad);let(M3,U,g3):=gW (g2 (tA ar) (kf.mpr (ar,g5 aW,U)));exact(g3 ar.2.2.1 ad).mono ap
    refine(_,U,_,U,U,_,U,aX _,_,U,ks,hs,r,_,_,_,U,gk,hS,hd,λb' g1 g2 g3=>?_);refine(cR++[(ar.1,ar.2.1,b',ar.2.2.2)],by rw[ky];rfl,by rw[j3,hl];rfl,λj a1 a2 V e2=>?_);by_cases hj:j<cR.length
    ·rw[u6 hj]at e2;exact hA j a1 a2 V e2
    rw[vr ap]at e2;have:j=cR.length:=by have:=(jm.mp e2).1;simp at this;lia
    subst this;rw[Zo]at e2;cases e2;rw[hl,aW]at V;cases V;refine(U,U,U,λm e=>?_,g2,λm e=>?_)
    ·rw[hl,hm]at e;cases e;exact g1
    rw[hl,hm]at e;cases e;exact g3
   rintro ys ⟨cR,rfl,hl,hA⟩;rw[cU]at hl;have a3:cR.map (·.1)=arms.map (·.1):=YY (by simp[hl]) λj g1 g2=>by
    rw[cU]at g1 g2;rw[YM,YM];exact(hA j _ _ (dQ g2) (dQ g1)).1
   have a5:cR.map (·.2.2.2)=arms.map (·.2.2.2):=YY (by simp[hl]) λj g1 g2=>by
    rw[cU]at g1 g2;rw[YM,YM];exact(hA j _ _ (dQ g2) (dQ g1)).2.2.1
   have old:∀{j:Nat}{a':Arm},cR[j]?=Z a'->∃ar,arms[j]?=Z ar:=λ{j a'} h=>(_,dQ (by have:=(jm.mp h).1;lia));have nS:Snd ks hs r (1+(arms.map (·.2.2.2)).sum) sc (.t [.s "case",.s x,.t (cR.map tA)]):=by
    rw[<- a5];refine .case cR hx ak (a3.trans aQ) (λj a' m V e2=>?_) λj a' m V e2=>?_
    ·let(ar,e0):=old V;rw[(hA j ar a' e0 V).2.1];exact h1 j ar m e0 e2
    let(ar,e0):=old V;let(_,z2,z3,z4,_,_):=hA j ar a' e0 V;rw[z2,z3];exact z4 m e2
   have XJ:ϙ (cR.map tA)=true:=by have h:(O&&(O&&(ϙ (cR.map tA)&&O)))=true:=nS.im;simpa using h
   let(oss,ol,ho):=Aj (P:=λj os=>∀(ar q:Arm)(m:Mk1),arms[j]?=Z ar->cR[j]?=Z q->kd.2[j]?=Z m->dw O ks hs (sc++ar.2.1.zip m.2) ar.2.2.1 os/\dw ϊ ks hs (sc++ar.2.1.zip m.2) q.2.2.1 os) arms.length λj hj=>by
    have e0:arms[j]?=Z arms[j]:=dQ hj;have V:cR[j]?=Z (cR[j]' ap):=dQ _;have e2:kd.2[j]?=Z (kd.2[j]' ap):=dQ _;let(os,p1,p2):=(hA j _ _ e0 V).2.2.2.2.2 _ e2;refine(os,λar q m q0 q1 q2=>?_);rw[e0]at q0;rw[V]at q1;rw[e2]at q2;cases q0;cases q1;cases q2;exact(p1,p2)
   refine(_,U,U,XJ,hq _ nS (λM hM=>?_) (_,.case arms oss hx ak aQ ol λj ar m os V e2 e3=>?_,.case cR oss hx ak (a3.trans aQ) ap λj q m os V e2 e3=>?_))
   rotate_left
   ·exact(ho j os e3 ar (cR[j]'(by have:=(jm.mp V).1;lia)) m V (dQ _) e2).1
   ·let(ar,e0):=old V;have:=(ho j os e3 ar q m e0 V e2).2;rw[(hA j ar q e0 V).2.1];exact this
   let(M1,U,g1):=gW hM;let(M2,U,g2):=gW (g1 (.t (arms.map tA)) ad);refine Dep.t (cI Dep.s (cI Dep.s (cI (Dep.t λt ht=>?_) gX)));let(a',a4,U):=kf.mp ht;let(j,hj,V):=ri a4;have V:cR[j]?=Z a':=by rw[dQ hj,V]
   let(ar,e0):=old V;let(z1,z2,z3,z4,z5,_):=hA j ar a' e0 V;let(M3,U,g3):=gW (g2 (tA ar) (kf.mpr (ar,g5 e0,U)));refine Dep.t (cI Dep.s (cI ?_ (cI (z5 _ (g3 ar.2.2.1 ad)) gX)));rw[z2];exact g3 _ ad
inductive N1(ts:ϓ)(Q:ϕ):Prop
 |mk(ks:ϖ)(h1:ts=[tKs ks])(h2:iI ks)(h3:∀ds,jF ks ds->Q (dT ds))
theorem AB(T:Txt K mg a):bg P w K mg base CX0 1 a.sr a.Fc [TZ] (spQ K N1):=by
 exists T.zw,fD,hu,(ag (aB 1 fD.nd rS)
(ag (bc (g:=(Tg.nm 2)) PassesOwn.never U (fh (XL (qv 0))) (aZ 2 fD.nd)
(ai (bc (g:=(Tg.tp [3,4])) PassesOwn.never U (fh (XL (qv 0))) (cM (aZ 3 fD.nd) (aZ 4 fD.nd))
(ai (bc (g:=(Tg.tp [5,6])) PassesOwn.never U (fh (XL (qv 4))) (cM (aZ 5 fD.nd) (aZ 6 fD.nd))
(ai (aR (ip (ZB (bK (pY U U) xI ba T.L6 bn (ae (ZB (bI U (dM (qv 6)) (N':=[Q4,Pi]) (.own U (.got (i:=1) U U (.inl U) .nil)) (bA (g:=(Tg.nm 0)) (λ_ _ _ _ _=>((cb 0),(jV (uk hu) Eb U (qv 0) (qv 1))))))) aw))))
(ag (aB 7 fD.nd (aS ah (ZB (bK (fk U U) iS ba T.vg bn (ae (ZB (bI U (dM (qv 6)) (N':=[Q4,Pi]) (.own U (.got (i:=1) U U (.inl U) .nil)) (bA (g:=(Tg.nm 0)) (λ_ _ _ _ _=>((cb 0),(XL (yf (qv 1) (qv 0)))))))) aw)))))
(ai (jT (i:=1) hu (pv 1) (qv 3) (ZB (bK (Ht U) lR ba T.QU bn (ae (NK hu (qv 1) (qv 3) (qv 7)) (ae (qv 7) aw)))))))
aF)))))))
(ai (dm (i:=1) (pv 1))))),λts Q h=>?_
 let(ks,U,gk,hq):=h;have:=gk.k1;have:=gk.k2;refine(jc ks,λi q=>(Ea7 λds o2 o3 o4 o5 V z=>q=[.r (tKs ks),.o (dT ds),o2,o3,o4,o5,V,z]/\jF ks ds),([],_,_,_,_,_,_,U,jF.nil ks),?_,?_)
 ·rintro i x q hx ⟨ds,o2,o3,o4,o5,V,z,rfl,hI⟩;refine(_,U,?_);refine(jc ks,λj q=>(Ea7 λds o2 o3 o4 o5 V z=>q=[.r (tKs ks),.o (dT ds),o2,o3,o4,o5,V,z]/\jF ks ds),(ds,_,_,_,_,_,_,U,hI),?_,?_)
  ·rintro j x q hx ⟨ds,o2,o3,o4,o5,V,z,rfl,hI⟩;rw[fN]at hx;let(kd,hk,U):=gV.mp hx;refine(_,U,?_);refine(mq _,λl q=>(Ea5 λds o2 o5 V z=>q=[.r (tKs ks),.o (dT ds),o2,.r (.s kd.1),.r (tMs kd.2),o5,V,z]/\jF ks ds),(ds,_,_,_,_,U,hI),?_,?_)
   ·rintro l x q hx ⟨ds,o2,o5,V,z,rfl,hI⟩;rw[fN]at hx;let(m,hm,U):=gV.mp hx;refine(_,U,?_);have f4:=gk.fl kd (g5 hk) m (g5 hm);refine(aD (by rw[cU];omega),λi ys=>ys=(m.2.take i).map λf=>.b (lk ds f).isSome,U,?_,?_)
    ·rintro i x ys hx rfl;rw[fN]at hx;let(f,hf,U):=gV.mp hx;refine(_,U,?_);show _++[L2.T.b (bH (ds.map dEn) (.inr f)).isSome]=_;rw[eD,<- take_one hf,ky,Xf];rfl
    rintro ys rfl;rw[cU,ox];refine(_,sE _ _,?_);refine aI (λg1=>?_) (λg1=>?_)
    ·have g1:∀f∈m.2,(lk ds f).isSome=true:=(g1:);refine(aD (by rw[cU];omega),λi ys=>ys=(m.2.take i).map λf=>.i ((lk ds f).getD 0),U,?_,?_)
     ·rintro i x ys hx rfl;rw[fN]at hx;let(f,hf,U):=gV.mp hx;let(u,ak):=Mj.mp (g1 f (g5 hf));refine(_,U,.i u,by rw[eD,ak];rfl,U,?_);show _++[ϛ u]=_;rw[<- take_one hf,ky,Zr,ak];rfl
     rintro ys rfl;rw[cU,ox];refine(_,ins_map _ _,?_);have lI:=hI.len gk;refine RI ?_;dsimp only[dZ.seq];refine Gk (ds:=ds) (k:=kd.1) (n:=1+cC ds m.2) (v:=min ((lk ds kd.1).getD (1+cC ds m.2)) (1+cC ds m.2)) U U U (aD ap) ?_ ?_
     ·exact SX _ _
     refine(_,_,_,_,_,U,hI.put (kf.mpr (kd,g5 hk,U)) (by rw[uv gk.nd hk];exact g5 hm) f4.1 g1 U)
    exact(ds,_,_,_,_,U,hI)
   rintro q ⟨ds,o2,o5,V,z,rfl,hI⟩;exact(ds,_,_,_,_,_,_,U,hI)
  rintro q ⟨ds,o2,o3,o4,o5,V,z,rfl,hI⟩;exact(ds,_,_,_,_,_,_,U,hI)
 rintro q ⟨ds,o2,o3,o4,o5,V,z,rfl,hI⟩;exact hq ds hI
theorem MT{lf own:Int}(h:own=lf\/(0<=own/\own <=(if lf > 1 then lf else 1))):tri own.toNat+tri (lf-own).toNat<=tri lf.toNat:=by
 obtain rfl |⟨h0,h1⟩:=h
 ·rw[Int.sub_self];exact kB _
 by_cases z:lf ≥ 1
 ·have h1:own<=lf:=by split at h1 <;> omega
  have:=xD own.toNat (lf-own).toNat
  rwa [show own.toNat+(lf-own).toNat=lf.toNat by omega]at this
 have h1:own<=1:=by rw[if_neg ap]at h1;exact h1
 have g:tri own.toNat=0:=by obtain e|e:=(by omega:own.toNat=0\/own.toNat=1) <;> rw[e] <;> rfl
 rw[g,show(lf-own).toNat=0 by omega];exact zt _
theorem sP{a b:Nat}(h:a<=b):tri a<=tri b:=by have:=xD a (b-a);rw[show a+(b-a)=b by omega]at this;omega
def mkT(ds:Ds)(m:Mk1):L2.T:=.t [.i (1+cC ds m.2),.s m.1,.t (m.2.map .s)]
def okM(ds:Ds)(m:Mk1):Bool:=(m.2.map λf=>(lk ds f).isSome).all id
inductive Qj(n:Nat)(ts:ϓ)(Q:ϕ):Prop
 |mk(ks:ϖ)(ds:Ds)(k:Str)(room v:Int)(h1:ts=[.cz,tKs ks,dT ds,.s k,.i room])(h2:iI ks)(h3:jF ks ds)(h4:lk ds k=Z v)(h5:room<=n)(h6:v<=n)(h7:n<=100)(h8:∀u:Vl,(∀m∈u.ms,m∈cF ks k ks)->(u.ms.length:Int)<=v+tri room.toNat->Q u.t)
theorem Ay(T:Txt K mg a)(n:Nat):bg P w K mg base CX0 (n+2) a.si a.E8 [We,TZ,SC,Tl,WF] (spQ K (Qj n)):=by
 induction n with
 |zero =>refine never λts Q hz=>?_;let(ks,ds,k,room,v,_,_,hI,hv,h1,h2,_):=hz;have:=(hI.bd _ (ia hv)).1;simp only at this;omega|succ n ou =>
  exists T.sG,cx,hu,(ag (aB 5 cx.nd (aO aj))
(ag (bc (g:=(Tg.tp [6,7])) PassesOwn.never U (fh (XL (yf (ZB (aL (cB U) c9 ba T.eZ bn (ae (qv 1) aw))) (qv 3)))) (cM (aZ 6 cx.nd) (aZ 7 cx.nd))
(ai (aR (ip (ZB (bK (pY U U) xI ba T.L6 bn (ae (ZB (bI U (dM (qv 7)) (N':=[Q4,SC]) (.own U (.got (i:=2) U U (.inl U) .nil)) (bA (g:=(Tg.nm 0)) (λ_ _ _ _ _=>((cb 0),(jV (uk hu) Eb U (qv 0) (qv 1))))))) aw))))
(ai (bq (i:=5) (pv 5) (aq (af (aS ah (ZB (bK (fk U U) iS ba T.vg bn (ae (ZB (bI U (dM (qv 7)) (N':=[Q4,SC]) (.own U (.got (i:=2) U U (.inl U) .nil)) (bA (g:=(Tg.nm 0)) (λ_ _ _ _ _=>((cb 0),(XL (yf (qv 1) (qv 0)))))))) aw)))) (af (XL (qv 6)) (af (XL (qv 7)) aj))))))
aF)))
(ag (dF (i:=5) cx.nd U (Or.inl U) U (fU (qv 5)) (N':=[Ty,WF,SC,Tl]) (.own U (.got (i:=4) U U (.inl U) (.got (i:=2) U U (.inl U) (.got (i:=3) U U (.inl U) .nil)))) (yh (g:=(Tg.nm 0)) (λ_ _ _ _ _=>((cb 0),(Vc (ao (qv 0) ah) (ZB (bK (fq U) lR ba T.vh bn (ae (qv 1) (ae (yf (qv 2) (qv 3)) aw))))),(XL (qv 0))))))
(ag (l5 (g:=(Tg.tp [8,6,7])) (ao (qv 5) (ZB (aJ (fj (dq T)) hr T.a6 (ae (qv 0) (ae (ZB (bW T.cK (ae (qv 5) aw))) aw))))) (i6 (K:=K) (n:=3) U U (bG (aZ 8 cx.nd) (bG (aZ 6 cx.nd) (bG (aZ 7 cx.nd) i5)))))
(ag (aB 9 cx.nd (pA (qv 4) ah))
(ag (aB 10 cx.nd (aO aj))
(ag (bc (g:=(Tg.tp [11,12])) PassesOwn.never U (iZ U T.bh bn (ae (qv 7) aw)) (cM (aZ 11 cx.nd) (aZ 12 cx.nd))
(ag (aB 13 cx.nd (i3 (aO (af (XL (qv 9)) (af (aJ (fj (dq T)) hr T.a6 (ae (qv 0) (ae (ZB (aS (ZB (bK (fq U) lR ba T.vh bn (ae ah (ae (qv 9) aw)))) ah)) aw))) aj))) (ZB (aL iG mV ba T.Bq bn (ae (ZB (jV Qm (oV (g':=λi j=>.b (decide (i<j))) λ_ _ _ _=>.b _) (bB _) (ZB (aS (qv 11) ah)) (ZB (bW T.cK (ae (qv 7) aw))))) aw)))))
(ag (bq (i:=10) (pv 10) (aJ ou hr T.sG (ae (qv 0) (ae (qv 1) (ae (qv 2) (ae (qv 12) (ae (qv 13) aw)))))))
(ai (aB 9 cx.nd (pA (qv 9) (qv 13)))))))
(ai (aE (aq (af (XL (qv 6)) (af (aL (bN U) b7 ba T.cE bn (ae (qv 10) aw)) aj)))))))))))),λts Q h=>?_
  let(ks,ds,k,room,v,U,gk,hI,hv,da,c3,dc,hq):=h;have hk:k∈ks.map (·.1):=hI.sub _ (ia hv);have v1:1<=v:=(hI.bd _ (ia hv)).1;refine(aV wY ks,_,nk ks,_,pN gk.nd hk,mq _,λi q=>Ea3 λo6 o7 L=>q=[.r .cz,.r (tKs ks),.r (dT ds),.r (.s k),.r (.i room),.o (.l L),o6,o7,.no,.no,.no,.no,.no,.no]/\L=(((c6 ks k).take i).filter (okM ds)).map (mkT ds),(_,_,_,U,U),?_,?_)
  ·rintro i x q hx ⟨o6,o7,L,rfl,rfl⟩;rw[fN]at hx;let(m,hm,U):=gV.mp hx;refine(_,U,?_);have mm:=g5 hm;let(f4,ff,m6):=gk.ma mm;have sn:((c6 ks k).take (i+1)).filter (okM ds)=((c6 ks k).take i).filter (okM ds)++if okM ds m=O then [m]else []:=by
    rw[oR hm,Y3];congr 1;by_cases e:okM ds m=O
    ·rw[if_pos e,x2 e];rfl
    rw[if_neg e,Es e];rfl
   refine(aD (by rw[cU];omega),λi ys=>ys=(m.2.take i).map λf=>.b (lk ds f).isSome,U,?_,?_)
   ·rintro i x ys hx rfl;rw[fN]at hx;let(f,hf,U):=gV.mp hx;refine(_,U,?_);show _++[L2.T.b (bH (ds.map dEn) (.inr f)).isSome]=_;rw[eD,<- take_one hf,ky,Xf];rfl
   rintro ys rfl;rw[cU,ox];refine(_,sE _ _,?_);refine aI (λg1=>?_) (λg1=>?_)
   ·have g0:∀f∈m.2,(lk ds f).isSome=true:=(g1:);refine(?_,aD (by rw[cU];omega),λi ys=>ys=(m.2.take i).map λf=>.i ((lk ds f).getD 0),U,?_,?_)
    ·exact aD (by rw[cU];exact sF (Ur _ _) (by rw[qr];omega))
    ·rintro i x ys hx rfl;rw[fN]at hx;let(f,hf,U):=gV.mp hx;let(u,V):=Mj.mp (g0 f (g5 hf));refine(_,U,.i u,by rw[eD,V];rfl,U,?_);show _++[ϛ u]=_;rw[<- take_one hf,ky,Zr,V];rfl
    rintro ys rfl;rw[cU,ox];refine(_,ins_map _ _,?_);refine(U,aV (λ_=>rfl) m.2,_,_,_,U,?_);rw[sn,if_pos (show okM ds m=O from g1),ky];rfl
   refine(_,_,_,U,?_);rw[sn,if_neg (show ¬ okM ds m=O from g1),qp]
  rintro q ⟨o6,o7,L,rfl,rfl⟩;rw[cU,ox];obtain⟨M,hM⟩:∃M,M=if v > room then v else room:=(_,U)
  have cR:room<=M/\v<=M/\M <=(n+1:Nat)/\(M=room\/M=v):=by rw[hM];split <;> omega
  have av:bH (ds.map dEn) (.inr k)=Z (.i v):=by rw[eD,hv];rfl
  have S6:((c6 ks k).filter (okM ds)).length<=6:=by let(m0,a4,_):=hI.wt k v hv;exact sF (Ur _ _) (gk.ma a4).2.2
  let(m0,a4,cP,c5):=hI.wt k v hv;have mS:m0∈(c6 ks k).filter (okM ds):=Uu.mpr (a4,by unfold okM;simpa using cP);have bp:∀m∈(c6 ks k).filter (okM ds),m∈c6 ks k/\∀f∈m.2,(lk ds f).isSome=true:=λm h=>by
   let(h1,h2):=Uu.mp h;exact(h1,by unfold okM at h2;simpa using h2)
  generalize(c6 ks k).filter (okM ds)=S at S6 mS bp;refine(bL (by rw[cU];omega),λi ys=>ys=((S.take i).filter λm=>decide (1+cC ds m.2<=M)).map (mkT ds),U,?_,?_)
  ·rintro i y ys hy rfl;rw[fN]at hy;let(m,hm,U):=gV.mp hy;refine(_,U,_,U,_,av,?_);rw[p7,hm,Y3,ky];refine aI (λg=>?_) λg=>?_
   ·have g:1+cC ds m.2<=M:=by rw[hM];exact of_decide_eq_true g
    refine(by show(O&&(O&&(ϙ (m.2.map .s)&&O)))=O;rw[aX];rfl,?_);rw[show(Z m).toList=[m]from U,x2 (by exact decide_eq_true g)];rfl
   have g:¬ 1+cC ds m.2<=M:=λz=>g (decide_eq_true (by rw[hM]at z;exact z));rw[show(Z m).toList=[m]from U,Es (g:)];exact(qp _).symm
  rintro ys rfl;rw[cU,ox];have b0:m0∈S.filter λm=>decide (1+cC ds m.2<=M):=Uu.mpr (mS,decide_eq_true ap);have l0:=ZJ b0;have l1:(S.filter λm=>decide (1+cC ds m.2<=M)).length<=6:=sF (Ur _ _) S6;have ll:((S.filter λm=>decide (1+cC ds m.2<=M)).map (mkT ds)).length=(S.filter λm=>decide (1+cC ds m.2<=M)).length:=cU _;refine(ap,ap,λr1 bT c2=>?_);let(x,ex,hx):=L7 (xs:=(S.filter λm=>decide (1+cC ds m.2<=M)).map (mkT ds)) (i:=r1) bT ap;let(m,hm,U):=kf.mp hx;let(ct,hc):=Uu.mp hm;have hc:1+cC ds m.2<=M:=of_decide_eq_true hc;let(mm,g0):=bp m ct;let(f4,ff,_):=gk.ma mm;let(kd,bt,U,cV):=EC mm;have a5:m∈kd.2:=by rw[<- cV];exact mm
  have c1:=hI.sum m.2;have cq:(mkT ds m).im=true:=by show(O&&(O&&(ϙ (m.2.map .s)&&O)))=O;rw[aX];rfl
  refine(_,ex,cq,_,U,?_);refine(aV (λ_=>rfl) m.2,λi q=>Ea8 λ(lf:Int)(vs:List Vl)(o5 o8 aP ay ar:Sl)(L:ϓ)=>q=[.r .cz,.r (tKs ks),.r (dT ds),.r (.s kd.1),.r (.i room),o5,.r (.s m.1),.r (.t (m.2.map .s)),o8,.o (.i lf),.o (.l L),aP,ay,ar]/\L=vs.map Vl.t/\vs.length=i/\(lf<=room-1\/lf<=0)/\(∀v∈vs,∀m'∈v.ms,m'∈cF ks kd.1 ks)/\((Vl.mss vs).length:Int)+tri lf.toNat<=cC ds (m.2.take i)+tri (room-1).toNat,(room-1,[],_,_,_,_,_,_,U,U,U,.inl (DG _),nofun,by simp[cC,Vl.mss]),?_,?_)
  ·rintro i y q hy ⟨lf,vs,o5,o8,aP,ay,ar,L,rfl,rfl,a0,cA,aW,aQ⟩;let(z,hz,U):=bM hy;rw[fN]at hz;let(f,hf,U):=gV.mp hz;have bD:=g5 hf;have hi:=(jm.mp hf).1;let(u,V):=Mj.mp (g0 f bD);have u1:1<=u:=(hI.bd _ (ia V)).1;have st:=FY (ds:=ds) hf;rw[V]at st;simp only[Option.getD_some]at st;have c0:=qi hI m.2 (i+1);have cX:=(hI.sum (m.2.take i)).1;have cap:(if lf > 1 then lf else 1)<=n:=by split <;> omega
   have Yo:1 <=(if lf > 1 then lf else 1):=by split <;> omega
   refine(_,U,U,by show 0<(if lf > 1 then lf else 1)+1;omega,by show(if lf > 1 then lf else 1)+1<2 ^ 64;omega,λe e0 e1=>?_);have e1:e<(if lf > 1 then lf else 1)+1:=e1;obtain⟨own,TL,cQ⟩:∃own:Int,(own=lf\/(0<=own/\own <=(if lf > 1 then lf else 1)))/\atI [ϛ lf,.i e] (if decide ((i:Int)+1<((m.2.map Ϛ).length:Int))=O then 1 else 0)=Z (.i own):=by
    by_cases g:(i:Int)+1<((m.2.map Ϛ).length:Int)
    ·exact(e,.inr (e0,ap),by rw[if_pos (decide_eq_true g)];rfl)
    exact(lf,.inl U,by rw[if_neg (g:)];rfl)
   have c4:=MT TL;refine(_,cQ,aD (by rw[cU];omega),ks,ds,f,own,u,U,gk,hI,V,?_,ap,ap,λt h1 h2=>?_)
   ·obtain rfl |⟨_,z⟩:=TL <;> omega
   refine(lf-own,vs++[t],_,_,_,_,_,_,U,by rw[ky];rfl,by rw[j3,a0];rfl,?_,λv' a3 m' ak=>?_,?_)
   ·obtain rfl |⟨z,_⟩:=TL <;> omega
   ·obtain z|z:=jn.mp a3
    ·exact aW v' z m' ak
    rw[fy.mp z]at ak;exact zH gk.p bt a5 bD (h1 m' ak)
   rw[Vl.rY,j3,show Vl.mss [t]=t.ms++[]from U,qp];omega
  rintro q ⟨lf,vs,o5,o8,aP,ay,ar,L,rfl,rfl,a0,cA,aW,aQ⟩;rw[aU,cU]at a0;rw[aU,cU,ox]at aQ;have eu:(Vl.mk m.1 vs).t=.t [.s m.1,.t (vs.map Vl.t)]:=by rw[Vl.t,Vl.B6]
  refine(U,Vl.ims vs,?_);have:=hq (.mk m.1 vs) (λm' ak=>?_) ?_
  ·rw[eu]at this;exact this
  ·rw[Vl.ms]at ak;obtain rfl|z:=kC.mp ak
   ·exact oI bt a5
   let(v',a3,z):=Vl.EB.mp z;exact aW v' a3 m' z
  rw[Vl.ms,qf];obtain e|e:=cR.2.2.2
  ·obtain⟨r',rfl⟩:∃r':Nat,room=(r':Int)+1:=((room-1).toNat,ap);have e1:((r':Int)+1-1).toNat=r':=ap;have e2:((r':Int)+1).toNat=r'+1:=ap;rw[e1]at aQ;rw[e2];have e3:tri (r'+1)=tri r'+r':=rfl;omega
  have:=sP (a:=(room-1).toNat) (b:=room.toNat) ap;omega
def pz(us:List Fam)(ns:Ψ)(u:Fam):Int:=match us.findIdx? (λg=>decide (g=u))with|some j=>ns.getD j 0|none=>0
theorem Tt{us:List Fam}{u:Fam}(h:u∈us):∃j,us.findIdx? (λg=>decide (g=u))=Z j/\j<us.length:=by cases e:us.findIdx? (λg=>decide (g=u))with|none =>rw[List.findIdx?_eq_none_iff]at e;have:=e u h;simp at this|some j =>let(hl,_):=List.findIdx?_eq_some_iff_getElem.mp e;exact(j,U,hl)
theorem KS{u:Fam}:∀{us:List Fam}{ns:Ψ}{kvs:ϑ},us.Nodup->us.length=ns.length->u∈us->bV (cD kvs (us.zip (ns.map .int))) u=Z (.int (pz us ns u))
 |[],_,_,_,_,h=>by cases h
 |v::us,[],_,_,h,_=>by cases h
 |v::us,n::ns,kvs,hn,hl,h=>by
  have g:=vp.mp hn;show bV (cD (putK kvs v (.int n)) (us.zip (ns.map .int))) u=_;by_cases e:v=u
  ·subst e;have keep:∀{us:List Fam}{ms:List V}{kvs:ϑ},v ∉ us->bV (cD kvs (us.zip ms)) v=bV kvs v:=by
    intro us;induction us with
    |nil=>intro ms kvs _;rfl
    |cons w r K =>intro ms kvs hv;cases ms with|nil=>rfl|cons m ms =>show bV (cD (putK kvs w m) (r.zip ms)) v=_;rw[K λz=>hv (j5 _ z),sM,if_neg λz=>hv (by rw[z];exact j0)]
   rw[keep g.1,sM,if_pos rfl];have:pz (v::us) (n::ns) v=n:=by unfold pz;rw[Z9,decide_eq_true rfl];rfl
   rw[this]
  have q:=(kC.mp h).elim (λz=>absurd z.symm e) id;rw[KS g.2 (Nat.succ.inj hl) q];let(j,P,_):=Tt q;have:pz (v::us) (n::ns) u=pz us ns u:=by unfold pz;rw[Z9,decide_eq_false e,P];rfl
  rw[this]
theorem rJ(gk:bC ks):(cF ks k ks).Nodup:=by
 have:∀{xs:ϖ},(names xs).Nodup->(cF ks k xs).Sublist (names xs):=by
  intro xs;induction xs with
  |nil=>intro _;exact ZE _
  |cons x r g =>
   intro hn;unfold cF;rw[List.flatMap_cons];refine List.Sublist.append ?_ (g (vw.mp hn).2.1);split
   ·exact List.Sublist.refl _
   exact ZE _
 exact List.Nodup.sublist (this gk.mn) gk.mn
theorem yY(gk:bC ks):(mx ks fam k).Nodup:=by
 refine Xt.mpr ((rJ gk).imp λg z=>g ?_);injection z with z
 have:=Yv z;injection this with z _
 exact L2.T.s.inj z
theorem kS(h:t∈mx ks fam k):∃m,t=.t (fam++[.s m]):=by let(m,_,U):=kf.mp h;exact(m,U)
theorem f7:∀{k:Nat},t∈d3 ks i k sc->∃(j:Nat)(m:Str),k<=j/\t=.t [.s "param",iN i,iN j,.s m]:=by
 induction sc with
 |nil=>intro k h;cases h
 |cons p r g =>
  intro k h;obtain z|z:=jn.mp h
  ·let(m,U):=kS z;exact(k,m,kB _,U)
  let(j,m,q,e):=g z;exact(j,m,ap,e)
theorem C9{i:Nat}(h:iN i=iN j):i=j:=Int.ofNat.inj (L2.T.i.inj h)
theorem FU{ks:ϖ}(gk:bC ks){i:Nat}:∀{k:Nat},(d3 ks i k sc).Nodup:=by
 induction sc with
 |nil=>exact lu|cons p r g =>
  refine vw.mpr (yY gk,g,λa z b q e=>?_);let(m,U):=kS z;let(j,m',K,U):=f7 q;injection e with e
  injection e with _ e
  injection e with _ e
  injection e with e _
  have:=C9 e;lia
theorem sN:∀{n:Nat},t∈dR ks i n os->∃(j:Nat)(m:Str),n<=j/\t=.t [.s "piece",iN i,iN j,.s m]:=by
 induction os with
 |nil=>intro k h;cases h
 |cons p r g =>
  intro n h;obtain z|z:=jn.mp h
  ·cases p with
   |none=>cases z
   |some k =>let(m,_,U):=kf.mp z;exact(n,m,kB _,U)
  let(j,m,q,e):=g z;exact(j,m,ap,e)
theorem Ia{ks:ϖ}(gk:bC ks){i:Nat}:∀{n:Nat},(dR ks i n os).Nodup:=by
 induction os with
 |nil=>exact lu|cons p r q =>
  intro n;refine vw.mpr (?_,q,λa g b z e=>?_)
  ·cases p with|none=>exact lu|some k=>exact yY gk (fam:=[.s "piece",iN i,iN n])
  let(j,m',K,U):=sN z;cases p with
  |none=>cases g
  |some k =>
   let(m,_,U):=kf.mp g;injection e with e
   injection e with _ e
   injection e with _ e
   injection e with e _
   have:=C9 e;omega
theorem DS{ks:ϖ}{i:Nat}{f:Fn}{t:L2.T}(h:t∈oP ks i f os):∃w l,t=.t (w::iN i::l):=by
 obtain z|z:=jn.mp h
 ·obtain z|z:=jn.mp z
  ·obtain z|z:=jn.mp z
   ·obtain z|z:=jn.mp z
    ·let(j,m,_,U):=f7 z;exact(_,_,U)
    rw[fy.mp z];exact(_,_,U)
   let(m,U):=kS z;exact(_,_,U)
  rw[fy.mp z];exact(_,_,U)
 let(j,m,_,U):=sN z;exact(_,_,U)
theorem MR{ks:ϖ}(gk:bC ks){i:Nat}{f:Fn}:(oP ks i f os).Nodup:=by
 have hd:∀{w q:Str}{l l':ϓ},w≠q->Ϝ (.s w::l) ≠ .t (.s q::l'):=λ{w q l l'} h e=>by
  injection e with e
  injection e with e _
  exact h (L2.T.s.inj e)
 have app:∀{X ύ:ϓ},X.Nodup->ύ.Nodup->(∀x∈X,∀y∈ύ,x≠y)->(X++ύ).Nodup:=λh1 h2 h3=>vw.mpr (h1,h2,h3);have one:∀{t:L2.T},[t].Nodup:=λ{t}=>vp.mpr (v5,lu);refine app (app (app (app (FU gk) one ?_) (yY gk) ?_) one ?_) (Ia gk) ?_
 ·intro x hx y g;let(j,m,_,U):=f7 hx;rw[fy.mp g];exact hd ac
 ·intro x hx y g;let(m',U):=kS g;obtain z|z:=jn.mp hx
  ·let(j,m,_,U):=f7 z;exact hd ac
  rw[fy.mp z];exact hd ac
 ·intro x hx y g;rw[fy.mp g];obtain z|z:=jn.mp hx
  ·obtain z|z:=jn.mp z
   ·let(j,m,_,U):=f7 z;exact hd ac
   rw[fy.mp z];exact hd ac
  let(m',U):=kS z;exact hd ac
 intro x hx y g;let(K,m',_,U):=sN g;obtain z|z:=jn.mp hx
 ·obtain z|z:=jn.mp z
  ·obtain z|z:=jn.mp z
   ·let(j,m,_,U):=f7 z;exact hd ac
   rw[fy.mp z];exact hd ac
  let(m',U):=kS z;exact hd ac
 rw[fy.mp z];exact hd ac
theorem zN(gk:bC ks):∀{xs:List (Fn×Ϙ)}{i:Nat},(bZ ks i xs).Nodup/\∀t∈bZ ks i xs,∃(j:Nat)(w:L2.T)(l:ϓ),i<=j/\t=.t (w::iN j::l)
 |[],i=>(lu,nofun)|x::r,i=>by
  let(h1,h2):=zN gk;refine(vw.mpr (MR gk,h1,λa P b K e=>?_),λt g=>?_)
  ·let(w,l,U):=DS P;let(j,Q,l',q,U):=h2 b K;injection e with e
   injection e with _ e
   injection e with e _
   have:=C9 e;omega
  obtain z|z:=jn.mp g
  ·let(w,l,U):=DS z;exact(i,w,l,kB _,U)
  let(j,w,l,q,e):=h2 t z;exact(j,w,l,ap,e)
theorem UK(gk:bC ks){us:List Fam}(h:bZ ks 0 xs=us.map fC):us.Nodup:=by have:=(zN gk (xs:=xs) (i:=0)).1;rw[h]at this;exact(Xt.mp this).imp λg e=>g (by rw[e])
inductive Sy(ts:ϓ)(Q:ϕ):Prop
 |mk(ks:ϖ)(fs:ϗ)(f:Nat)(fn:Fn)(h1:ts=[.cz,tPr ks fs,iN f,.i 9])(h2:Prog ks fs)(h3:iI ks)(h4:fs[f]?=Z fn)(h5:Q .n)(h6:∀vs:List Vl,vs.length=fn.1.2.1.length->(∀(i:Nat)(v:Vl)(p:Str×Str),vs[i]?=Z v->fn.1.2.1[i]?=Z p->(∀m∈v.ms,m∈cF ks p.2 ks)/\v.ms.length<=400)->Q (.l (vs.map Vl.t)))
theorem OL(T:Txt K mg a):bg P w K mg base CX0 27 a.y9 a.LR [We,SB,WP,WF] (spQ K Sy):=by
 exists T.My,xM,hu,(ag (aB 4 xM.nd (aJ (AB T) hr T.zw (ae (ao (qv 1) ah) aw)))
(ag (dF (i:=5) xM.nd U (Or.inl U) U (dM (ao (ao (ao (qv 1) ah) (qv 2)) ah)) (N':=["_law_param"]) (.own U .nil) (bA (g:=(Tg.nm 0)) (λ_ _ _ _ _=>((cb 0),(XL (ao (qv 0) ah))))))
(ag (aR (Jt (ip (ZB (bK (pY U U) xI ba T.L6 bn (ae (ZB (bI U (fU (qv 5)) (N':=[Tl,SC]) (.own U (.got (i:=4) U U (.inl U) .nil)) (bA (g:=(Tg.nm 0)) (λ_ _ _ _ _=>((cb 0),(jV (uk hu) mW U (qv 0) (qv 1))))))) aw)))))
(ai (aE cu))
aF)
(ai (aE (bI U (fU (qv 5)) (N':=[Tl,We,SB,SC,WF]) (.own U (.got (i:=0) U U (.inl U) (.got (i:=1) U U (.inl U) (.got (i:=4) U U (.inl U) (.got (i:=3) U U (.inl U) .nil))))) (bA (g:=(Tg.nm 0)) (λ_ _ _ _ _=>((cb 0),(aJ (Ay T 24) hr T.sG (ae (qv 1) (ae (ao (qv 2) ah) (ae (qv 3) (ae (qv 0) (ae (ZB (aJ (fj (dq T)) hr T.a6 (ae (qv 1) (ae (qv 4) aw)))) aw))))))))))))))),λts Q h=>?_
 let(ks,fs,f,fn,U,hP,gk,hf,ar,hq):=h;have ef:atI (fs.map tF) (f:Int)=Z (tF fn):=br (by rw[fN,hf];rfl);let(p1,p2,p3,p4):=hP.pk fn (g5 hf);refine(_,U,ks,U,gk,λds hI=>?_);refine(_,U,_,ef,_,U,aD (by rw[cU];omega),λi ys=>ys=((fn.1.2.1.take i).map (·.2)).map .s,U,?_,?_)
 ·rintro i y ys hy rfl;rw[fN]at hy;let(p,hp,U):=gV.mp hy;refine(_,U,_,U,U,?_);rw[p7,hp,ky,ky];rfl
 rintro ys rfl;rw[cU,ox];have av:((fn.1.2.1.map (·.2)).map Ϛ).length<=4:=by rw[cU,cU];exact p1
 refine(bL ap,λi ys=>ys=((fn.1.2.1.map (·.2)).take i).map λf=>.b (lk ds f).isSome,U,?_,?_)
 ·rintro i x ys hx rfl;rw[fN]at hx;let(f,hf,U):=gV.mp hx;refine(_,U,?_);show _++[L2.T.b (bH (ds.map dEn) (.inr f)).isSome]=_;rw[eD,<- take_one hf,ky,Xf];rfl
 rintro ys rfl;rw[cU,ox];refine(_,sE _ _,?_);refine aI (λ_=>ar) λg=>?_;have g1:(((fn.1.2.1.map (·.2)).map λf=>(lk ds f).isSome).all id)=true:=by
  by_cases z:(((fn.1.2.1.map (·.2)).map λf=>(lk ds f).isSome).all id)=O
  ·exact z
  rw[Bool.not_eq_true]at z;exact absurd (by rw[z];rfl) g
 have g0:∀p∈fn.1.2.1,(lk ds p.2).isSome=true:=λp hp=>PX.mp g1 _ (kf.mpr (p.2,kf.mpr (p,hp,U),U));refine(bL ap,λi ys=>∃vs:List Vl,ys=vs.map Vl.t/\vs.length=i/\∀(j:Nat)(v:Vl)(p:Str×Str),vs[j]?=Z v->fn.1.2.1[j]?=Z p->(∀m∈v.ms,m∈cF ks p.2 ks)/\v.ms.length<=400,([],U,U,λj v p h=>by simp at h),?_,?_)
 ·rintro i x ys hx ⟨vs,rfl,q,V⟩;rw[tr,fN]at hx;let(p,hp,U):=gV.mp hx;let(u,ak):=Mj.mp (g0 p (g5 hp));let(u1,u2):=hI.bd _ (ia ak);have b3:=zg (hI.len gk);have b4:bnd 3=21:=rfl;dsimp only at u1 u2;refine(_,U,_,U,ac,ac,λr r0 r1=>(ks,ds,p.2,r,u,U,gk,hI,ak,ap,ap,ac,λt h1 h2=>?_));have t1:=sP (a:=r.toNat) (b:=11) ap;have t2:tri 11=55:=rfl;refine(vs++[t],by rw[ky];rfl,by rw[j3,q];rfl,λj v p' e1 e2=>?_);by_cases hj:j<vs.length
  ·rw[u6 hj]at e1;exact V j v p' e1 e2
  rw[vr ap]at e1;have:j=vs.length:=by have:=(jm.mp e1).1;simp at this;omega
  subst this;rw[Zo]at e1;cases e1;rw[q,hp]at e2;cases e2;exact(h1,ap)
 rintro ys ⟨vs,rfl,q,V⟩;rw[cU,cU]at q;exact hq vs q V
inductive Sv(ts:ϓ)(Q:ϕ):Prop
 |mk(v:Vl)(h1:ts=[v.t])(h2:v.ms.length<=500)(h3:Q (.l (v.ms.map .s)))
theorem yz(T:Txt K mg a):bg P w K mg base CX0 1 a.gT a.qL [Tk] (spQ K Sv):=by
 exists T.qS,fT,hu,(ag (aB 1 fT.nd (aO aj))
(ag (aB 2 fT.nd (aO (af (XL (qv 0)) aj)))
(ag (tY PassesOwn.never (ip (qv 2))
(ag (Cz (j:=3) fT.nd U (Or.inl U) (pv 2))
(ag (bq (i:=1) (pv 1) (XL (ao (qv 3) ah)))
(ai (cT (i:=2) (pv 2) (z6 U U T.mB U T.my (ao (qv 3) ah)))))))
(ai (dm (i:=1) (pv 1)))))),λts Q h=>?_
 let(v,U,hv,hq):=h;refine(v.im,λc q=>Ea5 λ(M:Γ)(st:List Vl)(A1 L:ϓ)(o3:Sl)=>q=[.r v.t,.o (.l A1),.o (.l L),o3]/\A1=M.map .s/\L=st.map Vl.t/\M++Vl.mss st.reverse=v.ms/\c=(Vl.mss st.reverse).length,(_,[],[v],_,_,_,U,U,U,by simp[Vl.mss],U),?_);rintro c q ⟨M,st,A1,L,o3,rfl,rfl,rfl,hM,rfl⟩;obtain rfl |⟨g,⟨m,ps⟩,rfl⟩:=Zc st
 ·have hM:M=v.ms:=by simpa [Vl.mss]using hM
  rw[<- hM]at hq;exact hq
 rw[ZO]at *;rw[YZ]at hM;have hM:M++(m::Vl.mss ps++Vl.mss g.reverse)=v.ms:=hM;have ak:=congrArg HH hM;simp only[j3,qf]at ak;have et:(Vl.mk m ps).t=.t [.s m,.t (ps.map Vl.t)]:=by rw[Vl.t,Vl.B6]
 have er:Vl.mss (g++[Vl.mk m ps]).reverse=m::Vl.mss ps++Vl.mss g.reverse:=by rw[YZ];rfl
 have pl:=Vl.yC ps;have sl:=Vl.yC g.reverse;rw[YJ]at sl;refine aI (λ_=>?_) (λz=>absurd ad z);refine(λq'=>∃(M2:Γ)(V:List Vl)(A1 L:ϓ)(o3:Sl),q'=[.r v.t,.o (.l A1),.o (.l L),o3]/\A1=M2.map .s/\L=V.map Vl.t/\M2++Vl.mss V.reverse=v.ms/\(Vl.mss V.reverse).length<(Vl.mss (g++[Vl.mk m ps]).reverse).length,?_,?_)
 ·rintro q' ⟨M2,V,A1,L,o3,rfl,rfl,rfl,g1,g2⟩;exact(_,g2,M2,V,_,_,_,U,U,U,g1,U)
 refine(g.map Vl.t,.t [.s m,.t (ps.map Vl.t)],by rw[ky,Zr,et],Vl.ims _,ac,?_);refine(aD (by rw[cU];omega),_,U,U,_,U,Vl.ims ps,?_,M++[m],g++ps.reverse,_,_,_,U,?_,?_,?_,?_)
 ·rw[cU,YJ,cU];exact bF ap
 ·rw[ky];rfl
 ·rw[ky,List.map_reverse]
 ·rw[<- hM,YZ,ZW,Vl.rY,vt];rfl
 rw[er,YZ,ZW,Vl.rY,j3,Zd,qf,j3];omega
def wk(ms:Γ):Ds:=ms.foldl (λds m=>putD ds m ((lk ds m).getD 0+1)) []
theorem Hq{ms:Γ}{m:Str}:wk (ms++[m])=putD (wk ms) m ((lk (wk ms) m).getD 0+1):=by unfold wk;rw[Y9];rfl
theorem xi:∀{ms:Γ}{ds:Ds},(ms.foldl (λds m=>putD ds m ((lk ds m).getD 0+1)) ds).length<=ds.length+ms.length
 |[],_=>kB _|m::r,ds=>by
  have:=xi (ms:=r) (ds:=putD ds m ((lk ds m).getD 0+1));have h:=t8 (ds:=ds) (k:=m) (v:=(lk ds m).getD 0+1);rw[Zk,qf];split at h <;> lia
theorem LX{ms:Γ}:(wk ms).length<=ms.length:=by have:=xi (ms:=ms) (ds:=[]);simpa [wk]using this
def cnt(m:Str)(ms:Γ):Int:=(ms.countP λy=>decide (y=m):Nat)
theorem Bm{m:Str}:∀{ms:Γ}{ds:Ds},(lk (ms.foldl (λds m=>putD ds m ((lk ds m).getD 0+1)) ds) m).getD 0=(lk ds m).getD 0+cnt m ms
 |[],ds=>(Y8 _).symm|x::r,ds=>by
  rw[Zk,Bm,yH];unfold cnt;rw[List.countP_cons];by_cases e:m=x
  ·subst e;rw[if_pos U,if_pos (decide_eq_true U)];show(lk ds m).getD 0+1+_=_;lia
  rw[if_neg e,if_neg (λz=>e z.symm:)];rfl
theorem Pq{m:Str}{ms:Γ}:(lk (wk ms) m).getD 0=cnt m ms:=by have:=Bm (m:=m) (ms:=ms) (ds:=[]);rw[show(lk [] m).getD 0=0 from U,YA]at this;exact this
theorem Gm{D:dZ}{k:Str}(h1:q[1]?=Z (.o (dT ds)))(h2:q[2]?=Z (.r (.s k)))(hl:ds.length<mu)(hq:D.nx (q.set 1 (.o (dT (putD ds k ((lk ds k).getD 0+1)))))):
  CC 1 (aG 2) (qOp k7 (Eh (aG 1) (aG 2) (qC (.i 0))) (qC (.i 1))) D q:=by
 unfold dT at h1;simp only[CC,qOp,Eh,aG,qC,h1,h2,Ϟ];have e:(bH (ds.map dEn) (.inr k)).getD (.i 0)=.i ((lk ds k).getD 0):=by rw[eD];cases lk ds k <;> rfl
 show k7 ((bH (ds.map dEn) (.inr k)).getD (.i 0)) (.i 1) _;rw[e];refine(by rw[cU];exact hl,Lj ds,U,?_);rw[JS];exact hq
inductive J7(ts:ϓ)(Q:ϕ):Prop
 |mk(v:Vl)(h1:ts=[v.t])(h2:v.ms.length<=500)(h3:Q (dT (wk v.ms)))
theorem GL(T:Txt K mg a):bg P w K mg base CX0 2 a.nV a.Bk [Tk] (spQ K J7):=by
 exists T.BL,oY,z,(ag (aB 1 oY.nd rS)
(ag (bc (g:=(Tg.nm 2)) PassesOwn.never U (yc (aJ (yz T) hr T.qS (ae (qv 0) aw))) (aZ 2 oY.nd)
(ai (jT z (pv 1) (qv 2) (ZB (aS (yg z (qv 1) (qv 2) ah) ah)))))
(ai (dm (pv 1))))),λts Q h=>?_
 let(v,U,hv,hq):=h;refine(v,U,hv,?_);generalize v.ms=xs at hv hq ⊢;refine(λi q=>Ea2 λ(o2:Sl)(ds:Ds)=>q=[.r v.t,.o (dT ds),o2]/\ds=wk (xs.take i),(_,_,U,U),?_,?_)
 ·rintro i x q hx ⟨o2,ds,rfl,rfl⟩;rw[fN]at hx;let(m,hm,U):=gV.mp hx;have hl:=LX (ms:=xs.take i);rw[qr]at hl;refine(_,U,?_);refine Gm U U (aD ap) (_,_,U,?_);rw[<- Hq,<- oR hm]
 rintro q ⟨o2,ds,rfl,rfl⟩;rw[cU,ox];exact hq
def N6(us:List Fam)(ns:Ψ):ϑ:=cD [] (us.zip (ns.map .int))
inductive J2(ts:ϓ)(Q:ϕ):Prop
 |mk(ks:ϖ)(fs:ϗ)(xs:List (Fn×Ϙ))(us:List Fam)(parts:Int)(ns:Ψ)(h1:ts=[tPr ks fs,.t [.i parts,.t (ns.map .i)]])(h2:Prog ks fs)(h3:Unk ks fs xs)(h4:bZ ks 0 xs=us.map fC)(h5:Q (.fz (.dT (N6 us ns))))
theorem nA(T:Txt K mg a):bg P w K mg base CX0 8 a.gQ a.qI ["program","paper"] (spQ K J2):=by exists T.kJ,xK,z,(ai (aE (z8 (uI hr) U T.eZ U T.L4 (ae (ZB (aJ (gL T) hr T.gC (ae (qv 0) aw))) (ae (ao (qv 1) ah) aw))))),λts Q h=>?_;let(ks,fs,xs,us,parts,ns,U,q,g,e,hq):=h;refine(ks,fs,xs,U,q,g,_,U,?_);rw[e];exact(us,ns,U,U,hq)
def pxE(kvs:ϑ)(fam:Fam)(m:Str):Int:=plc kvs (fam++[.inr m])
def wEn(kvs:ϑ)(fam:Fam)(m:Str):Key×L2.T:=(.inr m,.i (pxE kvs fam m))
noncomputable def wBy(ks:ϖ)(kvs:ϑ)(k:Str)(fam:Fam):Γ:=(cF ks k ks).filter λm=>!decide (pxE kvs fam m=0)
inductive Vw(ts:ϓ)(Q:ϕ):Prop
 |mk(ks:ϖ)(u:L2.T)(kvs:ϑ)(k:Str)(fam:Fam)(h1:ts=[.t [tKs ks,u],.fz (.dT kvs),.s k,.l [.t [fC fam,.i 1]]])(h2:bC ks)(h3:fam.length<=10)(h4:(∀m∈cF ks k ks,∃x,bV kvs (fam++[.inr m])=Z (.int x)))(h5:∀o vs,Q (.fd o vs ((wBy ks kvs k fam).map (wEn kvs fam))))
theorem lC(T:Txt K mg a):bg P w K mg base CX0 4 a.fW a.nY ["program","prices","kind","holding"] (spQ K Vw):=by
 exists T.jq,ft,hu,(ag (aB 4 ft.nd rS)
(ag (bc (g:=(Tg.nm 5)) PassesOwn.never U (fh (aJ (pH T) hr T.oE (ae (ao (qv 0) ah) (ae (qv 2) aw)))) (aZ 5 ft.nd)
(ag (aB 6 ft.nd (bK (fk U U) iS ba T.vg bn (ae (ZB (bI U (fU (qv 3)) (N':=["family","times","prices","maker"]) (.own U (.own U (.got (i:=1) U U (.inl U) (.got (i:=5) U U (.inl U) .nil)))) (bA (g:=(Tg.tp [0,1])) (λ_ _ _ _ _=>((cM (cb 0) (cb 1)),(bJ (qv 1) (ZB (t5 (uI hr) (qv 2) (ZB (aS (qv 0) (ZB (aq (af (XL (qv 3)) aj))))))))))))) aw)))
(ai (aR (bE Aw tu (bB _) (qv 6) ah)
(ai (jT (i:=4) hu (pv 4) (qv 5) (qv 6)))
aF))))
(ai (ph (i:=4) (aE (XL (qv 4))))))),λts Q h=>?_
 let(ks,u,kvs,k,fam,U,gk,hf,hp,hq):=h;have wl:=gk.wl (k:=k) (xs:=ks) λ_ h=>h;have k2:=gk.k2;have wn:=rJ gk (k:=k);unfold wBy at hq;refine(_,U,ks,k,U,gk,?_);generalize cF ks k ks=W at hp hq wl wn ⊢;refine(λi q=>Ea3 λ(D:List (Key×L2.T))(o5 o6:Sl)=>q=[.r (.t [tKs ks,u]),.r (.fz (.dT kvs)),.r (.s k),.r (.l [.t [fC fam,.i 1]]),.o (.d D),o5,o6]/\D=((W.take i).filter λm=>!decide (pxE kvs fam m=0)).map (wEn kvs fam),(_,_,_,U,U),?_,?_)
 ·rintro i y q hy ⟨D,o5,o6,rfl,rfl⟩;rw[fN]at hy;let(m,hm,U):=gV.mp hy;let(px,ar):=hp m (g5 hm);have ak:pxE kvs fam m=px:=by unfold pxE plc;rw[ar]
  refine(_,U,?_);have ek:lE (fam.map kT++[.s m])=Z (fam++[.inr m]):=by have:=gp (fam++[.inr m]);rw[ky]at this;exact this
  refine(bL (by show 1<=_;decide),λc ys=>ys=([px].take c).map .i,U,?_,?_)
  ·rintro c y ys hy rfl;cases c with|succ c=>simp at hy|zero =>cases hy;refine(_,U,U,wz (aD (by rw[cU];show fam.length+1<=_;lia)),kh fam,U,(fam++[.inr m],px),(ek,ar),.inl (ac,ac),?_);show []++[ϛ (1*px)]=[ϛ px];rw[Int.one_mul];rfl
  rintro ys rfl;have e0:([px].take [Ϝ [fC fam,ϛ 1]].length).map ϛ=[ϛ px]:=rfl;rw[e0];have e1:[px].sum=px:=by simp
  have fl:((W.take i).filter λm=>!decide (pxE kvs fam m=0)).length<=36:=sF (Ur _ _) (by rw[qr];lia);have ex:(W.take (i+1)).filter (λm=>!decide (pxE kvs fam m=0))=(W.take i).filter (λm=>!decide (pxE kvs fam m=0))++if px=0 then []else [m]:=by
   rw[p7,hm,Y3];congr 1;by_cases z:px=0
   ·rw[if_pos z,show(Z m).toList=[m]from U,Es (by rw[ak,z];simp)];rfl
   rw[if_neg z,show(Z m).toList=[m]from U,x2 (by rw[ak];simpa using z)];rfl
  have TC:∀X:Γ,ϝ (X.map (wEn kvs fam))=true:=λX=>by
   induction X with|nil=>rfl|cons _ r ih=>show(O&&ϝ (r.map (wEn kvs fam)))=O;rw[ih];rfl
  have ay:m ∉ (W.take i).filter λm=>!decide (pxE kvs fam m=0):=λz=>by
   have z:=(Uu.mp z).1;let(j,hj,e):=ri z;rw[qr]at hj;have e:W[j]?=Z m:=by rw[List.getElem_take]at e;rw[dQ ap,e]
   let(l1,e1):=jm.mp e;let(l2,e2):=jm.mp hm;exact Zt.mp wn j i l1 l2 ap (by rw[e1,e2])
  refine(_,U,U,aI (λg=>?_) λg=>?_)
  ·have z:px≠0:=λz=>by subst z;exact absurd g ac
   refine(aD (by rw[cU];lia),TC _,U,_,_,_,U,?_);rw[ex,if_neg z,ky];have av:¬((((W.take i).filter λm=>!decide (pxE kvs fam m=0)).map (wEn kvs fam)).any λq=>decide (q.1=.inr m))=true:=by rw[Yz,P0];rintro⟨y,hy,e⟩;have e:(Sum.inr y:Key)=.inr m:=of_decide_eq_true e;exact ay (Sum.inr.inj e▸hy)
   unfold ix;rw[if_neg av];show _++[((.inr m:Key),ϛ [px].sum)]=_++[wEn kvs fam m];rw[e1,show wEn kvs fam m=((.inr m:Key),ϛ px)by unfold wEn;rw[ak]]
  have z:px=0:=by
   by_cases z:px=0
   ·exact z
   refine absurd ?_ g;show(!decide ((ϛ [px].sum).v=(ϛ 0).v))=O;rw[e1,decide_eq_false (p:=(ϛ px).v=(ϛ 0).v) λe=>z (V.int.inj e)];rfl
  exact(_,_,_,U,by rw[ex,if_pos z,qp])
 rintro q ⟨D,o5,o6,rfl,rfl⟩;rw[cU,ox];have TC:∀X:Γ,ϝ (X.map (wEn kvs fam))=true:=λX=>by
  induction X with|nil=>rfl|cons _ r ih=>show(O&&ϝ (r.map (wEn kvs fam)))=O;rw[ih];rfl
 exact(TC _,λo vs=>(U,hq o vs))
theorem z9{t:L2.T}{Q:ϕ}(h:q[i]?.bind Sl.get=Z t)(hq:Q t):aG i q Q:=by
 unfold aG;cases e:q[i]? with
 |none=>rw[e]at h;cases h
 |some s =>
  rw[e]at h;cases s with
  |no=>cases h
  |o x=>cases h;exact hq
  |r x=>cases h;exact hq
theorem Nv{m:Str}{i:Nat}{Q:ϕ}(h1:q[i]?.bind Sl.get=Z (dT ds))(h2:q[j]?.bind Sl.get=Z (.s m))(hq:Q (.i ((lk ds m).getD 0))):Eh (aG i) (aG j) (qC (.i 0)) q Q:=by refine z9 h1 ?_;refine z9 h2 ?_;show Q ((bH (ds.map dEn) (.inr m)).getD (.i 0));rw[eD];cases h:lk ds m with|none=>rw[h]at hq;exact hq|some _=>rw[h]at hq;exact hq
inductive Vv(ts:ϓ)(Q:ϕ):Prop
 |mk (o:Obj) (vs:ϐ) (W:Γ) (p:Str->Int) (v:Vl) (h1:ts=[.fd o vs (W.map λm=>((.inr m:Key),ϛ (p m))),v.t]) (h2:W.Nodup) (h3:W.length<=100) (h4:v.ms.length<=500) (h5:Q (.i (W.map λm=>p m*cnt m v.ms).sum))
theorem nu(T:Txt K mg a):bg P w K mg base CX0 3 a.gP a.qH ["weights",Tk] (spQ K Vv):=by
 exists T.kH,mX,hu,(ag (aR (Jt (NA (qv 0)))
(ai (aE bw))
aF)
(ag (aB 2 mX.nd (aJ (GL T) hr T.BL (ae (qv 1) aw)))
(ai (aE (bK (fk U U) iS ba T.vg bn (ae (ZB (bI U (Jz (qv 0)) (N':=["maker","weights","often"]) (.own U (.got (i:=0) U U (.inl U) (.got (i:=2) U U (.inl U) .nil))) (bA (g:=(Tg.nm 0)) (λ_ _ _ _ _=>((cb 0),(bJ (cN (qv 1) (qv 0)) (yg hu (qv 2) (qv 0) ah))))))) aw)))))),λts Q h=>?_
 let(o,vs,W,p,v,U,hW,hl,hv,hq):=h;refine aI (λg=>?_) λg=>?_
 ·have:W=[]:=by cases W with|nil=>rfl|cons _ _=>cases g
  subst this;exact hq
 refine(v,U,hv,?_);refine(bL (by rw[cU,cU];lia),λi ys=>ys=((W.take i).map λm=>p m*cnt m v.ms).map .i,U,?_,?_)
 ·rintro i y ys V rfl;rw[tr,fN]at V;let(m,hm,U):=gV.mp V;have q:bH (W.map λm=>((.inr m:Key),ϛ (p m))) (.inr m)=Z (.i (p m)):=by
   have:=g5 hm;clear hm V hl hq g;induction W with
   |nil=>cases this
   |cons x r ih =>
    have h':=vp.mp hW;unfold bH;rw[ro,zr];by_cases e:x=m
    ·subst e;rw[decide_eq_true rfl];rfl
    rw[decide_eq_false λz=>e (Sum.inr.inj z)];exact ih h'.2 ((kC.mp this).elim (λz=>absurd z.symm e) id)
  have c1:0<=cnt m v.ms/\cnt m v.ms<=500:=by unfold cnt;have:=List.countP_le_length (p:=λy=>decide (y=m)) (l:=v.ms);lia
  refine(_,U,?_);refine(_,q,?_);refine Nv (ds:=wk v.ms) (m:=m) U U ?_;rw[Pq];refine(.inr (ap,ap),?_);rw[p7,hm,ky,ky];rfl
 rintro ys rfl;rw[cU,cU,ox];exact(_,L2.ins_map _,hq)
def wgt(p:Fam->Int)(fam:Fam)(v:Vl):Int:=(v.ms.map λm=>p (fam++[.inr m])).sum
theorem MM{W ms:Γ}(Q:W.Nodup)(hm:∀m∈ms,m∈W)(p:Str->Int):((W.filter λm=>!decide (p m=0)).map λm=>p m*cnt m ms).sum=(ms.map p).sum:=by
 have f0:∀W:Γ,((W.filter λm=>!decide (p m=0)).map λm=>p m*cnt m ms).sum=(W.map λm=>p m*cnt m ms).sum:=by
  intro W;induction W with
  |nil=>rfl|cons x r g =>
   by_cases z:p x=0
   ·rw[Es (z:),g,ro,vx,z,Int.zero_mul,YA]
   rw[x2 (z:),ro,vx,g,ro,vx]
 rw[f0];clear f0;have q:∀W:Γ,(W.map λm=>p m*cnt m []).sum=0:=by intro W;induction W with|nil=>rfl|cons x r g=>rw[ro,vx,g];show p x*0+0=0;rw[Int.mul_zero];rfl
 induction ms with
 |nil=>exact q W|cons y r g =>
  rw[ro,vx,<- g λm h=>hm m (j5 _ h)];have K:=hm y j0;clear g q hm;have P:∀m,cnt m (y::r)=cnt m r+if y=m then 1 else 0:=λm=>by
   unfold cnt;rw[List.countP_cons];by_cases e:y=m
   ·rw[if_pos e,if_pos (decide_eq_true e)];lia
   rw[if_neg e,if_neg (e:)];lia
  have no:∀W:Γ,y ∉ W->(W.map λm=>p m*cnt m (y::r)).sum=(W.map λm=>p m*cnt m r).sum:=by
   intro W;induction W with
   |nil=>intro _;rfl
   |cons x t g =>intro h;rw[ro,vx,ro,vx,g λz=>h (j5 _ z),P,if_neg λz=>h (by rw[z];exact j0),Y8]
  induction W with
  |nil=>cases K
  |cons x t g =>
   have h':=vp.mp Q;rw[ro,vx,ro,vx,P];by_cases e:y=x
   ·subst e;rw[no t h'.1,Int.mul_add];lia
   rw[if_neg e,Y8,g h'.2 ((kC.mp K).elim (λz=>absurd z e) id)];lia
inductive HK:L2.T->List Vl->Prop
 |l{vs:List Vl}:HK (.l (vs.map Vl.t)) vs|t{vs:List Vl}:HK (.t (vs.map Vl.t)) vs
theorem HK.at{A:L2.T}{vs:List Vl}(h:HK A vs){i:Nat}{v:Vl}(hv:vs[i]?=Z v){Q:ϕ}(hq:Q v.t):qIx A (.i (i:Int)) Q:=by
 have e:atI (vs.map Vl.t) (i)=Z v.t:=br (by rw[fN,hv];rfl);cases h
 ·exact(_,e,hq)
 exact(_,e,hq)
structure PU(ks:ϖ)(fs:ϗ)(kvs:ϑ)(p:Fam->Int):Prop where
 par:∀(f:Nat)(fn:Fn)(k:Nat)(q:Str×Str),fs[f]?=Z fn->fn.1.2.1[k]?=Z q->∀m∈cF ks q.2 ks,bV kvs ([.inr "param",.inl (f:Int),.inl (k:Int)]++[.inr m])=Z (.int (p ([.inr "param",.inl (f:Int),.inl (k:Int)]++[.inr m])))
 res:∀(f:Nat)(fn:Fn),fs[f]?=Z fn->∀m∈cF ks fn.1.2.2 ks,bV kvs ([.inr "result",.inl (f:Int)]++[.inr m])=Z (.int (p ([.inr "result",.inl (f:Int)]++[.inr m])))
 fst:∀(f:Nat)(fn:Fn),fs[f]?=Z fn->bV kvs [.inr "first",.inl (f:Int)]=Z (.int (p [.inr "first",.inl (f:Int)]))
 lst:∀(f:Nat)(fn:Fn),fs[f]?=Z fn->bV kvs [.inr "last",.inl (f:Int)]=Z (.int (p [.inr "last",.inl (f:Int)]))
def mD(p:Fam->Int)(f:Nat):Nat->List Vl->Int
 |_,[]=>0|k,v::r=>wgt p [.inr "param",.inl (f:Int),.inl (k:Int)] v+mD p f (k+1) r
theorem Hx{p:Fam->Int}{f:Nat}{v:Vl}{vs:List Vl}:∀{k:Nat},mD p f k (vs++[v])=mD p f k vs+wgt p [.inr "param",.inl (f:Int),.inl ((k+vs.length:Nat):Int)] v:=by
 induction vs with
 |nil=>intro k;show _+0=0+_;rw[Y8,YA];rfl
 |cons q r g=>intro k;show _+mD p f (k+1) (r++[v])=(_+_)+_;rw[g,qf,show k+1+r.length=k+(r.length+1)by lia,Int.add_assoc]
structure WJ(ks:ϖ)(sc:Sc)(vs:List Vl):Prop where
 ln:vs.length=sc.length
 ok:∀(i:Nat)(v:Vl)(p:Str×Str),vs[i]?=Z v->sc[i]?=Z p->(∀m∈v.ms,m∈cF ks p.2 ks)/\v.ms.length<=400
inductive N4(ts:ϓ)(Q:ϕ):Prop
 |mk(ks:ϖ)(fs:ϗ)(f:Nat)(fn:Fn)(kvs:ϑ)(p:Fam->Int)(A:L2.T)(vs:List Vl)(h1:ts=[tPr ks fs,.fz (.dT kvs),iN f,A])(h2:Prog ks fs)(h3:fs[f]?=Z fn)(h4:PU ks fs kvs p)(h5:HK A vs)(h6:WJ ks fn.1.2.1 vs)(h7:Q (.i (p [.inr "first",.inl (f:Int)]+mD p f 0 vs)))
theorem HV{ks:ϖ}{k:Str}{fam:Fam}{p:Fam->Int}{v:Vl}(gk:bC ks)(h:∀m∈cF ks k ks,bV kvs (fam++[.inr m])=Z (.int (p (fam++[.inr m]))))(hm:∀m∈v.ms,m∈cF ks k ks):((wBy ks kvs k fam).map λm=>pxE kvs fam m*cnt m v.ms).sum=wgt p fam v:=by
 unfold wBy;rw[MM (rJ gk) hm];have:v.ms.map (pxE kvs fam)=v.ms.map λm=>p (fam++[.inr m]):=TH λm g=>by unfold pxE plc;rw[h m (hm m g)]
 rw[this];rfl
theorem HW{fam:Fam}(gk:bC ks):(wBy ks kvs k fam).Nodup:=List.Nodup.sublist Zn (rJ gk)
theorem DQ{ks:ϖ}{k:Str}{fam:Fam}(gk:bC ks):(wBy ks kvs k fam).length<=100:=by have wl:=gk.wl (k:=k) λ_ h=>h;have k2:=gk.k2;exact sF (Ur _ _) ap
theorem KD(T:Txt K mg a):bg P w K mg base CX0 5 a.sC a.Fg ["program","prices","f","args"] (spQ K N4):=by
 exists T.FL,jM,hu,(ag (aB 4 jM.nd (t5 (uI hr) (qv 1) (ZB (aq (af aK (af (XL (qv 2)) aj))))))
(ag (bc (g:=(Tg.tp [5,6])) PassesOwn.never U (iZ U T.bh bn (ae (ao (ao (ao (qv 0) ah) (qv 2)) ah) aw)) (cM (aZ 5 jM.nd) (aZ 6 jM.nd))
(ai (NC (i:=4) jM.nd (ZB (aJ (nu T) hr T.kH (ae (ZB (aJ (lC T) hr T.jq (ae (qv 0) (ae (qv 1) (ae (ao (qv 6) ah) (ae (ZB (aO (af (aq (af (aq (af aK (af (XL (qv 2)) (af (XL (qv 5)) aj)))) (af bw aj))) aj))) aw)))))) (ae (ao (qv 3) (qv 5)) aw)))))))
(ai (aE (XL (qv 4)))))),λts Q h=>?_
 let(ks,fs,f,fn,kvs,p,A,vs,U,hP,hf,hp,hA,hv,hq):=h;have ef:atI (fs.map tF) (f:Int)=Z (tF fn):=br (by rw[fN,hf];rfl);refine(U,([.inr "first",.inl (f:Int)],_),(U,hp.fst f fn hf),?_);refine(_,U,_,ef,_,U,aV eO _,λc q=>Ea2 λ(o5 o6:Sl)=>q=[.r (tPr ks fs),.r (.fz (.dT kvs)),.r (iN f),.r A,.o (.i (p [.inr "first",.inl (f:Int)]+mD p f 0 (vs.take c))),o5,o6],(_,_,by rw[show mD p f 0 (vs.take 0)=0 from U,Y8];rfl),?_,?_)
 ·rintro c y q hy ⟨o5,o6,rfl⟩;let(z,hz,U):=bM hy;rw[fN]at hz;let(pr,ak,U):=gV.mp hz;have av:=(jm.mp ak).1;have V:vs[c]?=Z (vs[c]'(by rw[hv.ln];exact av)):=dQ _;generalize vs[c]'(by rw[hv.ln];exact av)=v at V;let(h1,h2):=hv.ok c v pr V ak;have ar:=hp.par f fn c pr hf ak;refine(_,U,_,U,_,U,U,U,ks,_,kvs,pr.2,[.inr "param",.inl (f:Int),.inl (c:Int)],U,hP.gk,(by show 3<=10;decide),λm hm=>(_,ar m hm),λo ay=>hA.at V (o,ay,_,pxE kvs _,v,U,HW hP.gk,DQ hP.gk,ap,?_));rw[HV hP.gk ar h1];refine(.r (.i c),.r (tP pr),?_);rw[p7,V];show _=[Sl.r (tPr ks fs),Sl.r (L2.T.fz (HO.dT kvs)),Sl.r (iN f),Sl.r A,Sl.o (.i (p [.inr "first",.inl (f:Int)]+mD p f 0 (vs.take c++[v]))),_,_];rw[Hx,qr,Mi (by rw[hv.ln];lia),Ft,<- Int.add_assoc];rfl
 rintro q ⟨o5,o6,rfl⟩;rw[aU,cU,<- hv.ln,ox];exact(U,hq)
theorem PU.of{ks:ϖ}{fs:ϗ}{xs:List (Fn×Ϙ)}{us:List Fam}{ns:Ψ}(gk:bC ks)(K:Unk ks fs xs)(e:bZ ks 0 xs=us.map fC)(hl:us.length=ns.length)(z:fs ≠ []):PU ks fs (N6 us ns) (pz us ns):=by
 have nd:=UK gk e;have mem:∀{u:Fam},fC u∈bZ ks 0 xs->u∈us:=λ{u} h=>by
  rw[e]at h;let(v,hv,P):=kf.mp h;rw[<- yX P];exact hv
 have val:∀{u:Fam},fC u∈bZ ks 0 xs->bV (N6 us ns) u=Z (.int (pz us ns u)):=λ{u} h=>KS nd hl (mem h);obtain⟨x0,g⟩:∃x,xs[0]?=Z x:=by
  have:xs.length=fs.length:=by rw[<- K.fn,cU]
  have:=Yb.mpr z;exact(_,dQ ap)
 have ό:=UOk.of K g;refine(λf fn k q h1 h2 m hm=>val (ό.par f fn k q h1 h2 m hm),λf fn h1 m hm=>val (ό.res f fn h1 m hm),λf fn h1=>val (ό.fst f fn h1),λf fn h1=>val (ό.lst f fn h1))
structure Pap(ks:ϖ)(fs:ϗ)(xs:List (Fn×Ϙ))(us:List Fam)(ns:Ψ):Prop where
 p:Prog ks fs
 u:Unk ks fs xs
 e:bZ ks 0 xs=us.map fC
 l:us.length=ns.length
inductive Sx(ts:ϓ)(Q:ϕ):Prop
 |mk(ks:ϖ)(fs:ϗ)(xs:List (Fn×Ϙ))(us:List Fam)(ns:Ψ)(parts:Int)(f:Nat)(fn:Fn)(A:L2.T)(vs:List Vl)(h1:ts=[tPr ks fs,.t [.i parts,.t (ns.map .i)],iN f,A])(h2:Pap ks fs xs us ns)(h3:fs[f]?=Z fn)(h4:HK A vs)(h5:WJ ks fn.1.2.1 vs)(h6:Q (.i (pz us ns [.inr "first",.inl (f:Int)]+mD (pz us ns) f 0 vs)))
theorem OJ(T:Txt K mg a):bg P w K mg base CX0 9 a.y8 a.LQ ["program","paper","f","args"] (spQ K Sx):=by refine T.zB.F.okQ Nm (λ_ _ _ _ _ _ hr=>?_);refine(_,_,((ai (aE (aJ (KD T) hr T.FL (ae (qv 0) (ae (ZB (aJ (nA T) hr T.kJ (ae (qv 0) (ae (qv 1) aw)))) (ae (qv 2) (ae (qv 3) aw)))))))),λts Q h=>?_);let(ks,fs,xs,us,ns,parts,f,fn,A,vs,U,hp,hf,g,hv,hq):=h;exact(ks,fs,xs,us,parts,ns,U,hp.p,hp.u,hp.e,(ks,fs,f,fn,_,pz us ns,A,vs,U,hp.p,hf,.of hp.p.gk hp.u hp.e hp.l (λe=>by rw[e]at hf;cases hf),g,hv,hq))
inductive rV(ts:ϓ)(Q:ϕ):Prop
 |mk(ks:ϖ)(fs:ϗ)(xs:List (Fn×Ϙ))(us:List Fam)(ns:Ψ)(parts:Int)(f:Nat)(fn:Fn)(v:Vl)(h1:ts=[tPr ks fs,.t [.i parts,.t (ns.map .i)],iN f,v.t])(h2:Pap ks fs xs us ns)(h3:fs[f]?=Z fn)(h4:(∀m∈v.ms,m∈cF ks fn.1.2.2 ks))(h5:v.ms.length<=500)(h6:Q (.i (pz us ns [.inr "last",.inl (f:Int)]+wgt (pz us ns) [.inr "result",.inl (f:Int)] v)))
theorem Ky(T:Txt K mg a):bg P w K mg base CX0 9 a.sj a.E9 ["program","paper","f",Tk] (spQ K rV):=by
 refine T.sH.F.okQ tL (λ_ _ _ _ _ _ hr=>?_);refine(_,_,((ag (aB 4 tL.nd (aJ (nA T) hr T.kJ (ae (qv 0) (ae (qv 1) aw))))
(ag (aB 5 tL.nd (aJ (lC T) hr T.jq (ae (qv 0) (ae (qv 4) (ae (ao (ao (ao (qv 0) ah) (qv 2)) ah) (ae (ZB (aO (af (aq (af (aq (af aK (af (XL (qv 2)) aj))) (af bw aj))) aj))) aw))))))
(ai (aE (aS (ZB (t5 (uI hr) (qv 4) (ZB (aq (af aK (af (XL (qv 2)) aj)))))) (ZB (aJ (nu T) hr T.kH (ae (qv 5) (ae (qv 3) aw)))))))))),λts Q h=>?_)
 let(ks,fs,xs,us,ns,parts,f,fn,v,U,hp,hf,hm,hl,hq):=h;have q:atI (fs.map tF) (f)=Z (tF fn):=br (by rw[fN,hf];rfl);have ό:=PU.of hp.p.gk hp.u hp.e hp.l (λe=>by rw[e]at hf;cases hf);refine(ks,fs,xs,us,parts,ns,U,hp.p,hp.u,hp.e,((_,U,_,q,_,U,U,ks,_,_,fn.1.2.2,[.inr "result",.inl (f:Int)],U,hp.p.gk,(by show 2<=10;decide),λm hm=>(_,ό.res f fn hf m hm),λo g=>((U,([.inr "last",.inl (f:Int)],_),(U,ό.lst f fn hf),o,g,_,pxE (N6 us ns) _,v,U,HW hp.p.gk,DQ hp.p.gk,hl,?_)))));rw[HV hp.p.gk (ό.res f fn hf) hm];exact hq
theorem deps{fs:ϗ}(q:cv ks (fs.map (·.1)) 0 [rtN f] L)(hd:Dep D f.2.1):∀e∈L,∃N,N+e.pa.length=D/\Dep N e.b:=by
 refine q.all (λn d j b am sc (N,z,g) hk=>?_) _ U λd h=>by
  rw[fy.mp h];exact(D,U,hd)
 cases N with|zero=>exact absurd g hk.tup|succ N=>exact(N,by show N+(d.pa++[_]).length=D;simp;lia,hk.dep g)
theorem H0{ks:ϖ}{fs:ϗ}(p:Prog ks fs)(hs:∀f∈fs,f.2.2<=100)(h3:fs.length<=3)(hd:∀f∈fs,Dep 20 f.2.1):∃xs zs,Unk ks fs xs/\Nds ks fs xs zs:=by
 have one:∀f∈fs,∃os L,Pre ks (fs.map (·.1)) 0 (rtN f) L/\L.length<=100/\oH ks L os/\∀e∈L,e.pa.length<=20:=λf hf=>by
  let(hS,h5):=p.sn f hf;let(L,hR,ar):=hS.pre h5 0 .n .n [];have K:=by have:=cv.cons hR (.nil);rwa [qp]at this
  have ak:=K.asks _ U;have:∀M,(∀e∈M,∃o,Ask ks e.sc e.b o)->∃os,oH ks M os:=by
   intro M;induction M with
   |nil=>intro _;exact([],U,λn e o h=>by simp at h)
   |cons e r V =>
    intro h;let(o,ho):=h e j0;let(os,h1):=V λe he=>h e (j5 _ he);refine(o::os,by simp[h1.ln],λn e' o' he q=>?_);cases n with
    |zero=>cases he;cases q;exact ho
    |succ n=>exact h1.ok n e' o' (he:) (q:)
  let(os,hA):=this L ak;exact(os,L,hR,sF ar (hs f hf),hA,λe he=>by let(N,hN,_):=deps K (hd f hf) e he;lia)
 have:∀Q,(∀g∈Q,g∈fs)->∃(xs:List (Fn×Ϙ))(zs:List (Fn×List Nod)),xs.map (·.1)=Q/\zs.map (·.1)=Q/\(∀x∈xs,∃L,Pre ks (fs.map (·.1)) 0 (rtN x.1) L/\L.length<=50000/\oH ks L x.2)/\∀(i:Nat) x z,xs[i]?=Z x->zs[i]?=Z z->Pre ks (fs.map (·.1)) 0 (rtN z.1) z.2/\z.2.length<=100/\oH ks z.2 x.2/\∀e∈z.2,e.pa.length<=20:=by
  intro Q;induction Q with
  |nil=>intro _;exact([],[],U,U,(λ_ h=>nomatch h),λi x z h=>by simp at h)
  |cons g r V =>
   intro h;let(os,L,h1,ay,P,av):=one g (h g j0);let(xs,zs,h2,h3,h4,h5):=V λg hg=>h g (j5 _ hg);refine((g,os)::xs,(g,L)::zs,by simp[h2],by simp[h3],λx hx=>?_,λi x z hx hz=>?_)
   ·obtain rfl|hx:=kC.mp hx
    ·exact(L,h1,ap,P)
    exact h4 x hx
   cases i with
   |zero=>cases hx;cases hz;exact(h1,ay,P,av)
   |succ i=>exact h5 i x z (hx:) (hz:)
 let(xs,zs,h1,h2,h3',h4):=this fs λ_ h=>h;exact(xs,zs,(h1,h3'),(h2,h4,h3))
theorem Ask.det{b t:L2.T}(gk:bC ks)(nd:(sc.map (·.1)).Nodup)(h:Ask ks sc b o)(e:b=t)(h':Ask ks sc t o'):o=o':=by
 cases h <;> cases h' <;> first|exact absurd (congrArg tgT e) (Nat.ne_of_beq_eq_false rfl)|simp[Cj,Co]at e
 ·rfl
 ·rfl
 ·rename_i V _ _ _ _ g;let(U,U,U):=e;exact congrArg Z (d8 nd V g)
 ·rename_i K hm _ _ _ _ _ Q z;let(U,P,e2,U):=e;exact congrArg (λk=>Z k.1) (uC gk K Q hm z P)
 ·rfl
 rename_i hx _ _ _ q;let(U,P):=e;exact congrArg Z (d8 nd hx q)
theorem oH.det{g:Ϙ}(gk:bC ks)(nd:∀e∈L,(e.sc.map (·.1)).Nodup)(h:oH ks L os)(h':oH ks L g):os=g:=YY (h.ln.trans h'.ln.symm) λi g1 g2=>by
 have hl:i<L.length:=by rw[<- h.ln];exact g1
 exact(h.ok i _ _ (dQ hl) (dQ g1)).det gk (nd _ (P1 hl)) U (h'.ok i _ _ (dQ hl) (dQ g2))
structure kG(ks:ϖ)(fs fs':ϗ):Prop where
 ln:fs'.length=fs.length
 ok:∀(j:Nat)(f f':Fn),fs[j]?=Z f->fs'[j]?=Z f'->f'.1=f.1/\f'.2.2=f.2.2/\Snd ks (fs.map (·.1)) f.1.2.2 f.2.2 f.1.2.1 f'.2.1/\(∀M,Dep M f.2.1->Dep M f'.2.1)/\∃os,dw O ks (fs.map (·.1)) f.1.2.1 f.2.1 os/\dw ϊ ks (fs.map (·.1)) f.1.2.1 f'.2.1 os
theorem kG.hd(h:kG ks fs fs'):fs'.map (·.1)=fs.map (·.1):=YY (by simp[h.ln]) λj g1 g2=>by
 rw[cU]at g1 g2;rw[YM,YM];exact(h.ok j _ _ (dQ g2) (dQ g1)).1
theorem kG.old(h:kG ks fs fs')(hf:f'∈fs'):∃(j:Nat)(f:Fn),fs[j]?=Z f/\fs'[j]?=Z f':=by let(j,g,e):=ri hf;exact(j,fs[j]'(by rw[<- h.ln];exact g),dQ _,by rw[dQ g,e])
theorem kG.prog(h:kG ks fs fs')(p:Prog ks fs):Prog ks fs':=by
 refine(p.gk,by rw[h.ln];exact p.l8,?_,λf' hf=>?_,λf' hf=>?_,λf' hf=>?_)
 ·have e:=congrArg (List.map (·.1)) h.hd;rw[tr,tr]at e;have hn:=p.hn;rw[show fs'.map (·.1.1)=fs.map (·.1.1)from e];exact hn
 ·let(j,f,g,q):=h.old hf;let(z,_):=h.ok j f f' g q;rw[z];exact p.pk f (g5 g)
 ·let(j,f,g,q):=h.old hf;let(z,P,K,_):=h.ok j f f' g q;rw[h.hd,z,P];exact(K,(p.sn f (g5 g)).2)
 let(j,f,g,q):=h.old hf;exact(h.ok j f f' g q).2.2.2.1 _ (p.dp f (g5 g))
theorem zO:∀{xs g:List (Fn×Ϙ)}{i:Nat},g.length=xs.length->(∀(j:Nat)(x q:Fn×Ϙ),xs[j]?=Z x->g[j]?=Z q->q.1.1=x.1.1/\q.2=x.2)->bZ ks i g=bZ ks i xs
 |[],[],_,_,_=>rfl|[],_::_,_,h,_=>by cases h
 |_::_,[],_,h,_=>by cases h
 |x::xs,q::g,i,hl,h=>by
  show oP ks i q.1 q.2++bZ ks (i+1) g=oP ks i x.1 x.2++bZ ks (i+1) xs;let(h1,h2):=h 0 x q U U;rw[zO (Nat.succ.inj hl) λj y z P K=>h (j+1) y z (P:) (K:)];unfold oP;rw[h1,h2]
theorem kG.unk{q:List (Fn×Ϙ)}(h:kG ks fs fs')(p:Prog ks fs)(Q:Unk ks fs xs)(z:Unk ks fs' q):bZ ks 0 q=bZ ks 0 xs:=by
 have p':=h.prog p;have hn:((fs.map (·.1)).map (·.1)).Nodup:=by have:=p.hn;rwa [tr]
 have lx:xs.length=fs.length:=by rw[<- Q.fn,cU]
 have P:q.length=fs'.length:=by rw[<- z.fn,cU]
 have one:∀{g:Bool}{K:ϗ}{x:Fn×Ϙ}{os:Ϙ},Prog ks K->K.map (·.1)=fs.map (·.1)->x.1∈K->(∃L,Pre ks (K.map (·.1)) 0 (rtN x.1) L/\L.length<=50000/\oH ks L x.2)->dw g ks (fs.map (·.1)) x.1.1.2.1 x.1.2.1 os->x.2=os:=λ{g K x os} pg hg hx (L,h1,_,h3) hA=>by
  have V:=by have:=cv.cons h1 (.nil);rwa [qp]at this
  have G:=A3 pg hx V;rw[hg]at h1;exact h3.det p.gk (λe he=>(G e he).nd) (Bs p.gk hn h1 (pg.pk _ hx).2.2.1 hA).1
 refine zO (by rw[lx,P,h.ln]) λj x x' e1 e2=>?_;have f1:fs[j]?=Z x.1:=by rw[<- Q.fn,fN,e1];rfl
 have f2:fs'[j]?=Z x'.1:=by rw[<- z.fn,fN,e2];rfl
 let(z1,z2,z3,z4,os,a1,a2):=h.ok j _ _ f1 f2;have q1:=one p U (g5 f1) (Q.ok x (g5 e1)) a1;have q2:=one p' h.hd (g5 f2) (z.ok x' (g5 e2)) (by rw[z1];exact a2);exact(z1,q2.trans q1.symm)
structure zp(b:L2.T):Prop where
 np:∀c b',b ≠ .t [.s "pay",.i c,b']
 gt:∀c b',b=.t [.s "get",.i c,b']->0<=c
theorem fM.np{b:L2.T}{fr:List (Fam×Int)}(h:fM fs i n b us fr sp)(g:zp b):sp<=0:=by cases h with|pay=>exact absurd U (g.np _ _)|get=>have:=g.gt _ _ U;lia|_=>exact DG _
theorem Std.np(q:∀e∈L,zp e.b)(h:Std ks fs i f L e d):d.sp<=0:=by induction h with|root=>exact DG _|kid _ he _ g _ z =>have:=g.np (q _ (g5 he));show _+_ <=(0);lia
theorem RC(g:∀e∈L,zp e.b)(he:zp e.b):(sdW ks fs i f L n e).sp<=0:=by
 unfold sdW;split
 ·rename_i h;let(z,us,fr,sp,a1,a2,q):=h.choose_spec;rw[q];have h1:=a1.np g;have h2:=a2.np he;show _+_ <=(0);omega
 exact DG _
theorem EW{ks:ϖ}{fs:ϗ}{kvs:ϑ}{i:Nat}{f:Fn}{L:List Nod}(g:∀e∈L,zp e.b):∀{es:List Nod}{n:Nat},(∀e∈es,zp e.b)->∀r∈pV ks fs kvs i f L n es,r.sp<=0
 |[],_,_,_,h=>nomatch h
 |e::es,n,he,r,h=>by
  obtain h|h:=jn.mp (h)
  ·unfold chunk at h;split at h
   ·obtain rfl|h:=kC.mp h
    ·exact RC g (he e j0)
    split at h
    ·let(p,_,h):=Wc.mp h;let(m,_,U):=kf.mp h;exact DG _
    cases h
   cases h
  exact EW g (λe h=>he e (j5 _ h)) r h
theorem Bu{ks:ϖ}{fs:ϗ}{kvs:ϑ}:∀{zs:List (Fn×List Nod)}{i:Nat},(∀z∈zs,∀e∈z.2,zp e.b)->∀r∈dY ks fs kvs i zs,r.sp<=0
 |[],_,_,_,h=>nomatch h
 |z::zs,i,g,r,h=>by
  obtain h|h:=jn.mp (h)
  ·exact EW (g z j0) (g z j0) r h
  exact Bu (λz h=>g z (j5 _ h)) r h
theorem dh{ns:Ψ}:∀{rs:List Row}{c:Nat},bY parts ns c rs=Y ↔ ∀r∈rs,parts*r.sp<=iD ns r.ws
 |[],_=>Iff.intro (λ_ _ h=>nomatch h) (λ_=>rfl)|r::rs,c=>by
  unfold bY;split
  ·exact Iff.intro (λz=>nomatch z) (λg=>by have:=g r j0;omega)
  rw[dh];exact(λg x hx=>(kC.mp hx).elim (λe=>e▸ap) (g x),λg x hx=>g x (j5 _ hx))
def i9(u v:Int)(a b:Ψ):Ψ:=(a.zip b).map λp=>u*p.1+v*p.2
theorem CV{u v:Int}:∀{a b:Ψ}{j:Nat},a.length=b.length->(i9 u v a b).getD j 0=u*a.getD j 0+v*b.getD j 0
 |[],[],j,_=>by simp[i9]|x::a,y::b,0,_=>rfl|x::a,y::b,j+1,h=>CV (b:=b) (Nat.succ.inj h)
theorem OP{v:Int}{a:Ψ}{ws:Wt}(h:a.length=b.length):iD (i9 u v a b) ws=u*iD a ws+v*iD b ws:=by unfold iD;induction ws with|nil=>simp|cons p ws g =>rw[ro,ro,ro,vx,vx,vx,g,CV h];grind
theorem EE{a:Ψ}(h:a.length=b.length):(i9 u v a b).length=b.length:=by unfold i9;rw[cU,QX];lia
theorem SW{us:List Fam}{a:Ψ}(h:a.length=b.length):pz us (i9 u v a b) f=u*pz us a f+v*pz us b f:=by
 unfold pz;split
 ·exact CV h
 simp
theorem Dg{p1 p2 v:Int}{a:Ψ}(h:a.length=b.length)(g:0<=u)(hv:0<=v)(h1:0<=p1)(h2:0<=p2)(z:bY p1 a 0 rs=Y)(q:bY p2 b 0 rs=Y):bY ((u+v)*p1*p2) (i9 (u*p2) (v*p1) a b) 0 rs=none:=by
 refine dh.mpr λr hr=>?_;rw[OP h];have g1:=YN (dh.mp z r hr) (ZX g h2);have g2:=YN (dh.mp q r hr) (ZX hv h1);have e:(u+v)*p1*p2*r.sp=u*p2*(p1*r.sp)+v*p1*(p2*r.sp):=by grind
 lia
theorem yU{a:Ψ}(hk:0<=k)(z:bY p a 0 rs=Y):bY (p*k) (a.map (· * k)) 0 rs=none:=by
 refine dh.mpr λr hr=>?_;have g1:=YN (dh.mp z r hr) hk;have e:iD (a.map (· * k)) r.ws=k*iD a r.ws:=by
  unfold iD;induction r.ws with
  |nil=>simp|cons q ws g =>
   rw[ro,ro,vx,vx,g];have:(a.map (· * k)).getD q.1.toNat 0=a.getD q.1.toNat 0*k:=by rw[zu,zu,fN];cases a[q.1.toNat]? <;> simp
   rw[this];grind
 have K:p*k*r.sp=k*(p*r.sp):=by grind
 lia
theorem A4{p:Int}{m:Nat}(hp:0<=p)(h:∀r∈rs,r.sp<=0):bY p (rG m 0) 0 rs=none:=by
 refine dh.mpr λr hr=>?_;have e:iD (rG m 0) r.ws=0:=by
  unfold iD;induction r.ws with
  |nil=>rfl|cons q ws g =>
   rw[ro,vx,g];have:(rG m (0:Int)).getD q.1.toNat 0=0:=by rw[zu,Y4];split <;> rfl
   rw[this,Int.mul_zero];rfl
 rw[e];exact Int.mul_nonpos_of_nonneg_of_nonpos hp (h r hr)
theorem Ah:∀{ys:ϓ},(∀t∈ys,t.pln=O)->L2.T.me ys=O
 |[],_=>rfl|y::ys,h=>by show(y.pln&&L2.T.me ys)=O;rw[h y j0,Ah λt g=>h t (j5 _ g)];rfl
theorem Ai:∀ws:Wt,L2.T.GC (ws.map enI)=O
 |[]=>rfl|_::ws=>by show(O&&L2.T.GC (ws.map enI))=O;rw[Ai ws];rfl
theorem Rws.pln(h:Rws N ys rs):L2.T.me ys=true:=Ah λt g=>by
 let(i,hi,U):=ri g;have hr:i<rs.length:=by rw[<- h.ln];exact hi
 have hI:=h.ok i _ _ (dQ hi) (dQ hr);generalize ys[i]=y at hI ⊢;let(_,hn,_):=hI;show(L2.T.me _&&(L2.T.GC _&&(O&&O)))=O;rw[hn.2,Ai];rfl
theorem kG.np(h:kG ks fs fs')(p:Prog ks fs)(hf:f'∈fs')(z:Pre ks (fs'.map (·.1)) 0 (rtN f') L):∀e∈L,zp e.b:=by
 have V:=h.prog p;let(j,f,e0,e1):=h.old hf;let(z1,_,_,_,os,_,a2):=h.ok j f f' e0 e1;have hn:((fs.map (·.1)).map (·.1)).Nodup:=by have:=p.hn;rwa [tr]
 have K:=by have:=cv.cons z (.nil);rwa [qp]at this
 have SN:=Rx V hf K;rw[h.hd]at z;have al:=(Bs p.gk hn z (V.pk _ hf).2.2.1 (by show dw ϊ ks _ f'.1.2.1 f'.2.1 os;rw[z1];exact a2)).2;intro e he;let(ak,P):=al e he;let(m,q):=SN e he;refine(λc b' Q=>?_,λc b' Q=>?_)
 ·rw[Q]at P;generalize g:Ϝ [.s "pay",.i c,b']=t at P;cases P <;> simp at g;rename_i hg _;have:=hg g.1.symm;cases this
 rw[Q]at q;generalize g:Ϝ [.s "get",.i c,b']=t at q;cases q <;> simp at g;rename_i hc _;rw[g.2.1];exact hc
inductive Gy(ts:ϓ)(Q:ϕ):Prop
 |mk(ks:ϖ)(fs:ϗ)(xs:List (Fn×Ϙ))(zs:List (Fn×List Nod))(us:List Fam)(parts:Int)(ns:Ψ)(h1:ts=[tPr ks fs,.t [.i parts,.t (ns.map .i)]])(h2:PrC ks fs xs zs us)(h3:Sm parts)(h4:(∀y∈ns,Sm y))(h5:1<=parts)(h6:ns.length=us.length)(h7:(∀y∈ns,0<=y))(h8:bY parts ns 0 (dY ks fs (plD us) 0 zs)=Y)(h9:Q (.b O))
theorem CQ(T:Txt K mg a):bg P w K mg base CX0 9 a.kX a.xg ["program","paper"] (spQ K Gy):=by
 exists T.xw,gf,hu,(ag (aB 2 gf.nd (XL (ao (qv 1) ah)))
(ag (aB 3 gf.nd (XL (ao (qv 1) ah)))
(ag (aR (QPW.pt (Ee (tX (qv 2) ah) (Ee (bE Aw tu (bB _) (ZB (bW T.cK (ae (qv 3) aw))) (ZB (bW T.cK (ae (ZB (aJ (gL T) hr T.gC (ae (qv 0) aw))) aw)))) (Js (tX (ZB (NH T.QU (qv 3))) ah)))))
(ai zY)
aF)
(ag (bc (g:=(Tg.tp [4,5])) PassesOwn.never U (tZ T.bh (aJ (Ey T) hr T.zx (ae (qv 0) aw))) (cM (aZ 4 gf.nd) (aZ 5 gf.nd))
(ai (aR (tX (ZB (bK (fk U U) iS ba T.vg bn (ae (ZB (bI U (zZ (ao (qv 5) ah)) (N':=["place","weight","numbers"]) (.own U (.own U (.got (i:=3) U U (.inl U) .nil))) (bA (g:=(Tg.tp [0,1])) (λ_ _ _ _ _=>((cM (cb 0) (cb 1)),(bJ (qv 1) (ao (qv 2) (qv 0)))))))) aw))) (ZB (bJ (qv 2) (ao (qv 5) ah))))
(ai zY)
aF)))
(ai (aE qm)))))),λts Q h=>?_
 let(ks,fs,xs,zs,us,parts,ns,U,V,a0,a3,p1,hl,hn,aW,hq):=h;have XG:=V.lus;refine(_,U,U,_,U,jb ns,aI (λg1=>absurd (of_decide_eq_true g1) ap) λ_=>?_);refine(ks,fs,xs,U,V.p,V.u,U,aI (λg2=>?_) λ_=>(ns,U,λmn aP=>aI (λg3=>?_) λ_=>?_))
 ·rw[V.e,cU,cU,hl,decide_eq_true rfl]at g2;cases g2
 ·have g3:mn<0:=of_decide_eq_true g3;by_cases ay:ns=[]
  ·have:=aP.1 ay;lia
  have:=hn mn (aP.2 ay).1;lia
 refine(ks,fs,xs,zs,us,U,V.p,V.u,V.z,V.e,V.l,λys ak a4=>?_);generalize dY ks fs (plD us) 0 zs=rs at aW ak;refine(λc q=>Ea2 λ(o4 o5:Sl)=>q=[.r (tPr ks fs),.r (.t [.i parts,.t (ns.map .i)]),.o (.i parts),.o (.t (ns.map .i)),o4,o5],(_,_,U),?_,?_)
 ·rintro c y q hy ⟨o4,o5,rfl⟩;let(z,hz,U):=bM hy;have aQ:c<rs.length:=by rw[<- ak.ln];exact(jm.mp hz).1
  have av:rs[c]?=Z rs[c]:=dQ aQ;have hR:=ak.ok c _ _ hz av;have hle:=dh.mp aW _ (P1 aQ);generalize rs[c]=r at av hR hle;let(h1,_,h3):=hR;refine(_,U,_,U,?_);refine(bL (by rw[cU,cU];lia),λj ys=>ys=((r.ws.take j).map λp=>p.2*ns.getD p.1.toNat 0).map .i,U,?_,?_)
  ·rintro j y ys hy rfl;rw[tr,fN]at hy;let(p,hp,U):=gV.mp hy;let(jj,e1,e2):=h1 p (g5 hp);have ar:jj<ns.length:=ap;have en:ns.getD p.1.toNat 0=ns[jj]:=by rw[e1,P4,zu,dQ ar];rfl
   have ea:atI (ns.map ϛ) p.1=Z (.i ns[jj]):=by rw[e1];exact br (by rw[fN,dQ ar];rfl)
   refine(_,U,_,ea,.inr (a3 _ (P1 ar)),?_);rw[p7,hp,ky,ky];show _=_++[ϛ (p.2*ns.getD p.1.toNat 0)];rw[en]
  rintro ys rfl;rw[cU,cU,ox];refine(_,L2.ins_map _,_,U,.inl a0,aI (λg=>?_) λg=>(_,_,U));have g:iD ns r.ws<parts*r.sp:=of_decide_eq_true g;lia
 rintro q ⟨o4,o5,rfl⟩;exact hq
inductive Vy(ts:ϓ)(Q:ϕ):Prop
 |mk(p1 p2 u v:Int)(a b:Ψ)(h1:ts=[.t [.i p1,.t (a.map .i)],.t [.i p2,.t (b.map .i)],.i u,.i v])(h2:a.length=b.length)(h3:a.length<=16000000)(h4:Sm u)(h5:Sm v)(h6:Sm p1)(h7:Sm p2)(h8:Q (.t [.i ((u+v)*p1*p2),.t ((i9 (u*p2) (v*p1) a b).map .i)]))
theorem SO(T:Txt K mg a):bg P w K mg base CX0 1 a.E1 a.QQ [Ty,Tu,ST,SZ] (spQ K Vy):=by
 exists T.Q5,IU,hu,(ag (dF (i:=4) IU.nd U (Or.inl U) U (RP U T.L4 bn (ae (ao (qv 0) ah) (ae (ao (qv 1) ah) aw))) (N':=["_law_a","_law_b",ST,Tu,SZ,Ty]) (.own U (.own U (.got (i:=2) U U (.inl U) (.got (i:=1) U U (.inl U) (.got (i:=3) U U (.inl U) (.got (i:=0) U U (.inl U) .nil)))))) (bA (g:=(Tg.tp [0,1])) (λ_ _ _ _ _=>((cM (cb 0) (cb 1)),(aS (ZB (bJ (ZB (bJ (qv 2) (qv 0))) (ao (qv 3) ah))) (ZB (bJ (ZB (bJ (qv 4) (qv 1))) (ao (qv 5) ah))))))))
(ai (aE (aq (af (bJ (ZB (bJ (ZB (aS (qv 2) (qv 3))) (ao (qv 0) ah))) (ao (qv 1) ah)) (af (aL (bN U) b7 ba T.cE bn (ae (qv 4) aw)) aj)))))),λts Q h=>?_
 let(p1,p2,u,v,a,b,U,hl,ak,su,V,s1,s2,hq):=h;refine(_,U,_,U,?_);show CompI _ _ _ _ _ _ (sJ (a.map ϛ) (b.map ϛ));have lz:(i9 (u*p2) (v*p1) a b).length=b.length:=EE hl;refine(hV (by rw[mP,cU,cU];omega),λc ys=>ys=((i9 (u*p2) (v*p1) a b).take c).map .i,U,?_,?_)
 ·rintro c y ys hy rfl;let(z1,z2,h1,h2,U):=DN hy;rw[fN]at h1 h2;let(z,g1,U):=gV.mp h1;let(q,g2,U):=gV.mp h2;have gz:(i9 (u*p2) (v*p1) a b)[c]?=Z (u*z*p2+v*q*p1):=by unfold i9;rw[fN,show(a.zip b)[c]?=Z (z,q)from Fq.mpr (g1,g2)];show Z (_:Int)=Z _;congr 1;grind
  refine(_,U,.inl su,_,U,.inr s2,.inl V,_,U,.inr s1,?_);rw[p7,gz,ky];rfl
 rintro ys rfl;rw[mP,cU,cU,hl,Nat.min_self,<- lz,ox];exact(_,U,.inr s1,_,U,.inr s2,jb _,hq)
structure Kept(ks:ϖ)(fs:ϗ)(xs:List (Fn×Ϙ))(zs:List (Fn×List Nod))(us:List Fam)(ns:Ψ)(parts:Int)(ώ C:Int):Prop where
 pap:Pap ks fs xs us ns
 c:PrC ks fs xs zs us
 p1:1<=parts
 p2:parts<=C
 nb:∀y∈ns,0<=y/\y<=ώ
 ok:bY parts ns 0 (dY ks fs (plD us) 0 zs)=Y
inductive Gx(ts:ϓ)(Q:ϕ):Prop
 |mk(h1:ts=[.cz,.i 2,.i 6,.i 4])(h2:∀(ks:ϖ)(fs:ϗ)(xs:List (Fn×Ϙ))(zs:List (Fn×List Nod))(us:List Fam)(ns:Ψ)(parts:Int)(ys:ϓ),Kept ks fs xs zs us ns parts 100020000 6->iI ks->fs ≠ []->fs.length<=2->0<us.length->us.length<=16000000->Rws us.length ys (dY ks fs (plD us) 0 zs)->Q (.t [tPr ks fs,.zl ys,.t [.i parts,.t (ns.map .i)]]))
theorem sz6:sz 6<=100:=bi
theorem CP(T:Txt K mg a):bg P w K mg base CX0 100 a.kW a.xf [We,Re,WF,Sa] (spQ K Gx):=by
 exists T.xv,ck,hu,(ag (aB 4 ck.nd (aJ (CO T) hr T.xu (ae (qv 0) (ae (qv 1) (ae (qv 2) aw)))))
(ag (aB 5 ck.nd (rR (aJ (Ey T) hr T.zx (ae (qv 4) aw))))
(ag (aB 6 ck.nd (bW T.cK (ae (ZB (aJ (gL T) hr T.gC (ae (qv 4) aw))) aw)))
(ag (aB 7 ck.nd (aS ah (ZB (aJ (fj (dq T)) hr T.a6 (ae (qv 0) (ae (ZB (i3 (aO (af bw (af bw aj))) (ZB (aJ (fj (dq T)) hr T.a6 (ae (qv 0) (ae ah aw)))))) aw))))))
(ag (aB 8 ck.nd (t6 (aJ (pK T) hr T.oG (ae (qv 0) (ae (qv 5) (ae (qv 7) (ae (ZB (rR (ye (ZB (aO (af bw aj))) (qv 6)))) (ae ah aw))))))))
(ag (aR (bE pE kM (bB _) (qv 8) (ZB cu))
(ag (dF (i:=9) ck.nd U (Or.inl U) U (dM (ao (qv 4) ah)) (N':=[Ty]) (.own U .nil) (bA (g:=(Tg.nm 0)) (λ_ _ _ _ _=>((cb 0),(aS (ZB (gi (qv 0) kO (gH ah))) (ZB (aq (af (aJ (qU T 92) hr T.fb (ae (ao (qv 0) ah) aw)) aj))))))))
(ag (aB 4 ck.nd (aq (af (XL (ao (qv 4) ah)) (af (aL (bN U) b7 ba T.cE bn (ae (qv 9) aw)) aj))))
(ag (aB 5 ck.nd (rR (aJ (Ey T) hr T.zx (ae (qv 4) aw))))
(ai (aB 8 ck.nd (rR (ye (ZB (aO (af bw aj))) (qv 6))))))))
aF)
(ag (aB 8 ck.nd (aJ (wQ T) hr T.vF (ae (qv 0) (ae (qv 5) (ae (qv 7) (ae (qv 8) (ae (qv 3) aw)))))))
(ai (aE (aq (af (XL (qv 4)) (af (XL (qv 5)) (af (aq (af (XL (qv 7)) (af (aL (bN U) sY ba T.cE bn (ae (qv 8) aw)) aj))) aj))))))))))))),λts Q h=>?_
 let(U,hq):=h;refine(2,6,U,ac,ac,ac,ac,λks fs p gk a5 hsz aQ bT=>?_);let(xs,zs,hU,hN):=H0 p (λf hf=>sF (hsz f hf) sz6) (by have:fs.length<=2:=aQ;lia) bT;let(us,e1,e2):=MQ (ks:=ks) (xs:=xs);have hC:PrC ks fs xs zs us:=(p,hU,hN,e1,λu hu=>(e2 u hu).1);have XG:=hC.lus;refine(ks,fs,xs,zs,us,U,p,hU,hN,e1,(λu hu=>(e2 u hu).1),λys a4 c3=>(a4.pln,?_));refine(ks,fs,xs,U,p,hU,?_);show _;rw[e1];refine(ac,ac,λr0 a0 b0=>?_);obtain⟨v0,c2,c4⟩:∃v:Int,atI [ϛ 1,.i 6] r0=Z (.i v)/\(v=1\/v=6):=by
  obtain rfl|rfl:=(by lia:r0=0\/r0=1)
  ·exact(1,U,.inl U)
  exact(6,U,.inr U)
 refine(_,c2,ap,ap,λpr q0 q1=>?_);have O8:0<us.length:=by
  obtain⟨f,r,rfl⟩:∃f r,fs=f::r:=by cases fs with|nil=>exact absurd U a5|cons f r=>exact(f,r,U)
  have hl:0<xs.length:=by have:=congrArg HH hU.fn;simp at this;lia
  have:=(UOk.of hU (dQ hl)).fst 0 f U;rw[e1]at this;exact Yb.mpr λe=>by rw[e]at this;cases this
 have er:rG (((us.map fC).length:Int)).toNat (ϛ 0)=(rG us.length (0:Int)).map .i:=by rw[List.map_replicate,cU,P4]
 have z0:∀y∈rG us.length (0:Int),0<=y/\y<=100000000:=λy hy=>by rw[(List.mem_replicate.mp hy).2];exact(ac,ac)
 have aP:(rG us.length (0:Int)).length=us.length:=YS;have rest:∀(fs':ϗ)(ak:List (Fn×Ϙ))(V:List (Fn×List Nod))(ar:ϓ)(ns':Ψ)(o9:Sl),PrC ks fs' ak V us->fs' ≠ []->fs'.length<=2->Rws us.length ar (dY ks fs' (plD us) 0 V)->ns'.length=us.length->(∀y∈ns',0<=y/\y<=100000000)->bY (1+pr) ns' 0 (dY ks fs' (plD us) 0 V)=Y ->
   jD (iw 8 (cH ua (az (aG 0) (az (aG 5) (az (aG 7) (az (aG 8) (az (aG 3) bP)))))))
    (λD q=>jC (az (qIm (aG 4)) (az (qIm (aG 5)) (az (jC (az (qIm (aG 7)) (az (qCB yi (az (aG 8) bP)) bP))) bP))) q D.rt) (dZ.fn Q)
    [.r .cz,.r (.i 2),.r (.i 6),.r (.i 4),.o (tPr ks fs'),.o (.zl ar),.o (.i ((us.map fC).length:Int)),.o (.i (1+pr)),.o (.zl (ns'.map .i)),o9]:=by
  intro fs' ak V ar ns' o9 a3 Lq bh hR bD hb hF;have p':=a3.p;have cP:(tPr ks fs').im=true:=by show((tKs ks).im&&(ϙ (fs'.map tF)&&O))=O;rw[jc,mj λf hf=>(p'.sn f hf).1.im];rfl
  refine(ar,dY ks fs' (plD us) 0 V,1+pr,4,ns',100000000,U,by rw[bD];exact hR,ap,ap,ac,ac,hb,ap,ap,ac,λbt cR cV c0=>?_);exact(cP,U,U,jb bt,hq ks fs' ak V us bt (1+pr) ar ((p',a3.u,a3.e,by rw[cR,bD]),a3,ap,ap,cV,c0 hF) gk Lq bh O8 ap hR)
 refine(U,Yn _,?p1,?p2);case p1=>rw[cU];lia
 case p2 =>
  rw[er];refine(i4 _,ys,_,1+pr,100000000,24,rG us.length 0,_,U,U,by rw[aP];exact a4,ap,ap,z0,ac,ac,by rw[aP];lia,ac,?_,λns' bh cX c1=>?_)
  ·have cQ:∀f∈fs,f.2.1.im=true:=λf hf=>(p.sn f hf).1.im;refine(_,U,bL (by rw[cU];have:=p.l8;lia),λi ys=>∃fs':ϗ,ys=fs'.map tF/\fs'.length=i/\∀(j:Nat)(f f':Fn),fs[j]?=Z f->fs'[j]?=Z f'->f'.1=f.1/\f'.2.2=f.2.2/\Snd ks (fs.map (·.1)) f.1.2.2 f.2.2 f.1.2.1 f'.2.1/\(∀M,Dep M f.2.1->Dep M f'.2.1)/\∃os,dw O ks (fs.map (·.1)) f.1.2.1 f.2.1 os/\dw ϊ ks (fs.map (·.1)) f.1.2.1 f'.2.1 os,([],U,U,λj _ _ _ h=>by simp at h),?_,?_)
   ·rintro i y ys hy ⟨fs',rfl,hl,hF⟩;rw[fN]at hy;let(f,hf,U):=gV.mp hy;have bp:=g5 hf;have ct:ϙ [Ϛ f.1.1,.t (f.1.2.1.map tP),.s f.1.2.2,f.2.1]=true:=by show(O&&(ϙ (f.1.2.1.map tP)&&(O&&(f.2.1.im&&O))))=O;rw[aV eO,cQ f bp];rfl
    have cA:ϙ [Ϛ f.1.1,.t (f.1.2.1.map tP),.s f.1.2.2]=true:=by show(O&&(ϙ (f.1.2.1.map tP)&&(O&&O)))=O;rw[aV eO];rfl
    refine(_,U,ct,_,U,ks,fs.map (·.1),f.1.2.2,f.2.2,f.1.2.1,f.2.1,U,p.gk,(p.sn f bp).1,p.dp f bp,λb' h1 h2 h3=>?_);refine((by show 4<=mu;decide),cA,(by show(b'.im&&O)=O;rw[h1.im];rfl),fs'++[(f.1,b',f.2.2)],by rw[ky];rfl,by rw[j3,hl];rfl,λj a1 a2 q1 q2=>?_);by_cases hj:j<fs'.length
    ·rw[u6 hj]at q2;exact hF j a1 a2 q1 q2
    rw[vr ap]at q2;have:j=fs'.length:=by have:=(jm.mp q2).1;simp at this;lia
    subst this;rw[Zo]at q2;cases q2;rw[hl,hf]at q1;cases q1;exact(U,U,h1,h2,h3)
   rintro ar ⟨fs',rfl,hl,hF⟩;rw[cU]at hl;have FS:kG ks fs fs':=(hl,hF);have p':=FS.prog p;have Lq:fs' ≠ []:=λe=>a5 (vq.mp (by rw[<- hl,e];rfl));let(ak,V,aW,ay):=H0 p' (λf' av=>by let(j,f,g0,g1):=FS.old av;rw[(hF j f f' g0 g1).2.1];exact sF (hsz f (g5 g0)) sz6) (by have:fs.length<=2:=aQ;lia) λf' av=>by
    let(j,f,g0,g1):=FS.old av;exact(hF j f f' g0 g1).2.2.2.1 _ (bT f (g5 g0))
   have eU:=(FS.unk p hU aW).trans e1;have np:∀z∈V,∀e∈z.2,zp e.b:=λz hz=>by
    let(i,hi,e):=ri hz;have lx:ak.length=fs'.length:=by rw[<- aW.fn,cU]
    have lz:V.length=fs'.length:=by rw[<- ay.fn,cU]
    have hx:ak[i]?=Z (ak[i]' ap):=dQ _;exact FS.np p (by rw[<- ay.fn];exact kf.mpr (z,hz,U)) (ay.ok i _ z hx (by rw[dQ hi,e])).1
   refine(_,U,jc ks,mj λf' av=>(p'.sn f' av).1.im,?_);refine(ks,fs',ak,V,us,U,p',aW,ay,eU,(λu hu=>(e2 u hu).1),λcq V1 _=>(V1.pln,?_));refine(U,Yn _,?q1,?q2);case q1=>rw[cU];lia
   case q2 =>rw[er];exact(i4 _,rest fs' ak V cq (rG us.length 0) _ (p',aW,ay,eU,λu hu=>(e2 u hu).1) Lq (by rw[hl];exact aQ) V1 aP z0 (A4 ap (Bu λz hz=>np z hz)))
  exact(i4 ns',rest fs xs zs ys ns' _ hC a5 aQ a4 (by rw[bh,aP]) cX c1)
theorem AH{x y X ύ:Int}(h0:0<=x)(h1:x<=X)(h2:0<=y)(h3:y<=ύ):0<=x*y/\x*y<=X*ύ:=(ZX h0 h2,Int.mul_le_mul h1 h3 h2 (Y7 h0 h1))
theorem DP{p p1 p2:Fam->Int}{v:Int}(h:∀f,p f=u*p1 f+v*p2 f){fam:Fam}{t:Vl}:wgt p fam t=u*wgt p1 fam t+v*wgt p2 fam t:=by unfold wgt;induction t.ms with|nil=>simp|cons m r g=>rw[ro,ro,ro,vx,vx,vx,g,h];grind
theorem Bt{p p1 p2:Fam->Int}{u v:Int}(h:∀f,p f=u*p1 f+v*p2 f){f:Nat}:∀{vs:List Vl}{k:Nat},mD p f k vs=u*mD p1 f k vs+v*mD p2 f k vs
 |[],k=>by show(0)=u*0+v*0;simp|t::vs,k=>by
  show wgt p _ t+mD p f (k+1) vs=u*(wgt p1 _ t+mD p1 f (k+1) vs)+v*(wgt p2 _ t+mD p2 f (k+1) vs);rw[DP h,Bt h];grind
theorem OQ{v ϊ:Int}{a:Ψ}{ώ:Int}(K:0<=u)(q:u<=ϊ)(hv:0<=v)(g:v<=ϊ)(Q:∀y∈a,0<=y/\y<=ώ)(P:∀y∈b,0<=y/\y<=ώ):∀y∈i9 u v a b,0<=y/\y<=ϊ*ώ+ϊ*ώ:=λy z=>by
 let(p,hp,U):=kf.mp z;have h1:=Q p.1 (Yw hp).1;have h2:=P p.2 (Yw hp).2;have g1:=AH K q h1.1 h1.2;have g2:=AH hv g h2.1 h2.2;exact(ap,ap)
inductive jZ(ts:ϓ)(Q:ϕ):Prop
 |mk(ks:ϖ)(fs:ϗ)(xs:List (Fn×Ϙ))(zs:List (Fn×List Nod))(us:List Fam)(p1 p2 u v:Int)(a b:Ψ)(h1:ts=[.cz,tPr ks fs,.t [.i p1,.t (a.map .i)],.t [.i p2,.t (b.map .i)],.i u,.i v])(h2:Kept ks fs xs zs us a p1 700000000 36)(h3:Kept ks fs xs zs us b p2 700000000 36)(h4:iI ks)(h5:us.length<=16000000)(h6:0<=u)(h7:u<=4)(h8:0<=v)(h9:v<=4)(h10:1<=u+v)(h11:Q (.b O))
theorem Kz(T:Txt K mg a):bg P w K mg base CX0 30 a.sx a.Fd [We,SB,Ty,Tu,ST,SZ] (spQ K jZ):=by
 exists T.zy,dA,hu,(ag (aB 6 dA.nd (aJ (SO T) hr T.Q5 (ae (qv 2) (ae (qv 3) (ae (qv 4) (ae (qv 5) aw))))))
(ag (aR (bE Ox IF (bB _) (ZB (aJ (CQ T) hr T.xw (ae (qv 1) (ae (qv 6) aw)))) (ZB qm))
(ai (aE qm))
aF)
(ag (aB 7 dA.nd (aJ (AB T) hr T.zw (ae (ao (qv 1) ah) aw)))
(ag (bc (g:=(Tg.tp [8,9])) PassesOwn.never U (iZ U T.bh bn (ae (ao (qv 1) ah) aw)) (cM (aZ 8 dA.nd) (aZ 9 dA.nd))
(ag (aB 10 dA.nd (aJ (OL T) hr T.My (ae (qv 0) (ae (qv 1) (ae (qv 8) (ae ah aw))))))
(ag (aR (bE nt jJ (bB _) (qv 10) (ZB cu))
(ag (aB 11 dA.nd (aS (ZB (bJ (ZB (bJ (qv 4) (ZB (aJ (OJ T) hr T.zB (ae (qv 1) (ae (qv 2) (ae (qv 8) (ae (qv 10) aw)))))))) (ao (qv 3) ah))) (ZB (bJ (ZB (bJ (qv 5) (ZB (aJ (OJ T) hr T.zB (ae (qv 1) (ae (qv 3) (ae (qv 8) (ae (qv 10) aw)))))))) (ao (qv 2) ah)))))
(ai (aR (bE Aw tu (bB _) (ZB (aJ (OJ T) hr T.zB (ae (qv 1) (ae (qv 6) (ae (qv 8) (ae (qv 10) aw)))))) (qv 11))
(ai (aE qm))
aF)))
aF)
(ai (aR (bE (uk hu) mW U (ao (qv 9) ah) (qv 7))
(ag (aB 12 dA.nd (aJ (Ay T 24) hr T.sG (ae (qv 0) (ae (ao (qv 1) ah) (ae (qv 7) (ae (ao (qv 9) ah) (ae (ZB (aJ (fj (dq T)) hr T.a6 (ae (qv 0) (ae ah aw)))) aw)))))))
(ag (aB 11 dA.nd (bJ (ZB (bJ (qv 4) (ZB (aJ (Ky T) hr T.sH (ae (qv 1) (ae (qv 2) (ae (qv 8) (ae (qv 12) aw)))))))) (ao (qv 3) ah)))
(ag (aB 11 dA.nd (aS (qv 11) (ZB (bJ (ZB (bJ (qv 5) (ZB (aJ (Ky T) hr T.sH (ae (qv 1) (ae (qv 3) (ae (qv 8) (ae (qv 12) aw)))))))) (ao (qv 2) ah)))))
(ai (aR (bE Aw tu (bB _) (ZB (aJ (Ky T) hr T.sH (ae (qv 1) (ae (qv 6) (ae (qv 8) (ae (qv 12) aw)))))) (qv 11))
(ai (aE qm))
aF)))))
aF)))))
(ai (aE qm)))))),λts Q h=>?_
 let(ks,fs,xs,zs,us,p1,p2,u,v,a,b,U,ha,hb,gk,a3,u0,u4,v0,v4,a4,hq):=h;have hl:a.length=b.length:=by rw[<- ha.pap.l,hb.pap.l]
 have a1:=ha.p1;have a2:=ha.p2;have b1:=hb.p1;have b2:=hb.p2;have e1:=AH (x:=u+v) (X:=8) (y:=p1) (ύ:=36) ap ap ap a2;have e2:=AH (x:=(u+v)*p1) (X:=288) (y:=p2) (ύ:=36) e1.1 ap ap b2;have q1:=AH (x:=u) (X:=4) (y:=p2) (ύ:=36) u0 u4 ap b2;have q2:=AH (x:=v) (X:=4) (y:=p1) (ύ:=36) v0 v4 ap a2;have hm:=OQ (a:=a) (b:=b) (ϊ:=144) (ώ:=700000000) q1.1 ap q2.1 ap ha.nb hb.nb;have ml:(i9 (u*p2) (v*p1) a b).length=us.length:=by rw[EE hl,hb.pap.l]
 have pos:1 <=(u+v)*p1*p2:=Int.mul_pos (Int.mul_pos ap ap) ap;have hX:Pap ks fs xs us (i9 (u*p2) (v*p1) a b):=(ha.pap.p,ha.pap.u,ha.pap.e,ml.symm);have aP:∀f,pz us (i9 (u*p2) (v*p1) a b) f=u*p2*pz us a f+v*p1*pz us b f:=λf=>SW hl;have sm:∀{x:Int},0<=x->x<=300000000000->Sm x:=λh1 h2=>(ap,ap);refine(p1,p2,u,v,a,b,U,hl,by rw[<- ha.pap.l];exact a3,sm u0 ap,sm v0 ap,sm ap ap,sm ap ap,?_);refine(ks,fs,xs,zs,us,_,_,U,ha.c,sm e2.1 ap,λy hy=>sm (hm y hy).1 (by have:=(hm y hy).2;lia),pos,ml,λy hy=>(hm y hy).1,Dg hl u0 v0 ap ap ha.ok hb.ok,?_);have a0:ϙ (fs.map tF)=true:=mj λf hf=>(ha.pap.p.sn f hf).1.im;have nn:∀{x y:Int},x=y->¬(!decide ((ϛ x).v=(ϛ y).v))=true:=λe z=>by rw[e,decide_eq_true rfl]at z;cases z
 have nb:∀R:ϕ,R (.b ϊ)->qC (.b O) ([]:Sq) (λt=>JJ (.b O) t R):=λR h=>h;refine nb _ (aI (c:=ϊ=O) (λz=>nomatch z) λ_=>?_);refine(_,U,ks,U,gk,λds hI=>?_);refine(_,U,a0,λc q=>Ea5 λ(o8 o9 ar ak V:Sl)=>q=[.r .cz,.r (tPr ks fs),.r (.t [.i p1,.t (a.map .i)]),.r (.t [.i p2,.t (b.map .i)]),.r (.i u),.r (.i v),.o (.t [.i ((u+v)*p1*p2),.t ((i9 (u*p2) (v*p1) a b).map .i)]),.o (dT ds),o8,o9,ar,ak,V],(_,_,_,_,_,U),?_,?_)
 ·rintro c y q hy ⟨o8,o9,ar,ak,V,rfl⟩;let(z,hz,U):=bM hy;rw[fN]at hz;let(f,hf,U):=gV.mp hz;have su:=sm u0 ap;have sv:=sm v0 ap;have s1:Sm p1:=sm ap ap;have s2:Sm p2:=sm ap ap;have rest:∀(D:dZ)(ar ak V:Sl),(∀ar ak V:Sl,D.nx [.r .cz,.r (tPr ks fs),.r (.t [.i p1,.t (a.map .i)]),.r (.t [.i p2,.t (b.map .i)]),.r (.i u),.r (.i v),.o (.t [.i ((u+v)*p1*p2),.t ((i9 (u*p2) (v*p1) a b).map .i)]),.o (dT ds),.r (iN c),.r (tF f),ar,ak,V]) ->
    Ac (jW (qOp (JP ϊ) (qOp qIx (aG 9) (qC (ϛ 2))) (aG 7)))
     (jD (iw 12 (cH (Qj 24) (az (aG 0) (az (qOp qIx (aG 1) (qC (ϛ 0))) (az (aG 7) (az (qOp qIx (aG 9) (qC (ϛ 2))) (az (cH j4 (az (aG 0) (az (qC (ϛ 12)) bP))) bP)))))))
(jD (iw 11 (qOp Aa (qOp Aa (aG 4) (cH rV (az (aG 1) (az (aG 2) (az (aG 8) (az (aG 12) bP)))))) (qOp qIx (aG 3) (qC (ϛ 0)))))
(jD (iw 11 (qOp k7 (aG 11) (qOp Aa (qOp Aa (aG 5) (cH rV (az (aG 1) (az (aG 3) (az (aG 8) (az (aG 12) bP)))))) (qOp qIx (aG 2) (qC (ϛ 0))))))
(Ac (jW (qOp qNe (cH rV (az (aG 1) (az (aG 6) (az (aG 8) (az (aG 12) bP))))) (aG 11))) (λD q=>qC (L2.T.b ϊ) q D.rt) t7)))) t7 D
     [.r .cz,.r (tPr ks fs),.r (.t [.i p1,.t (a.map .i)]),.r (.t [.i p2,.t (b.map .i)]),.r (.i u),.r (.i v),.o (.t [.i ((u+v)*p1*p2),.t ((i9 (u*p2) (v*p1) a b).map .i)]),.o (dT ds),.r (iN c),.r (tF f),ar,ak,V]:=by
   intro D ar ak V hD;cases ay:lk ds f.1.2.2 with
   |none =>
    have av:¬(bH (ds.map dEn) (.inr f.1.2.2)).isSome=true:=by rw[eD,ay];exact λz=>nomatch z
    exact(_,U,aI (λz=>absurd z av) λ_=>hD _ _ _)
   |some w =>
    have av:(bH (ds.map dEn) (.inr f.1.2.2)).isSome=true:=by rw[eD,ay];rfl
    let(u1,u2):=hI.bd _ (ia ay);have b3:=zg (hI.len gk);have b4:bnd 3=21:=rfl;dsimp only at u1 u2;refine(_,U,aI (λ_=>?_) λz=>absurd av z);refine(_,U,_,U,ac,ac,λr r0 r1=>(ks,ds,f.1.2.2,r,w,U,gk,hI,ay,ap,ap,ac,λt h1 h2=>?_));have t1:=sP (a:=r.toNat) (b:=19) ap;have t2:tri 19=171:=rfl;refine(ks,fs,xs,us,a,p1,c,f,t,U,ha.pap,hf,h1,ap,.inl su,_,U,.inr s2,?_);refine(ks,fs,xs,us,b,p2,c,f,t,U,hb.pap,hf,h1,ap,.inl sv,_,U,.inr s1,?_);refine(ks,fs,xs,us,_,_,c,f,t,U,hX,hf,h1,ap,U,aI (λz=>absurd z (nn ?_)) λ_=>hD _ _ _);rw[aP,DP aP];grind
  refine(_,U,?_);refine(ks,fs,c,f,U,ha.pap.p,gk,hf,?_,λvs aW aQ=>?_)
  ·exact rest _ _ _ _ λ_ _ _=>(_,_,_,_,_,U)
  refine(ks,fs,xs,us,a,p1,c,f,_,vs,U,ha.pap,hf,.l,(aW,aQ),.inl su,_,U,.inr s2,?_);refine(ks,fs,xs,us,b,p2,c,f,_,vs,U,hb.pap,hf,.l,(aW,aQ),.inl sv,_,U,.inr s1,?_);refine(ks,fs,xs,us,_,_,c,f,_,vs,U,hX,hf,.l,(aW,aQ),U,aI (λz=>absurd z (nn ?_)) λ_=>rest _ _ _ _ λ_ _ _=>(_,_,_,_,_,U));rw[aP,Bt aP];grind
 rintro q ⟨o8,o9,ar,ak,V,rfl⟩;exact hq
theorem SQ(T:Txt K mg a):bg P w K mg base CX0 110 a.xa a.QR [SL] (sW K):=by
 refine T.WR.F.Xn (n:=8) (s1:=(cy qj).headD (.Pass (0,0,0,0))) (rest:=(cy qj).tail) fH U U (λ_ _ _ _ _ _ hr=>?_);have hu:=bo hr;refine(_,_,_,(jX (i:=1) fH.nd U (Or.inl U) (Er (OG T) (hr.mono ac) U T.zA.m T.zA.F.kp T.zA.b .nil Km (cn (pv 0) (cn bX eB)))),((ag (l5 (g:=(Tg.tp [2,3,4])) (ZB (aJ (CP T) hr T.xv (ae (qv 1) (ae ah (ae ah (ae ah aw)))))) (i6 (K:=K) (n:=3) U U (bG (aZ 2 fH.nd) (bG (aZ 3 fH.nd) (bG (aZ 4 fH.nd) i5)))))
(ag (aB 5 fH.nd (aS ah (ZB (aJ (fj (dq T)) hr T.a6 (ae (qv 1) (ae ah aw))))))
(ag (aB 6 fH.nd (t6 (aJ (pK T) hr T.oG (ae (qv 1) (ae (qv 3) (ae (qv 5) (ae (ZB (ye (ZB (aO (af bw aj))) (ZB (bW T.cK (ae (ao (qv 4) ah) aw))))) (ae ah aw))))))))
(ag (aR (bE pE kM (bB _) (qv 6) (ZB cu))
(ag (Jv (i:=6) fH.nd U (Or.inl U) U (dM (ao (qv 4) ah)) (N':=["_law_number",Tm]) (.own U (.got (i:=5) U U (.inl U) .nil)) (bA (g:=(Tg.nm 0)) (λ_ _ _ _ _=>((cb 0),(bJ (qv 0) (qv 1))))))
(ai (aB 5 fH.nd (bJ (ao (qv 4) ah) (qv 5)))))
aF)
(ag (aB 7 fH.nd (aq (af (XL (qv 5)) (af (aL (bN U) sY ba T.cE bn (ae (ZB (aJ (wQ T) hr T.vF (ae (qv 1) (ae (qv 3) (ae (qv 5) (ae (qv 6) (ae ah aw))))))) aw)) aj))))
(ag (aB 8 fH.nd (aJ (fj (dq T)) hr T.a6 (ae (qv 1) (ae ah aw))))
(ag (aB 9 fH.nd (bK (fq U) lR ba T.vh bn (ae (ZB (aJ (fj (dq T)) hr T.a6 (ae (qv 1) (ae ah aw)))) (ae (ZB (aL iG mV ba T.Bq bn (ae (ZB (jV (yy hu U) rL (bB _) (qv 8) ah)) aw))) aw))))
(ai (aE (RT (ZB (aJ (Kz T) hr T.zy (ae (qv 1) (ae (qv 2) (ae (qv 4) (ae (qv 7) (ae (qv 8) (ae (qv 9) aw)))))))) (RR (aJ (Kz T) hr T.zy (ae (qv 1) (ae (qv 2) (ae (qv 7) (ae (qv 4) (ae (qv 9) (ae (qv 8) aw))))))))))))))))))),λp0 ns D hS hlen k=>?_,λns hlen=>?_)
 ·refine(_,U,p0,ns,_,U,hS,hlen,ac,ac,λd l H1 fd fl D1 s1=>?_);exact k d l H1 fd fl D1 s1
 refine(U,λks fs xs zs us ns parts ys z gk b0 cq O8 ay av=>?_);have aP:(Ϝ [tPr ks fs,L2.T.zl ys,Ϝ [ϛ parts,Ϝ (ns.map .i)]]).im=true:=by show(((tKs ks).im&&(ϙ (fs.map tF)&&O))&&(O&&((O&&(ϙ (ns.map .i)&&O))&&O)))=O;rw[jc,mj λf hf=>(z.pap.p.sn f hf).1.im,jb];rfl
 have ct:=z.p1;have bt:=z.p2;have aQ:=z.pap.l;have rest:∀(o0:Sl)(V:Int)(ns':Ψ),1<=V->V<=36->ns'.length=us.length->(∀y∈ns',0<=y/\y<=600120000)->bY V ns' 0 (dY ks fs (plD us) 0 zs)=Y ->
   jD (iw 7 (jC (az (qIm (aG 5)) (az (qCB yi (az (cH ua (az (aG 1) (az (aG 3) (az (aG 5) (az (aG 6) (az (qC (ϛ 4)) bP)))))) bP)) bP))))
    (jD (iw 8 (cH j4 (az (aG 1) (az (qC (ϛ 5)) bP))))
(jD (iw 9 (qCB (qI2 λi j=>if j > i then j else i) (az (cH j4 (az (aG 1) (az (qC (ϛ 5)) bP))) (az (qCB Vn (az (qOp CD (aG 8) (qC (ϛ 0))) bP)) bP))))
λD q=>Ei (cH jZ (az (aG 1) (az (aG 2) (az (aG 4) (az (aG 7) (az (aG 8) (az (aG 9) bP)))))))
(cH jZ (az (aG 1) (az (aG 2) (az (aG 7) (az (aG 4) (az (aG 9) (az (aG 8) bP))))))) q D.rt))
    {nx:=λ_=>False,rt:=λt=>t=L2.T.b O}
    [o0,.r .cz,.r (tPr ks fs),.r (.zl ys),.r (.t [.i parts,.t (ns.map .i)]),.o (.i V),.o (.zl (ns'.map .i)),.no,.no,.no]:=by
  intro o0 V ns' h1 h2 hl hb hF;refine(U,ys,_,V,4,ns',600120000,U,by rw[hl];exact av,ap,ap,ac,ac,hb,ap,ap,ac,λak aW bh bD=>?_);have k1:Kept ks fs xs zs us ns parts 700000000 36:=(z.pap,z.c,z.p1,ap,λy Q=>by have:=z.nb y Q;lia,z.ok);have k2:Kept ks fs xs zs us ak V 700000000 36:=((z.pap.p,z.pap.u,z.pap.e,by rw[aW,hl]),z.c,h1,h2,λy Q=>by have:=bh y Q;lia,bD hF);refine(jb ak,ac,ac,λu u0 u1=>?_);have fin:∀(u vv:Int),0<=u->u<=4->0<=vv->vv<=4->1<=u+vv->Ei (cH jZ (az (aG 1) (az (aG 2) (az (aG 4) (az (aG 7) (az (aG 8) (az (aG 9) bP)))))))
    (cH jZ (az (aG 1) (az (aG 2) (az (aG 7) (az (aG 4) (az (aG 9) (az (aG 8) bP)))))))
    [o0,.r .cz,.r (tPr ks fs),.r (.zl ys),.r (.t [.i parts,.t (ns.map .i)]),.o (.i V),.o (.zl (ns'.map .i)),.o (.t [.i V,.t (ak.map .i)]),.o (.i u),.o (.i vv)] (λt=>t=L2.T.b O):=by
   intro u vv a1 a2 a3 a4 a5;refine(ks,fs,xs,zs,us,parts,V,u,vv,ns,ak,U,k1,k2,gk,ay,a1,a2,a3,a4,a5,?_);exact(ks,fs,xs,zs,us,V,parts,vv,u,ak,ns,U,k2,k1,gk,ay,a3,a4,a1,a2,ap,U)
  refine(ac,ac,λv v0 v1=>?_);obtain rfl|rfl|rfl|rfl|rfl:=(by lia:u=0\/u=1\/u=2\/u=3\/u=4)
  ·exact(U,fin 0 (if(1:Int) > v then 1 else v) ac ac (by split <;> lia) (by split <;> lia) (by split <;> lia))
  all_goals exact(U,fin _ (if(0:Int) > v then 0 else v) ac ac (by split <;> lia) (by split <;> lia) (by split <;> lia))
 refine(aP,_,U,ac,ac,λr r0 r1=>?_);have er:rG (((ns.map ϛ).length:Int)).toNat (ϛ 0)=(rG us.length (0:Int)).map .i:=by rw[List.map_replicate,cU,P4,aQ]
 have z0:∀y∈rG us.length (0:Int),0<=y/\y<=100000000:=λy Q=>by rw[(List.mem_replicate.mp Q).2];exact(ac,ac)
 have ar:(rG us.length (0:Int)).length=us.length:=YS;refine(_,U,U,Yn _,?p1,?p2);case p1=>rw[cU];lia
 case p2 =>
  rw[er];refine(ys,_,1+r,100000000,24,rG us.length 0,_,U,U,by rw[ar];exact av,ap,ap,z0,ac,ac,by rw[ar];lia,ac,?_,λns' a0 bp bT=>?_)
  ·have sk:Sm (1+r):=(ap,ap);refine(_,U,hV (by rw[cU];lia),λc ys=>ys=((ns.map (· * (1+r))).take c).map .i,U,?_,?_)
   ·rintro c y ys Q rfl;rw[fN]at Q;let(x,hx,U):=gV.mp Q;refine(_,U,.inr sk,?_);rw[p7,fN,hx,ky];rfl
   rintro ys rfl;rw[cU,<- cU (f:=(· * (1+r))),ox];have m:=AH (x:=parts) (X:=6) (y:=1+r) (ύ:=6) ap bt ap ap;have mp:0<parts*(1+r):=Int.mul_pos ap ap;refine(i4 _,_,U,.inr sk,rest _ (parts*(1+r)) (ns.map (· * (1+r))) ap ap (by rw[cU];lia) (λy Q=>?_) (yU ap z.ok));let(x,hx,U):=kf.mp Q;have hx:=z.nb x hx;have g:=AH (x:=x) (X:=100020000) (y:=1+r) (ύ:=6) hx.1 hx.2 ap ap;exact(g.1,ap)
  exact(i4 ns',rest _ _ ns' ap ap (by rw[a0,ar]) (λy Q=>by have:=bp y Q;lia) bT)
end
theorem all_mk{l:W.OpenLaw}{w:Cl}{K:BT}{h:Do}{fa:J}(X:K.In h)(G:h.Ns mainGlobals mg)(hfa:mg "law"=Z (.ref fa))
  {bD:J} (vK:W.nsIn K mainGlobals "PurseError"=Z (Z (.ref bD))) (vJ:W.keepIn K (.ref bD)=O)
  (vI:xy K fns bD (bmV) Y=O)
  {cJ:J} (BV:W.nsIn K mainGlobals "NoPaper"=Z (Z (.ref cJ))) (BR:W.keepIn K (.ref cJ)=O)
  {va:ClassData} (Ra:W.clsIn K cJ=Z va)
  (Rb:W.nsIn K va.ns "__init__"=Z (Z (.ref dr))) (BQ:LK K dr "__init__" "NoPaper.__init__" tE Qy Qx Qz QD Qw QK AY QF Qv) (BU:CI K AY "NoPaper.__init__") (BP:KI K dr) (BS:W.isFn K (.ref dr)=O)
  (BO:xy K fns cJ (.ref bD::bmV) (Z dr)=O)
  {aW:J} (Om:W.nsIn K mainGlobals "Spot"=Z (Z (.ref aW))) (Ow:W.plainGet K aW Str.empty=O) (Ov:W.hasDictIn K aW=O) (Ou:W.plainOver K aW=O)
  (Ot:W.findIn K (.ref aW) "__setattr__"=Z (Z (.builtin "object.__setattr__"))) (Oq:W.makesIn K aW=O) (Oo:W.keepIn K (.ref aW)=O)
  (vW:cf K aW "piece")
  (vX:cf K aW "above")
  (Al:cf K aW "arm")
  (yp:DM K aW "__init__" "Spot.__init__" iR dW)
  {aP:J} (Kn:W.nsIn K mainGlobals "Stand"=Z (Z (.ref aP))) (Ku:W.plainGet K aP Str.empty=O) (Kt:W.hasDictIn K aP=O) (Ks:W.plainOver K aP=O)
  (Kr:W.findIn K (.ref aP) "__setattr__"=Z (Z (.builtin "object.__setattr__"))) (Kq:W.makesIn K aP=O) (Ko:W.keepIn K (.ref aP)=O)
  (CJ:cf K aP "f")
  (vV:cf K aP "free")
  (uc:cf K aP "spent")
  (uf:cf K aP "kinds")
  (nj:cf K aP "holdings")
  (vU:DM K aP "__init__" "Stand.__init__" g6 dv)
  (xnd:decide [bD,cJ].Nodup=O)
  (AU:DY K "makers_of" jQ gS)
  (K3:DY K "within" tN nO)
  (qW:DY K "reached_kinds" fK dH)
  (qX:DY K "kind_of_maker" fL dI)
  (AR:DY K "number_of" jP gR)
  (OY:DY K "spots" xT so)
  (qV:DY K "spots_beneath" fJ dG)
  (K7:DY K "pieces" tS nT)
  (wa:DY K "kinds_ahead" g8 fB)
  (C3:DY K "bound_by" lX jg)
  (K5:DY K "stands" tQ nQ)
  (pO:DY K "stand_at_begin" fe dt)
  (yM:DY K "stand_with" iX fY)
  (uz:DY K "stand_behind" gg eR)
  (S5:DY K "uses" Cg yZ)
  (yL:DY K "taken_free" iW fX)
  (C2:DY K "spent_by" lV jf)
  (C1:DY K "unknowns" lU je)
  (v9:DY K "unknowns_of" g7 fA)
  (pP:DY K "piece_unknowns" fg du)
  (S7:DY K "rows" Ci y0)
  (C0:DY K "use_rows" lT jd)
  (K4:DY K "summed" tO nP)
  (AV:DY K "makers_in" jR gT)
  (K9:DY K "counts" tV nV)
  (G6:DY K "checked" pe kX)
  (Td:DY K "asks" Cr y8)
  (O3:DY K "asked" xY sC)
  (OX:DY K "tells" xR sj)
  (AQ:DY K "prices_of" jO gQ)
  (yK:DY K "weights_by" iV fW)
  (AO:DY K "weight_of" jN gP)
  (Ta:DY K "_law_deal" Cn y4)
  (S9:DY K "_law_draw" Cm y3)
  (OV:DY K "_law_words" xP sg)
  (O1:DY K "_law_kinds" xW sy)
  (S8:DY K "_law_fill" Ck y2)
  (O2:DY K "_law_ended" xX sA)
  (Tb:DY K "_law_case" Cp y7)
  (Tc:DY K "_law_body" Cq uS)
  (GZ:DY K "_law_program" oZ kU)
  (OU:DY K "_law_wrong" xO sf)
  (K8:DY K "_law_mended" tT nU)
  (uA:DY K "_law_free_of_pays" gh eT)
  (K6:DY K "_law_raised" tR nR)
  (G5:DY K "_law_papered" pb kW)
  (OZ:DY K "_law_sizes" xU sr)
  (OW:DY K "_law_value" xQ si)
  (Te:DY K "_law_args" Cs y9)
  (VT:DY K "_law_put" IV E1)
  (O0:DY K "_law_right" xV sx)
  (QW:NI K "law" xa) (VU:LK K xa "law" "law" qj Xa W9 Tq T3 Sz Ud LY T5 WT) (Wz:CI K LY "law") (VW:KI K xa)
  (UH:NB K "len")
  (UJ:NB K "all")
  (Q8:NB K "list")
  (MI:NB K "tuple")
  (UI:NB K "int")
  (Q9:NB K "dict")
  (BN:NB K "reversed")
  (UG:NB K "max")
  (UE:NB K "min")
  (UD:NB K "sum")
  (MJ:NB K "range")
  (UC:NB K "zip")
  (zG:NB K "enumerate")
  (xx:NB K "ValueError")
  (HN:NB K "sorted")
  {iH:J} {GO:Option J} {uD:Array B} {KO:Nat} {F6:Array (Option B)}
  (HS:W.nsIn K mainGlobals "PAYING"=Z (Z (.ref iH))) (HQ:K.lookup iH=Z (.type "tuple",GO,.seq uD KO,F6)) (zL:Vals ((["make","call","pay","give"]:Γ).map V.str) uD.toList)
  : ∃fd:Ch,(∀(s:ϋ)(v:B),BindsTo s fd ([v],[]) [("_law_script",v)])/\∀base:Do,K.In base->base.Ns mainGlobals mg->bg l.prog w K mg base CX0 110 fa fd [SL] (sW K):=by
 have e:=hfa.symm.trans (W.mg_of X G QW);cases e;have mK:=yT BQ BU BP;let(By,_,qQ):=AU;let(Mb,_,BD):=K3;let(rC,_,jx):=qW;let(rD,_,jy):=qX;let(Bx,_,qP):=AR;let(PC,_,FA):=OY;let(rB,_,jw):=qV;let(Mf,_,BH):=K7;let(wx,_,lL):=wa;let(DD,_,vB):=C3;let(Md,_,BF):=K5;let(pZ,_,iJ):=pO;let(zk,_,oB):=yM;let(vj,_,kE):=uz;let(Ue,_,Ml):=S5;let(zj,_,oA):=yL;let(DB,_,vA):=C2;let(DA,_,vz):=C1;let(wu,_,lK):=v9;let(p8,_,iK):=pP;let(Ug,_,Mm):=S7;let(Dz,_,vy):=C0;let(Mc,_,BE):=K4;let(Bz,_,qR):=AV;let(Mh,_,BJ):=K9;let(HD,_,xt):=G6;let(Um,_,Mt):=Td;let(PN,_,FG):=O3;let(PB,_,Fz):=OX;let(Bw,_,qO):=AQ;let(zi,_,oy):=yK;let(Bv,_,qN):=AO;let(Uj,_,Mq):=Ta;let(Ui,_,Mp):=S9;let(Py,_,Fx):=OV;let(PH,_,FE):=O1;let(Uh,_,Mn):=S8;let(PJ,_,FF):=O2;let(Uk,_,Mr):=Tb;let(Ul,_,Ms):=Tc;let(HB,_,xq):=GZ;let(Px,_,Fv):=OU;let(Mg,_,BI):=K8;let(vk,_,kF):=uA;let(Me,_,BG):=K6;let(HC,_,xr):=G5;let(PD,_,FC):=OZ;let(Pz,_,Fy):=OW;let(Uo,_,Mu):=Te;let(WI,_,QZ):=VT;let(PF,_,FD):=O0;have Q0:=yT VU Wz VW;let(kx,_,gZ):=yp;let(jl,_,f6):=vU;have T:Txt K mg (bD,cJ,dr,_,aW,dW,_,aP,dv,_,gS,_,nO,_,dH,_,dI,_,gR,_,so,_,dG,_,nT,_,fB,_,jg,_,nQ,_,dt,_,fY,_,eR,_,yZ,_,fX,_,jf,_,je,_,fA,_,du,_,y0,_,jd,_,nP,_,gT,_,nV,_,kX,_,y8,_,sC,_,sj,_,gQ,_,fW,_,gP,_,y4,_,y3,_,sg,_,sy,_,y2,_,sA,_,y7,_,uS,_,kU,_,sf,_,nU,_,eT,_,nR,_,kW,_,sr,_,si,_,y9,_,E1,_,sx,_,xa,_,iH):=(DO vI,W.mg_of X G vK,vJ,DO BO,W.mg_of X G BV,BR,mK,BS,mK.b2,(Ow,Ov,Ou,Ot),W.mg_of X G Om,(Oq,kx.1,kx.2,Oo),vW,vX,Al,gZ,kx,gZ.b4,(Ku,Kt,Ks,Kr),W.mg_of X G Kn,(Kq,jl.1,jl.2,Ko),CJ,vV,uc,uf,nj,f6,jl,f6.b6,of_decide_eq_true xnd,(qQ,W.mg_of X G By,qQ.b2),(BD,W.mg_of X G Mb,BD.b2),(jx,W.mg_of X G rC,jx.b2),(jy,W.mg_of X G rD,jy.b2),(qP,W.mg_of X G Bx,qP.b2),(FA,W.mg_of X G PC,FA.b1),(jw,W.mg_of X G rB,jw.b2),(BH,W.mg_of X G Mf,BH.b1),(lL,W.mg_of X G wx,lL.b2),(vB,W.mg_of X G DD,vB.b4),(BF,W.mg_of X G Md,BF.b2),(iJ,W.mg_of X G pZ,iJ.b2),(oB,W.mg_of X G zk,oB.b4),(kE,W.mg_of X G vj,kE.b5),(Ml,W.mg_of X G Ue,Ml.b4),(oA,W.mg_of X G zj,oA.b4),(vA,W.mg_of X G DB,vA.b1),(vz,W.mg_of X G DA,vz.b1),(lK,W.mg_of X G wu,lK.b3),(iK,W.mg_of X G p8,iK.b2),(Mm,W.mg_of X G Ug,Mm.b1),(vy,W.mg_of X G Dz,vy.b4),(BE,W.mg_of X G Mc,BE.b2),(qR,W.mg_of X G Bz,qR.b1),(BJ,W.mg_of X G Mh,BJ.b1),(xt,W.mg_of X G HD,xt.b2),(Mt,W.mg_of X G Um,Mt.b4),(FG,W.mg_of X G PN,FG.b4),(Fz,W.mg_of X G PB,Fz.b4),(qO,W.mg_of X G Bw,qO.b2),(oy,W.mg_of X G zi,oy.b4),(qN,W.mg_of X G Bv,qN.b2),(Mq,W.mg_of X G Uj,Mq.b2),(Mp,W.mg_of X G Ui,Mp.b2),(Fx,W.mg_of X G Py,Fx.b2),(FE,W.mg_of X G PH,FE.b2),(Mn,W.mg_of X G Uh,Mn.b3),(FF,W.mg_of X G PJ,FF.b5),(Mr,W.mg_of X G Uk,Mr.b5),(Ms,W.mg_of X G Ul,Ms.b5),(xq,W.mg_of X G HB,xq.b3),(Fv,W.mg_of X G Px,Fv.b3),(BI,W.mg_of X G Mg,BI.b5),(kF,W.mg_of X G vk,kF.b1),(BG,W.mg_of X G Me,BG.b5),(xr,W.mg_of X G HC,xr.b4),(FC,W.mg_of X G PD,FC.b1),(Fy,W.mg_of X G Pz,Fy.b5),(Mu,W.mg_of X G Uo,Mu.b4),(QZ,W.mg_of X G WI,QZ.b4),(FD,W.mg_of X G PF,FD.b6),(Q0,W.mg_of X G QW,Q0.b1),W.mg_none_of X G UH,W.mg_none_of X G UJ,W.mg_none_of X G Q8,W.mg_none_of X G MI,W.mg_none_of X G UI,W.mg_none_of X G Q9,W.mg_none_of X G BN,W.mg_none_of X G UG,W.mg_none_of X G UE,W.mg_none_of X G UD,W.mg_none_of X G MJ,W.mg_none_of X G UC,W.mg_none_of X G zG,W.mg_none_of X G xx,W.mg_none_of X G HN,W.mg_of X G HS,λ_=>.inr (_,_,_,HQ,U,U,F5 zL,zL));exact(W.fnOf "law" "law" (dJ qj) (cy qj) (ax qj) .none Tq T3 Sz Ud LY T5,λs v=>.of_eq U,λbase _ _=>SQ T)
theorem walk{l:W.OpenLaw}{q:Da}{loose:Γ}{XP:(Υ)->Do->Prop}{Q:Cl->Do->Prop}{d:DefRec}{K:Params->BT}(hn:l.most=Z 63)(g:d.params.defaults=[])
  (V:∀(w:Cl)(h:Do),Q w h->(K w.params).In h)
  (F:∀(w:Cl)(mg:Υ)(P:J)(h:Do),(K w.params).In h->h.Ns mainGlobals mg->mg d.name=Z (.ref P) ->
∃fd:Ch,(∀(s:ϋ)(u:B),BindsTo s fd ([u],[]) [("_law_script",u)])/\∀base:Do,(K w.params).In base->base.Ns mainGlobals mg->bg l.prog w (K w.params) mg base CX0 110 P fd [SL] (sW (K w.params))):
  W.WalkO q loose XP Q l.row.toRowW d [] (λf vs=>PySem.call f vs):=
 L2.MN (n:=63) (k:=110) (x:="_law_script") (CX:=λ_=>CX0) (sp:=λw=>sW (K w.params)) hn ac g (U,ac,ac) V F (λ_ _ a ns hl hO hS=>(a,ns,U,Wm hO hS,hl,λ_=>rfl)) λ_ _ _ _ _ z=>z
end K73
namespace PySem.W.Fast
open Lean in
local macro_rules|`(universe $x*)=>do return mkNullNode (<-x.mapM λi=>`(theorem $i:ident:True:=⟨⟩))
universe tw10053256452137583072 tw10142375013028892554 tw10156895042370698987 tw10235309287445281105 tw10272553311922389919 tw1029040289726044042 tw10299409849050215032 tw10382204256309163475 tw10437112322052682874 tw10495990742713759954 tw10534334533433130124 tw10566838268430234495 tw10705641402171938337 tw10834018669699572535 tw10856187341948929099 tw10930166482185495695 tw1101311840891367377 tw11025866150474874806 tw11219695033325797200 tw1122298035570036917 tw11405022609290908049 tw11516437900668571662 tw11638613650642718067 tw11710467485316342016 tw1171687132286101525 tw11866030255654668449 tw11866533509472496034 tw11993640725327967202 tw12077530463064884089 tw12188123647855668981 tw12195157267488709055 tw12259323939413037796 tw12289998855131144439 tw12318402762326743262 tw12464998033489014998 tw12548163106606921611 tw12584239190695459592 tw12629870347873663953 tw12669359727105382428 tw12779137452108438757 tw12790097490947391889 tw12790180817570319182 tw12859450919665714981 tw12932412799615102199 tw13037176310845501666 tw13126480166446923453 tw13287741112412989481 tw1329769143283527459 tw13392453960800981223 tw13451818604534490854 tw13477242750675178445 tw1349380820989572331 tw13720231495466010458 tw13801048908309527627 tw13854292656478897441 tw13950929598001925500 tw13972381773856581841 tw14017167943305936716 tw14045176263817938694 tw1406275949172831056 tw1407100239776375280 tw14148058684982997645 tw14188200960237082891 tw14275126360155406891 tw14333232343134507643 tw14334453661973107703 tw14412894656639152663 tw14463801222712335472 tw14466560420640122606 tw14491229267398066221 tw14496832743663852850 tw14651978298689144082 tw14717549448049796582 tw14724291396579498600 tw14725992231695428692 tw14757560595813927938 tw14762679108365468067 tw14834946034976531159 tw14967991940662158330 tw14981115376059515822 tw14991549175771602837 tw15180046679597074865 tw15266190103475553325 tw15269153200273076599 tw15365819187854911505 tw15380266838344284885 tw15418367533780729072 tw15442432800123738063 tw15637521795380785705 tw15711306539964765607 tw15834387872046507511 tw15851042503709148759 tw1603713350328503950 tw16088779809573538606 tw16148872925402951029 tw16361862434696860569 tw16489724714375099694 tw16525936396496705118 tw16569290621376678664 tw16689016371934973995 tw16822371740061021695 tw17085628989083889630 tw17183803996298939851 tw17184045249173132975 tw17241876238538017834 tw17284920961651342163 tw1731521982219202784 tw17348824114360367762 tw1741103138553641691 tw17560786012193817057 tw17721829677820415219 tw17805981163744501575 tw17856498895609664929 tw17958576713518437766 tw18014481787480390338 tw18041434376913027662 tw18230444527867670269 tw1931349756247388256 tw207819549519131984 tw2122769951876650373 tw2123628085785553046 tw2168120748232023014 tw2236069788922955127 tw2237274152510746885 tw2335339919003030234 tw2343473517693010830 tw242388616456003555 tw2424548599062471234 tw2486573747261451713 tw2523486033303849264 tw2562848323339128855 tw2691575145922183404 tw2692923048135035370 tw2757099200599523928 tw2925725595304747019 tw2976352452277620039 tw2998220019337816920 tw3071711258151360480 tw3087721635848245937 tw3152993138431019859 tw317046440984013528 tw3172007503329989975 tw3191090781031801196 tw3211559528832813416 tw3284004924816123867 tw3365079029908590865 tw3367639829332956129 tw3508711380582838292 tw3551487893842012492 tw3691320874907718990 tw3790199068807879401 tw3800074475145692080 tw3838328999907895623 tw3998633574239206050 tw4122079065342475818 tw416432259264231108 tw4359296359224848244 tw4380161613997280175 tw4396310328480221517 tw441881168667980887 tw4444567371442124303 tw459201573522058949 tw4609167490307908506 tw4614695623027060455 tw4718309909796123030 tw479111475235572553 tw4798431173927355122 tw4850504941514182925 tw4882888951486067511 tw4948916513345528357 tw5098813990070950636 tw5140781397487165017 tw5183206022297848881 tw5317912281689428092 tw543064174208304652 tw548209249521315550 tw5549873311827331905 tw5618247939608038996 tw5643542056140983790 tw5652142994244467744 tw5664390442211208662 tw5672935716027925237 tw5751324883524716246 tw5756420143801361890 tw5836509446818394026 tw5843655209423538124 tw5898288631225334779 tw5953139154439867139 tw600483801104370938 tw6080778563344369954 tw6152794066598334039 tw6167343836540376769 tw6171146642506624934 tw6299491648629528101 tw6457267487554318299 tw6472236452039356865 tw6541656508290609030 tw6654923820911627688 tw6661191754938632087 tw668794341559048540 tw6752264049809075246 tw6753078060937110943 tw6760583962680656694 tw6766746354552717551 tw6786184170685721010 tw68945407595619838 tw6996821492274580747 tw705862019942310682 tw7120269590328498143 tw7145192465764313335 tw7183131427498625346 tw721496572460124855 tw7238482948823157888 tw7356628664876724475 tw7444261081554576352 tw7489356758611162229 tw7662831134244678865 tw7889840663120671029 tw79799807359796799 tw8039633996595129309 tw8100112357010019710 tw8104978674510297027 tw8157087741255011038 tw8350276561615358394 tw8375123491390051663 tw8380707478122694856 tw8404455496537303733 tw8501290696984816521 tw8518915595849790537 tw8577480365541162495 tw8632955878659803109 tw8705579988798730687 tw8774877748124813785 tw9027538009705497769 tw9088946015237496300 tw9126451825207585356 tw9178025987302967590 tw9337112319518157460 tw9416527990234982246 tw952201079543979344 tw9524446810145723746 tw9766193605835913444 tw9809598933462834357 tw9889973577884145310 tw9987170582975040242
end PySem.W.Fast
open PySem PySem.W PyProof.Rows
set_option maxRecDepth 100000 in
set_option maxHeartbeats 0 in
theorem PySem.Challenge.cw_pursewright_k73_whole_between_two_papers_holds : PySem.Challenge.rw_pursewright_k73_whole_between_two_papers.Holds := by
 w_on;o_law;k_head;(case hw=>w_witness2)
 k_fill
 refine K73.walk (l:=PySem.Challenge.rw_pursewright_k73_whole_between_two_papers) rfl rfl (fun w h Y=>PySem.W.kIn_of Y) ?F
 case F =>
  intro w mg fa h KX G hmg;refine' K73.all_mk KX G hmg ..
  all_goals try first|refine' L2.DY.of ?_ ?_ ?_ ?_|refine' L2.DM.of ?_ ?_ ?_ ?_ ?_
  all_goals try delta L2.NI L2.LK L2.CI L2.KI L2.NB L2.cf
  all_goals try first|k_is|kernel_rfl|repeat (first|exact .nil|refine .cons ⟨_,rfl⟩ ?_)
