import PyProof.Rows.All
import Wide.All
import OpenK.AllK
import Wide.FinOn
import Lean
import PyProof.EqAt
import PyProof.EqKinds
import PyProof.TupleCall
import PyProof.InstStoreFacts
import PySem.Challenge.RW_pursewright_k55_things_moved
set_option Elab.async false
set_option linter.all false
set_option maxRecDepth 100000
local macro_rules|`(tactic|symm)=>`(tactic|exact ⟨rfl,rfl,rfl,by decide +kernel,rfl,by decide +kernel,by decide +kernel⟩)
open List renaming length_map→e7,mem_singleton→fy,mem_cons_self→iY,getElem?_map→kf,mem_cons_of_mem→mm,getElem?_eq_getElem→mu,length_append→mS,getElem?_eq_some_iff→mT,mem_of_getElem?→nZ,mem_cons→ot,map_append→pq,nodup_nil→px,length_cons→p7,mem_append→rh,mem_append_right→rz,mem_map→sd,size_toArray→ti,take_add_one→ui,take_length→uj,append_nil→u3,mem_append_left→vr,length_take→vM,append_assoc→wh,flatMap_cons→x2,lookup_cons→x6,not_mem_nil→ya,length_drop→yb,flatMap_append→yc,nodup_cons→yd,length→zN,getElem?_append_left→A0,replicate→CB,getElem?_append_right→CC,map_cons→E3,range→Fq,length_reverse→Fx,map_map→Gk,getElem?_set_ne→JT,append_eq_nil_iff→JV,all_eq_true→JW,mem_of_mem_take→JY,map_take→Lh,find?_cons→Nu,getElem?_set_self→Ny,mem_or_eq_of_mem_set→Nz,length_eq_zero_iff→NA,cons_ne_nil→OS,nodup_append→O3,length_set→O4,getElem_mem→Qj,length_zip→QL,length_pos_iff→Rk,mem_range→Ro,getElem?_eq_none→Rt,take_append_drop→Ru,getElem?_zip_eq_some→Rv,lookup→Rx,take_sublist→Ry,reverse_cons→Rz,any_eq_true→RB,append_cancel_left→RC,sublist_nil→RD,take_of_length_le→RE,any_cons→RH,map_drop→RI,mem_of_mem_drop→RO,getElem_of_mem→RR,sum_cons→RS,getElem?_replicate→RW,set_eq_take_append_cons_drop→RZ,pairwise_map→R4,getElem?_reverse→R8,set_getElem_self→R9,map_reverse→Sb,flatMap_nil→Sd,dropLast_concat→Sh,take_append_of_le_length→Si,of_mem_zip→Sj,length_nil→Sk,filterMap_cons→Sn,any_map→Ss,nodup_iff_pairwise_ne→Sw,contains_cons→Sx,drop_zero→Sy,getElem?_drop→Sz,sublist_append_right→SD,ext_getElem?→SG,set_eq_of_length_le→SI,map→SO,map_set→SR,forIn_cons→SS,nil_append→SU,perm_append_comm→SX,eq_nil_or_concat→S0,take_left→S3,getElem?_of_mem→S4,mem_filterMap→S7,any_eq_false→Tc,zip→Tf,map_id'→Tj,nodup_range→Tp,zipIdx_cons→Tq,ext_getElem→Ts,map_fst_zip→Tt,mem_reverse→Tv,drop→TB
open PySem renaming wpAny_bind→gV,starEach→nY,sizeLine→p6,wpAny_pure→sr,wpAny_mono→JZ,wpAny_Call_Name_kw→KY,wpAny_call_entry→Qm,wpAny_holding→RA,wpAny_typeOf→RF,wpAny_newObj_type→RM,wpAny_rule→RP,sizeLine_eq→RY,wpAny_setField→R7,wpAny_isInstance→Se,wpAny_specialOf→Sm,plainId_quiet→SJ,wpAny_attempt→SK,wpAny_updateSeq→SV,PassesOwn→Tw
open PySem.Heap renaming get?_push_of_some→jo,get?_push_size→qg,lt_size→rg,get?_update_other→Fs,size_push→Gm,get?_update_self→JX,get?_none_of_le→Rw,SameBut→R0,get?_push_cases→S2,ExtBut→Tx
open Option renaming map_eq_some_iff→mU,isSome_map→SF,bind_eq_some_iff→SN,getD_none→To
open Nat renaming le_refl→oQ,lt_of_lt_of_le→u4,le_trans→vN,ne_of_lt→x8,le_of_lt→x9,lt_irrefl→Gj,min_eq_left→QG,ne_of_gt→Rl,zero_le→Rm,lt_succ_self→Rn,lt_of_le_of_lt→Rq,le_max_left→RG,lt_trans→R3,le_of_lt_succ→R6,add_le_add_left→So,le_of_eq→Sr,sub_zero→Sv,min_le_right→SM,le_of_ble_eq_true→SY,add_assoc→S6,mod_lt→S9,mod_mod_of_dvd→Ta,sub_self→Ti,sub_le→Tz
open Bool renaming and_eq_true→ri,false_ne_true→su,eq_false_iff→RK,not_eq_true'→RL,eq_iff_iff→RT,true_and→Sg,and_false→S1,false_or→S5
open Int renaming le_refl→NC,toNat_of_nonneg→Rg,natCast_nonneg→RU,eq_ofNat_of_zero_le→RX,zero_add→R5,toNat_natCast→SE,le_trans→SQ,toNat_le→Td
open PySem.Obj renaming data_mapFields→Rr,isFreed_of_fields→RJ,mapSeq→RV,mapFields→Sf,cls_mapFields→Te
open Array renaming getElem?_eq_some_iff→RN,length_toList→RQ,getElem?_toList→SW,find?_toList→S8
open Option renaming some→Z,none→Y
open Bool renaming true→O,false→ϊ
open PySem renaming Value→B,Addr→J,Shared→ϋ
def U{α:Sort u}{a:α}:a=a:=rfl
open Lean in
def lp:Nat->Syntax->MacroM (TSyntax `rcasesPat)
|n+1,s=>match s with
 |`(($a,$b,*))=>do let c<-(#[a]++b.getElems).mapM λx=>lp n x;`(rcasesPat|⟨$[$c:rcasesPat],*⟩)
 |`(⟨$a,*⟩)=>do let c<-a.getElems.mapM λx=>lp n x;`(rcasesPat|⟨$[$c:rcasesPat],*⟩)
 |`($x:ident)=>let y:=if x.getId==`U then mkIdent `rfl else x;`(rcasesPat|$y:ident)
 |_=>`(rcasesPat|_)
|_,_=>`(rcasesPat|_)
local macro_rules|`(tactic|let $p:term:=$e)=>do`(tactic|obtain $(<-lp 9 p):rcasesPat:=$e)
local macro_rules|`(($a,$b,*))=>`(⟨$a,$b,*⟩)
open PySem.W renaming Frag→BT
open PySem renaming FuncData→Ch,World→Cl,Program→Da,Around→Db,Heap→Dd,Expr→Do,Stmt→Ev
open Lean in
local macro_rules|`(tactic|left)=>`(tactic|intro $(mkIdent `gd):ident $(mkIdent `s):ident $(mkIdent `σ):ident $(mkIdent `H):ident $(mkIdent `Q):ident $(mkIdent `I):ident $(mkIdent `h):ident)
open Lean in
local macro_rules|`(tactic|right)=>`(tactic|intro $(mkIdent `gd):ident $(mkIdent `s):ident $(mkIdent `σ):ident $(mkIdent `H):ident $(mkIdent `D):ident $(mkIdent `I):ident $(mkIdent `h):ident)
local macro_rules|`(tactic|omega)=>`(tactic|lia)
local macro_rules|`(nofun)=>`(fun _ z=>nomatch z)
local macro_rules|`(($e :))=>`(by simpa using $e)
local macro_rules|`(~~~$e)=>`({cls:=.type "list",data:=.seq $e})
local macro_rules|`($a^^^$b)=>`({cls:=.type "list",data:=.seq $a $b})
def am{p:Prop}(h:p:=by decide):p:=h
def ap{p:Prop}(h:p:=by simp):p:=h
def bd{p:Prop}(h:p:=by omega):p:=h
def be{p:Prop}(h:p:=by rfl):p:=h
def bn{p:Prop}(h:p:=by decide +kernel):p:=h
def bv{p:Prop}(h:p:=by kernel_rfl):p:=h
theorem zdc(h:True:=by decide):True:=h
theorem zrf(h:True=True:=by rfl):True=True:=h
local macro_rules|`(‹$t›)=>`(autoParam $t zrf._auto_1)
noncomputable section
set_option compiler.extract_closed false
open Lean.Parser.Command in
local macro_rules|`(declaration|$d:definition)=>`(declaration|noncomputable $d:definition)
set_option bootstrap.genMatcherCode false
set_option genSizeOf false
set_option genInjectivity false
abbrev Γ:=List PySem.Str
abbrev Δ:=List B
abbrev Θ:=List J
abbrev Ξ:=List (J×PySem.Obj)
abbrev Υ:=PySem.Str->Option B
abbrev Φ:=B->ϋ->Prop
abbrev Ψ:=List Int
namespace L2
open PySem PySem.Spec PyProof.Rows
inductive T2{A' B':Type}(P:A'->B'->Prop):Prop
 |mk(a b:_)(_:P a b)
inductive T7{A' B' C' D' E' F' G':Type}(P:A'->B'->C'->D'->E'->F'->G'->Prop):Prop
 |mk(a b c d e f g:_)(_:P a b c d e f g)
inductive P3{A' B' C':Type}(P:A'->B'->C'->Prop):Prop
 |mk(a b c:_)(_:P a b c)
inductive Q4{A' B' C' D':Type}(P:A'->B'->C'->D'->Prop):Prop
 |mk(a b c d:_)(_:P a b c d)
inductive T5{A' B' C' D' E':Type}(P:A'->B'->C'->D'->E'->Prop):Prop
 |mk(a b c d e:_)(_:P a b c d e)
inductive T6{A' B' C' D' E' F':Type}(P:A'->B'->C'->D'->E'->F'->Prop):Prop
 |mk(a b c d e f:_)(_:P a b c d e f)
inductive T8{A' B' C' D' E' F' G' H':Type}(P:A'->B'->C'->D'->E'->F'->G'->H'->Prop):Prop
 |mk(a b c d e f g h:_)(_:P a b c d e f g h)
abbrev Key:=Sum Int Str
def sO:Key->B->Bool
 |.inl k,v=>B.isInt k v|.inr x,v=>B.isStrOf x v
def Qg(w:Cl):Key->Int
 |.inl k=>hashInt k|.inr x=>hashStr w x
theorem bT:∀{k:Key}{v:B},sO k v=O->(∃i t,k=Sum.inl i/\v=B.int i t)\/(∃x t,k=Sum.inr x/\v=B.str x t)
 |.inl i,v,h=>by
  let(t,e):=B.isInt_shape h;exact .inl (i,t,U,e)
 |.inr x,v,h=>by
  let(t,e):=B.isStrOf_shape h;exact .inr (x,t,U,e)
def B8(i:Int)(t:Tok):sO (.inl i) (.int i t)=true:=by simp[sO,B.isInt]
def B7(x:Str)(t:Tok):sO (.inr x) (.str x t)=true:=by simp[sO,B.isStrOf]
def ML(a b:Int):decide ((Sum.inl a:Key)=Sum.inl b)=(a==b):=by
 by_cases e:a=b
 ·subst e;simp
 have h:¬(Sum.inl a:Key)=Sum.inl b:=λq=>e (Sum.inl.inj q);rw[decide_eq_false h];exact(beq_eq_false_iff_ne.mpr e).symm
def MI(a b:Str):decide ((Sum.inr a:Key)=Sum.inr b)=decide (a=b):=by
 by_cases e:a=b
 ·simp
 have h:¬(Sum.inr a:Key)=Sum.inr b:=λq=>e (Sum.inr.inj q);rw[decide_eq_false h,decide_eq_false e]
def MK(a:Int)(b:Str):decide ((Sum.inl a:Key)=Sum.inr b)=false:=decide_eq_false (λq=>nomatch q)
def MJ(a:Str)(b:Int):decide ((Sum.inr a:Key)=Sum.inl b)=false:=decide_eq_false (λq=>nomatch q)
def bp(prog:Da)(w:Cl):PySem.KeyKind prog w Key where
 is:=sO
 hash:=Qg w
 inj:=λv a b K q=>by
  obtain⟨i,t,rfl,rfl⟩|⟨x,t,rfl,rfl⟩:=bT K
  ·obtain⟨j,u,rfl,e⟩|⟨y,u,rfl,e⟩:=bT q
   ·injection e with g _;rw[g]
   exact nomatch e
  obtain⟨j,u,rfl,e⟩|⟨y,u,rfl,e⟩:=bT q
  ·exact nomatch e
  injection e with g _;rw[g]
 byValue:=λk v h=>by
  obtain⟨i,t,rfl,rfl⟩|⟨x,t,rfl,rfl⟩:=bT h <;> rfl
 pyHash:=λhv h=>by
  obtain⟨i,t,rfl,rfl⟩|⟨x,t,rfl,rfl⟩:=bT hv
  ·exact wpAny_pyHash_int h
  exact wpAny_pyHash_str h
 eqBool:=λz hv h=>by
  obtain⟨i,t,rfl,rfl⟩|⟨x,t,rfl,rfl⟩:=bT z
  ·obtain⟨j,u,rfl,rfl⟩|⟨y,u,rfl,rfl⟩:=bT hv
   ·rw[ML]at h;exact wpAny_eqBool_int h
   rw[MK]at h;exact SeqAt.EqAt.int_str i t y u _ _ _ _ h
  obtain⟨j,u,rfl,rfl⟩|⟨y,u,rfl,rfl⟩:=bT hv
  ·rw[MJ]at h;exact SeqAt.EqAt.str_int x t j u _ _ _ _ h
  rw[MI]at h;exact wpAny_eqBool_str h
 «strs»:=λk x t v h=>by
  obtain⟨i,u,rfl,e⟩|⟨y,u,rfl,e⟩:=bT h
  ·exact nomatch e
  injection e with g _
  subst g;cases v <;> rfl
def xa(prog:Da)(w:Cl)(i:Int)(t:Tok):(bp prog w).is (.inl i) (.int i t)=true:=B8 i t
def w6(prog:Da)(w:Cl)(x:Str)(t:Tok):(bp prog w).is (.inr x) (.str x t)=true:=B7 x t
set_option genInjectivity true in
inductive V where
 |non|bl (b:Bool)|int (i:Int)|str (x:Str)|byt (b:Array UInt8)|flt (b:UInt64)|ref (a:J)|ty (n:String)
 deriving DecidableEq
abbrev Ω:=List V
abbrev ό:=List (Key×V)
abbrev ύ:=List (List Key×V)
def RelV:V->B->Prop
 |.non,u=>u=B.none|.bl b,u=>u=B.bool b|.int i,u=>∃t,u=B.int i t|.str x,u=>∃t,u=B.str x t|.byt b,u=>∃t,u=B.bytes b t|.flt b,u=>∃t,u=B.float b t|.ref a,u=>u=B.ref a|.ty n,u=>u=B.type n
abbrev Vals:Ω->Δ->Prop:=Paired RelV
theorem Vals.length{xs:Ω}{us:Δ}(r:Vals xs us):xs.length=us.length:=Paired.length r
theorem Vals.get:∀{xs:Ω}{us:Δ}{i:Nat}{x:V},Vals xs us->xs[i]?=Z x->∃u,us[i]?=Z u/\RelV x u
 |_,_,_,_,.nil,e=>by simp at e|_,_,0,_,.cons r _,e=>by simp at e;subst e;exact(_,U,r)|_,_,i+1,x,.cons _ t,e=>by
  let(u,h1,h2):=Vals.get t (e:);exact(u,(h1:),h2)
theorem Vals.set{x:V}{u:B}(r:RelV x u):∀{xs:Ω}{us:Δ}(i:Nat),Vals xs us->Vals (xs.set i x) (us.set i u)
 |_,_,_,.nil=>.nil|_,_,0,.cons _ t=>.cons r t|_,_,i+1,.cons q t=>.cons q (Vals.set r i t)
variable{xs:Ω}{ys:Ω}{us:Δ}
def Vals.append{ws:Δ}(h:Vals xs us)(s:Vals ys ws):Vals (xs++ys) (us++ws):=by induction h with|nil=>exact s|cons r _ g=>exact .cons r g
theorem Vals.take:∀{xs:Ω}{us:Δ}(n:Nat),Vals xs us->Vals (xs.take n) (us.take n)
 |_,_,0,_=>.nil|_,_,_+1,.nil=>.nil|_,_,n+1,.cons r t=>.cons r (Vals.take n t)
theorem Vals.drop:∀{xs:Ω}{us:Δ}(n:Nat),Vals xs us->Vals (xs.drop n) (us.drop n)
 |_,_,0,r=>r|_,_,_+1,.nil=>.nil|_,_,n+1,.cons _ t=>Vals.drop n t
def jn:Option V->Option B->Prop
 |some v,Z u=>RelV v u|none,Y=>True|_,_=>False
def KV{κ:Type}:List (κ×V)->List (κ×B)->Prop:=Paired λ(p:κ×V)(q:κ×B)=>p.1=q.1/\RelV p.2 q.2
def kV:Key->V
 |.inl i=>.int i|.inr x=>.str x
inductive HO where
 |lst(xs:Ω)|tup(xs:Ω)|dK(kvs:ό)|dT (kvs:ύ)|set(S:Int->Bool)(n:Nat)|ins(C dx:J)(fs:List (Str×V))|own(x:J)|xd(fs:List (Str×V))|room(x:Int)|met(f x:J)|rng(lo hi:Int)|frz(o:Obj)(u:HO)|tbl(ps:Array B)|ext(φ:Dd->Prop)
abbrev Hp:=J->Option HO
def upd(H:Hp)(a:J)(o:HO):Hp:=λb=>if b=a then Z o else H b
variable{H:Hp}{a:J}
def au{o:HO}:upd H a o a=Z o:=by unfold upd;rw[if_pos rfl]
def ak{b:J}{o:HO}(h:b≠a):upd H a o b=H b:=by unfold upd;rw[if_neg h]
def i6{o u:HO}:upd (upd H a o) a u=upd H a u:=by funext b;unfold upd;split <;> rfl
def iI{b:J}{o u:HO}(h:H a=Z o)(h':H b=Z u)(d:o≠u):a≠b:=by intro e;subst e;rw[h]at h';exact d (Option.some.inj h')
def aI{b:J}{o:HO}(h:H a=Z o)(h':H b=Y):a≠b:=by intro e;subst e;rw[h]at h';cases h'
def jZ(h:Dd)(a:J)(items:Array B):Prop:=IsTup h a items/\∃o,h.get? a=Z o/\o.dict=Y
theorem jZ.new(h:Dd)(items:Array B):jZ (h.push {cls:=.type "tuple",data:=.seq items}) h.objs.size items:=(IsTup.new _ _,_,qg _ U,U)
section
variable(P:Da)(w:Cl)
def bZ(H:Hp)(h:Dd)(a:J):HO->Prop
 |.lst xs=>xs.length<=p6/\∃(its:Δ)(n:Nat),Vals xs its/\h.get? a=Z (its.toArray^^^n)|.tup xs=>xs.length<=p6/\∃its:Δ,Vals xs its/\jZ h a its.toArray|.dK kvs=>kvs.length<=p6/\(a==sysModules)=ϊ/\∃vs,KV kvs vs/\h.DictOf (bp P w) a vs|.dT kvs=>kvs.length<=p6/\(a==sysModules)=ϊ/\∃xs:List (List Key×J×B),
   Paired (λ(p:List Key×V)(q:List Key×J×B)=>p.1=q.1/\H q.2.1=Z (.tup (p.1.map kV))/\RelV p.2 q.2.2) kvs xs /\
   ∃o es g,h.get? a=Z o/\o.ExactDict/\o.data=.dict es g/\es.toList=xs.map (entryOfKey (tupleKind (bp P w)))/\(xs.map (·.1)).Nodup
 |.set S n=>h.SetOf (intKind P w) a S n|.ins C dx fs=>H dx=Z (.own a)/\fs.length<=1000/\dx≠a/\h.get? a=Z (W.instObj C dx) /\
   ∃mA,h.Ns1 dx mA/\(∀f,jn (fs.lookup f) (mA f))/\PySem.Within mA (fs.map (·.1))
 |.own _=>∃o,h.get? a=Z o|.xd fs=>∃mA,h.Ns1 a mA/\∀f,jn (fs.lookup f) (mA f)|.room x=>∃(its:Δ)(n:Nat),Vals [.int x] its/\h.get? a=Z (its.toArray^^^n)|.rng lo hi=>∃t u v,h.get? a=Z {cls:=.type "range",data:=.fields #[.int lo t,.int hi u,.int 1 v]}|.frz o u=>h.get? a=Z o/\bZ H h a u|.tbl ps=>h.get? a=Z {cls:=.none,data:=.fields ps}|.met f x=>h.get? a=Z (W.methodObj (.ref f) (.ref x))|.ext φ=>φ h/\(∃o,h.get? a=Z o)/\∀h1 h2:Dd,φ h1->(∀o,h1.get? a=Z o->h2.get? a=Z o)->φ h2
def HOk(H:Hp)(h:Dd):Prop:=∀a o,H a=Z o->bZ P w H h a o
end
section
variable{P:Da}{w:Cl}{H':Hp}{h h':Dd}{o:HO}
theorem bZ.lt(x:bZ P w H h a o):a<h.objs.size:=by cases o with|lst xs=>let(_,_,_,_,e):=x;exact rg e|tup xs=>let(_,_,_,p):=x;exact p.1.lt|dK kvs=>let(_,_,_,_,o,_,_,e,_):=x;exact rg e|dT kvs=>let(_,_,_,_,o,_,_,e,_):=x;exact rg e|set S n=>let(o,_,_,_,e,_):=x;exact rg e|ins C dx fs=>let(_,_,_,e,_):=x;exact rg e|own y=>let(_,e):=x;exact rg e|xd fs=>let(_,(_,_,_,e,_),_):=x;exact rg e|room g=>let(_,_,_,e):=x;exact rg e|rng lo hi=>let(_,_,_,e):=x;exact rg e|frz ob u=>let(e,_):=x;exact rg e|tbl ps=>exact rg (x)|met f y=>exact rg (x)|ext φ=>let(_,(_,e),_):=x;exact rg e
def Paired.OH{α β:Type}{F G:α->β->Prop}{q:List α}{g:List β}(r:Paired F q g)(f:∀a b,F a b->G a b):Paired G q g:=by induction r with|nil=>exact .nil|cons r _ z=>exact .cons (f _ _ r) z
def bZ.cJ(x:bZ P w H h a o)(k:∀b u,(b=a\/H b=Z (.own a))->h.get? b=Z u->h'.get? b=Z u)
  (ho:∀b,H b=Z (.own a)->H' b=Z (.own a)) (ht:∀b xs,H b=Z (.tup xs)->H' b=Z (.tup xs)):bZ P w H' h' a o:=by
 induction o with|lst xs=>let(z,its,n,r,e):=x;exact(z,its,n,r,k _ _ (.inl U) e)|tup xs=>let(z,its,r,(ob,e,c),Q,K,d2):=x;exact(z,its,r,(ob,k _ _ (.inl U) e,c),Q,k _ _ (.inl U) K,d2)|dK kvs=>let(z,y,vs,r,ob,es,g,e,c):=x;exact(z,y,vs,r,ob,es,g,k _ _ (.inl U) e,c)|dT kvs =>let(z,y,xs,r,ob,es,g,e,c):=x;exact(z,y,xs,Paired.OH r λp q z=>(z.1,ht _ _ z.2.1,z.2.2),ob,es,g,k _ _ (.inl U) e,c)|set S n=>let(ob,es,g,t,e,c):=x;exact(ob,es,g,t,k _ _ (.inl U) e,c)|ins C dx fs =>let(d,z,ne,e,mA,(od,es,g,K,c),r):=x;exact(ho _ d,z,ne,k _ _ (.inl U) e,mA,(od,es,g,k _ _ (.inr d) K,c),r)|own y=>let(ob,e):=x;exact(ob,k _ _ (.inl U) e)|xd fs=>let(mA,(od,es,g,e,c),r):=x;exact(mA,(od,es,g,k _ _ (.inl U) e,c),r)|room x'=>let(t,u,v,e):=x;exact(t,u,v,k _ _ (.inl U) e)|rng lo hi=>let(t,u,v,e):=x;exact(t,u,v,k _ _ (.inl U) e)|frz ob u V=>let(e,q):=x;exact(k _ _ (.inl U) e,V q)|tbl ps =>have e:=x;exact k a _ (.inl U) e|met f y =>have e:=x;exact k a _ (.inl U) e|ext φ=>let(p,(o,e),st):=x;exact(st _ _ p λo q=>k _ _ (.inl U) q,(o,k _ _ (.inl U) e),st)
theorem HOk.lt(x:HOk P w H h)(e:H a=Z o):a<h.objs.size:=(x a o e).lt
def HOk.fresh(x:HOk P w H h)(e:h.objs.size<=a):H a=none:=by cases q:H a with|none=>rfl|some u=>exact absurd (u4 (x.lt q) e) (Gj _)
def HOk.kept(x:HOk P w H h)(k:∀b u,h.get? b=Z u->h'.get? b=Z u):HOk P w H h':=λa o e =>
 (x a o e).cJ (λb u _ q=>k b u q) (λ_ q=>q) λ_ _ q=>q
def HOk.laid(x:HOk P w H h)(k:∀b u,h.get? b=Z u->h'.get? b=Z u)(hp:h.objs.size<=a)(new:bZ P w (upd H a o) h' a o):HOk P w (upd H a o) h':=λb u e=>by
 have hn:=x.fresh hp;by_cases g:b=a
 ·subst g;rw[au]at e;cases e;exact new
 rw[ak g]at e;exact(x b u e).cJ (λc v _ q=>k c v q) (λc q=>by rw[ak (aI q hn)];exact q) λc xs q=>by rw[ak (aI q hn)];exact q
end
def Rd(H:Hp)(a:J)(u:HO):Prop:=H a=Z u\/∃o,H a=Z (.frz o u)
variable{P:Da}
def Rd.ok{w:Cl}{h:Dd}{u:HO}(r:Rd H a u)(x:HOk P w H h):bZ P w H h a u:=by
 obtain r |⟨o,r⟩:=r
 ·exact x a u r
 let(_,q):=x a _ r;exact q
def Mut:Option HO->Prop
 |some (.lst _)=>True|some (.dK _)=>True|some (.dT _)=>True|some (.set _ _)=>True|some (.ins _ _ _)=>True|some (.ext _)=>True|some (.room _)=>True|_=>False
section
variable{w:Cl}{h h':Dd}{x e:J}{o':HO}
def HOk.write(ok:HOk P w H h)(K:Mut (H x))(he:e=x\/H e=Z (.own x))(k:∀b u,b≠e->h.get? b=Z u->h'.get? b=Z u)(aN:∃u,h'.get? e=Z u)
  (new:bZ P w (upd H x o') h' x o'):HOk P w (upd H x o') h':=λb u q=>by
 have OD:∀c y,H c=Z (.own y)->c≠x:=λc y r z=>by subst z;rw[r]at K;exact K
 have P5:∀c xs,H c=Z (.tup xs)->c≠x:=λc xs r z=>by subst z;rw[r]at K;exact K
 by_cases V:b=x
 ·subst V;rw[au]at q;cases q;exact new
 rw[ak V]at q;by_cases g:b=e
 ·have q':H b=Z (.own x):=by
   obtain z|z:=he
   ·exact absurd (g.trans z) V
   rw[g];exact z
  rw[q]at q';cases q';let(v,hv):=aN;exact(v,by rw[g];exact hv)
 refine(ok b u q).cJ (λc v Q r=>k c v ?_ r) (λc r=>by rw[ak (OD c b r)];exact r) λc xs r=>by rw[ak (P5 c xs r)];exact r
 obtain rfl|Q:=Q
 ·exact g
 rintro rfl;obtain z|z:=he
 ·exact OD c b Q z
 rw[Q]at z;cases z;exact V U
end
structure Un(fs ex:Θ)(H H':Hp)(h h':Dd):Prop where
 keep:∀b o,h.get? b=Z o->H b=Y->b ∉ fs->b ∉ ex->h'.get? b=Z o
 slot:∀b o,h.get? b=Z o->H b=Y->b∈fs->b ∉ ex->∃sl,h'.get? b=Z {o with slots:=sl}
 free:∀b o,h.get? b=Z o->H b=Y->b ∉ ex->H' b=Y
 there:∀b o,h.get? b=Z o->b ∉ ex->∃o',h'.get? b=Z o'
 lQ:∀b xs,H b=Z (.tup xs)->H' b=Z (.tup xs)
 iO:∀b o u,H b=Z (.frz o u)->H' b=Z (.frz o u)
 lT:∀b ps,H b=Z (.tbl ps)->∃more,H' b=Z (.tbl (ps++more))
section
variable{fs ex:Θ}{H1:Hp}{h h1 h':Dd}{x e:J}{o:HO}
def Un.any(u:Un fs ex H H1 h h1){b:J}{ob:Obj}(q:h.get? b=Z ob)(n:H b=Y)(hx:b ∉ ex):∃sl,h1.get? b=Z {ob with slots:=sl}:=by
 by_cases g:b∈fs
 ·exact u.slot b ob q n g hx
 exact(ob.slots,u.keep b ob q n g hx)
def Un.kept(k:∀b u,h.get? b=Z u->h'.get? b=Z u):Un fs ex H H h h':=
 (λb ob q _ _ _=>k b ob q,λb ob q _ _ _=>(ob.slots,k b ob q),λ_ _ _ n _=>n,λb ob q _=>(ob,k b ob q),λ_ _ q=>q,λ_ _ _ q=>q,λ_ ps q=>(#[],by rw[q];simp))
def Un.refl:Un fs ex H H h h:=Un.kept λ_ _ q=>q
def Un.laid(k:∀b u,h.get? b=Z u->h'.get? b=Z u)(hp:h.objs.size<=a)(hn:H a=Y):Un fs ex H (upd H a o) h h' where
 keep:=λb u q _ _ _=>k b u q
 slot:=λb u q _ _ _=>(u.slots,k b u q)
 free:=λb u q n _=>by rw[ak (x8 (u4 (rg q) hp))];exact n
 there:=λb u q _=>(u,k b u q)
 lQ:=λb xs q=>by rw[ak (aI q hn)];exact q
 iO:=λb u xs q=>by rw[ak (aI q hn)];exact q
 lT:=λb ps q=>(#[],by rw[ak (aI q hn),q];simp)
def Un.write(K:Mut (H x))(he:e=x\/H e=Z (.own x))(k:∀b u,b≠e->h.get? b=Z u->h'.get? b=Z u)(P:∃u,h'.get? e=Z u):Un fs ex H (upd H x o) h h':=by
 have hx:∀b,H b=Y->b≠x:=λb n z=>by subst z;rw[n]at K;exact K
 have Q:∀b,H b=Y->b≠e:=λb n z=>by
  subst z;obtain r|r:=he
  ·exact hx b n r
  rw[n]at r;cases r
 have hm:∀b u,H b=Z u->¬ Mut (Z u)->b≠x:=λb u q nm z=>by subst z;rw[q]at K;exact nm K
 refine(λb u q n _ _=>k b u (Q b n) q,λb u q n _ _=>(u.slots,k b u (Q b n) q),λb u q n _=>by rw[ak (hx b n)];exact n,λb u q _=>?_,
  λb xs q=>by rw[ak (hm b _ q λz=>z)];exact q,λb u xs q=>by rw[ak (hm b _ q λz=>z)];exact q,λb ps q=>(#[],by rw[ak (hm b _ q λz=>z),q];simp))
 by_cases g:b=e
 ·subst g;exact P
 exact(u,k b u g q)
end
def trk(h:Dd)(H:Hp):List Addr:=(Fq h.objs.size).filter λa=>(H a).isSome
def xx(h:Dd)(H:Hp):Dd:=W.hideAll h (trk h H)
theorem Cb(h:Dd)(H:Hp):(xx h H).objs.size=h.objs.size:=W.hideAll_size _ _
theorem Fv{h:Dd}{b:J}{o:Obj}(e:h.get? b=Z o)(n:H b=Y):(xx h H).get? b=Z o:=
 W.hideAll_get _ e λhm=>by
  have q:=(List.mem_filter.mp hm).2;rw[n]at q;simp at q
theorem IT{h:Dd}{b:J}{o:Obj}(e:(xx h H).get? b=Z o):h.get? b=Z o/\H b=none:=by have g:=W.of_hideAll (trk h H) e;refine(g,?_);cases q:H b with|none=>rfl|some x =>have hm:b∈trk h H:=List.mem_filter.mpr (Ro.mpr (rg g),by simp[q]);have z:(xx h H).get? b=none:=W.hideAll_none (trk h H) hm;rw[z]at e;cases e
structure Mod(K:BT)(mg:Υ)(base:Dd):Prop where
 kin:K.In base
 glob:base.Ns mainGlobals mg
 blt:∃mb,base.Ns builtinsNs mb/\∀x:Str,x ≠ "__name__"->mb x=bootBuiltins x
 nolimit:base.NoLimit
structure Cx where
 prog:Da
 w:Cl
 K:BT
 mg:Υ
 base:Dd
 A:Db
 N:Γ
 s₀:ϋ
 bi:Hp
 env:Env
 outer:List Env
 stack:List Env
 ex:Θ
 fn:Str->Bool
 calm:Bool
 pn:Ξ
 xe:Φ
abbrev Zc(X:Cx){α:Type}:=@wpAny α (model X.prog X.w) X.A
def frs(l:List Env):List Addr:=l.filterMap (·.frame)
abbrev Cx.fs(X:Cx):List Addr:=frs X.outer
def Vis(sc:Scope)(x:Str):Prop:=sc.names.lookup x=Z .local\/sc.names.lookup x=Z .cell\/sc.names.lookup x=Z .free
def Loc(sc:Scope)(x:Str):Prop:=sc.names.lookup x=Z .local\/sc.names.lookup x=Z .cell
def Look(env:Env)(h:Dd)(m:Υ)(x:Str)(u:B):Prop:=
 (env.kindOf x=Z .local/\m x=Z u)\/((env.kindOf x=Z .cell\/env.kindOf x=Z .free)/\∃c,env.cells.lookup x=Z c/\h.IsCell c (Z u))
structure Cx.Ok(X:Cx):Prop where
 mod:Mod X.K X.mg X.base
 kind:X.env.scope.kind=.function
 glob:X.env.globals=mainGlobals
 blt:X.env.builtins=builtinsNs
 above:X.s₀.heap.objs.size<=X.env.locals
 inj:∀x y c,X.env.cells.lookup x=Z c->X.env.cells.lookup y=Z c->x=y
 has:∀x,(X.env.kindOf x=Z .cell\/X.env.kindOf x=Z .free)->∃c,X.env.cells.lookup x=Z c
 cab:∀x c,X.fn x=O->X.env.cells.lookup x=Z c->X.s₀.heap.objs.size<=c
 hd:X.calm=O->X.A.handled=Y
 frames:X.A.frames=Z X.stack
 stk:X.stack=X.outer\/(X.stack=X.env::X.outer/\X.env.frame=Z X.env.locals)
 exf:∀b∈X.ex,b≠X.env.locals/\∀x c,X.env.cells.lookup x=Z c->c≠b
 bs:∀b o,X.base.get? b=Z o->X.s₀.heap.get? b=Z o/\X.bi b=Y
 bsz:X.base.objs.size<=X.s₀.heap.objs.size
 zh:∀b o,X.base.get? b=Z o->b ∉ X.ex
 Ci:∀b∈X.ex,b ∉ X.fs
 jl:X.s₀.heap.FunFrames X.base X.outer
 frf:∀b∈X.fs,X.bi b=Y
structure Inv(X:Cx)(gd:Ξ)(σ:List (Option V))(H:Hp)(s:ϋ):Prop where
 ok:X.Ok
 os:s.os=X.s₀.os
 bare:AllBare s.gens
 base:Un X.fs X.ex X.bi H X.s₀.heap s.heap
 loc:∃m,s.heap.Ns X.env.locals m/\∀(i:Nat)(x:Str)(v:V),X.N[i]?=Z x->σ[i]?=Z (Z v)->Vis X.env.scope x->∃u,RelV v u/\Look X.env s.heap m x u
 cell:∀x c,X.env.cells.lookup x=Z c->∃v,s.heap.IsCell c v
 free:H X.env.locals=Y
 df:∀x c,X.env.cells.lookup x=Z c->H c=Y
 pin:∀p∈X.pn++gd,s.heap.get? p.1=Z p.2/\H p.1=Y/\p.1≠X.env.locals/\p.1 ∉ X.fs/\∀v,p.2.data ≠ .cell v
 hok:HOk X.prog X.w H s.heap
 len:σ.length=X.N.length
variable{ch:Θ}{t':Nat}{it:J}{N:Γ}{j:Nat}{x:Str}{u:B}{s':ϋ}
section
variable{X:Cx}{gd:Ξ}{σ:List (Option V)}{H':Hp}{s:ϋ}{h':Dd}
def Cx.Ok.P8(ok:X.Ok){b:J}{o:Obj}(e:X.base.get? b=Z o):b ∉ X.fs:=λg=>by
 have:=(ok.jl.mem g).1;rw[e]at this;cases this
theorem Inv.bs(I:Inv X gd σ H s):∀b o,X.base.get? b=Z o->s.heap.get? b=Z o/\H b=none:=λb o e =>
 (I.base.keep b o (I.ok.bs b o e).1 (I.ok.bs b o e).2 (I.ok.P8 e) (I.ok.zh b o e),I.base.free b o (I.ok.bs b o e).1 (I.ok.bs b o e).2 (I.ok.zh b o e))
def Inv.bk(I:Inv X gd σ H s):∀b o,X.base.get? b=Z o->s.heap.get? b=Z o:=λb o e=>(I.bs b o e).1
theorem Inv.mod(I:Inv X gd σ H s):Mod X.K X.mg X.base:=I.ok.mod
def Inv.kIn(I:Inv X gd σ H s):X.K.In s.heap:=I.ok.mod.kin.keeps I.bk
theorem Inv.lt(I:Inv X gd σ H s):X.env.locals<s.heap.objs.size:=let(_,hn,_):=I.loc;hn.lt
def Inv.sz(I:Inv X gd σ H s):X.s₀.heap.objs.size<=s.heap.objs.size:=vN I.ok.above (x9 I.lt)
def Inv.OE(I:Inv X gd σ H s)(h:s.heap.objs.size<=a):a ∉ X.fs:=λg=>by
 let(_,o,ho,_):=I.ok.jl.mem g;exact absurd (u4 (rg ho) (vN I.sz h)) (Gj _)
def Inv.cne(I:Inv X gd σ H s):∀x c,X.env.cells.lookup x=Z c->c≠X.env.locals:=λx c e z=>by
 let(v,o,ho,hd):=I.cell x c e;let(m,(o',es,K,g,q,_),_):=I.loc;rw[z,g]at ho;cases ho;rw[q]at hd;cases hd
theorem Inv.jl(I:Inv X gd σ H s):s.heap.FunFrames X.base X.outer:=by
 have all:∀l,(∀b∈frs l,b∈X.fs)->X.s₀.heap.FunFrames X.base l->s.heap.FunFrames X.base l:=by
  intro l;induction l with
  |nil=>intro _ _;trivial
  |cons env r K =>intro hs hl;let(P,(L,o,hf,hn,ho,hd),hr):=hl;have q:=hs L (by unfold frs;rw[Sn,hf];exact iY);let(sl,e):=I.base.slot L o ho (I.ok.frf L q) q λz=>I.ok.Ci L z q;exact(P,(L,_,hf,hn,e,hd),K (λb g=>hs b (by unfold frs;rw[Sn,hf];exact mm _ g)) hr)
 exact all X.outer (λ_ g=>g) I.ok.jl
theorem Inv.stack(I:Inv X gd σ H s):s.heap.FunFrames X.base X.stack:=by
 obtain e |⟨e,hf⟩:=I.ok.stk
 ·rw[e];exact I.jl
 rw[e];let(m,hn,_):=I.loc;exact .cons (by rw[I.ok.kind];decide) hf hn (Rw (vN I.ok.bsz I.ok.above)) I.jl
def Inv.lV(I:Inv X gd σ H s):∀b∈frs X.stack,b∈X.env.locals::X.fs:=λb g=>by
 obtain e |⟨e,hf⟩:=I.ok.stk
 ·rw[e]at g;exact mm _ g
 rw[e]at g;unfold frs at g;rw[Sn,hf]at g;exact g
def Inv.i7(I:Inv X gd σ H s):∀b∈frs X.stack,H b=none:=λb g=>by
 obtain e|g:=ot.mp (I.lV b g)
 ·rw[e];exact I.free
 let(_,o,ho,_):=I.ok.jl.mem g;exact I.base.free b o ho (I.ok.frf b g) λz=>I.ok.Ci b z g
def Inv.step{g':Array GenState}{t':Nat}{d':Drawn}(I:Inv X gd σ H s)
  (K:∀b∈ch,(b∈X.ex\/X.s₀.heap.objs.size<=b)/\b≠X.env.locals/\(∀x c,X.env.cells.lookup x=Z c->c≠b)/\∀p∈X.pn++gd,p.1≠b)
  (keep:∀b o,b≠X.env.locals->b ∉ X.fs->b ∉ ch->s.heap.get? b=Z o->H b=Y->h'.get? b=Z o)
  (slot:∀b o,b≠X.env.locals->b∈X.fs->b ∉ ch->s.heap.get? b=Z o->H b=Y->∃sl,h'.get? b=Z {o with slots:=sl}) (free:∀b o,b ∉ ch->s.heap.get? b=Z o->H b=Y->H' b=Y)
  (there:∀b o,b ∉ ch->s.heap.get? b=Z o->∃o',h'.get? b=Z o')
  (lQ:∀b xs,H b=Z (.tup xs)->H' b=Z (.tup xs)) (iO:∀b o u,H b=Z (.frz o u)->H' b=Z (.frz o u)) (lT:∀b ps,H b=Z (.tbl ps)->∃more,H' b=Z (.tbl (ps++more)))
  (ns:∀m,s.heap.Ns X.env.locals m->h'.Ns X.env.locals m) (hok:HOk X.prog X.w H' h') (hg:AllBare g'):
  Inv X gd σ H' {s with heap:=h',gens:=g',drawn:=d',toks:=t'}:=by
 have aN:∀b o,X.s₀.heap.get? b=Z o->b≠X.env.locals:=λb o e=>x8 (u4 (rg e) I.ok.above);have P:∀b o,X.s₀.heap.get? b=Z o->b ∉ X.ex->b ∉ ch:=λb o e hx V=>by
  obtain z|z:=(K b V).1
  ·exact hx z
  exact absurd (u4 (rg e) z) (Gj _)
 have cellK:∀x c,X.env.cells.lookup x=Z c->∀v,s.heap.IsCell c v->h'.IsCell c v:=λx c e v (o,ho,hd)=>by
  have g:=λz=>(K c z).2.2.1 x c e U;by_cases hc:c∈X.fs
  ·let(sl,q):=slot c o (I.cne x c e) hc g ho (I.df x c e);exact(_,q,hd)
  exact(o,keep c o (I.cne x c e) hc g ho (I.df x c e),hd)
 refine(I.ok,I.os,hg,(λb o e n V hx=>?_,λb o e n V hx=>?_,λb o e n hx=>?_,λb o e hx=>?_,λb xs e=>lQ b xs (I.base.lQ b xs e),λb o xs e=>iO b o xs (I.base.iO b o xs e),λb ps e=>?_),?_,λx c e=>?_,?_,λx c e=>?_,λp hp=>?_,hok,I.len)
 ·exact keep b o (aN b o e) V (P b o e hx) (I.base.keep b o e n V hx) (I.base.free b o e n hx)
 ·let(sl,Q):=I.base.slot b o e n V hx;let(aP,e2):=slot b _ (aN b o e) V (P b o e hx) Q (I.base.free b o e n hx);exact(aP,e2)
 ·let(o',Q):=I.base.there b o e hx;exact free b o' (P b o e hx) Q (I.base.free b o e n hx)
 ·let(o',Q):=I.base.there b o e hx;exact there b o' (P b o e hx) Q
 ·let(m1,Q):=I.base.lT b ps e;let(m2,e2):=lT b _ Q;exact(m1++m2,by rw[e2,Array.append_assoc])
 ·let(m,hn,hl):=I.loc;refine(m,ns m hn,λi x v Q e2 e3=>?_);let(u,r,l):=hl i x v Q e2 e3;refine(u,r,?_);obtain l |⟨k,c,e,z⟩:=l
  ·exact .inl l
  exact .inr (k,c,e,cellK x c e _ z)
 ·let(v,z):=I.cell x c e;exact(v,cellK x c e v z)
 ·let(m,(o,_,_,ho,_),_):=I.loc;exact free _ o (λz=>(K _ z).2.1 U) ho I.free
 ·let(v,o,ho,hd):=I.cell x c e;exact free c o (λz=>(K c z).2.2.1 x c e U) ho (I.df x c e)
 let(e,n,ne,nf,d):=I.pin p hp;have g:=λz=>(K p.1 z).2.2.2 p hp U;exact(keep p.1 p.2 ne nf g e n,free p.1 p.2 g e n,ne,nf,d)
def Inv.un(I:Inv X gd σ H s)(u:Un X.fs [] H H' s.heap h')(hok:HOk X.prog X.w H' h'):Inv X gd σ H' {s with heap:=h',toks:=t'}:=by let(m,(o,es,V,ho,r),_):=id I.loc;let(sl,Q):=u.any ho I.free ap;exact I.step (ch:=[]) nofun (λb o _ q _ e n=>u.keep b o e n q ap) (λb o _ q _ e n=>u.slot b o e n q ap) (λb o _ e n=>u.free b o e n ap) (λb o _ e=>u.there b o e ap) u.lQ u.iO u.lT (λm' hm=>by let(o',K,P,g,r'):=hm;rw[ho]at g;cases g;exact(_,K,P,Q,r')) hok I.bare
def Inv.call{g':Array GenState}{t':Nat}{d':Drawn}{ch:Θ}(I:Inv X gd σ H s)(u:Un (frs X.stack) ch H H' s.heap h')(hok:HOk X.prog X.w H' h')(hg:AllBare g')
  (K:∀b∈ch,(b∈X.ex\/X.s₀.heap.objs.size<=b)/\b≠X.env.locals/\(∀x c,X.env.cells.lookup x=Z c->c≠b)/\∀p∈X.pn++gd,p.1≠b):
  Inv X gd σ H' {s with heap:=h',gens:=g',drawn:=d',toks:=t'}:=by
 let(m,(o,es,ep,ho,r),_):=id I.loc;let(sl,P):=u.any ho I.free λz=>(K _ z).2.1 U;exact I.step K (λb o P hb g e n=>u.keep b o e n (λz=>(ot.mp (I.lV b z)).elim P hb) g) (λb o _ _ g e n=>u.any e n g) (λb o g e n=>u.free b o e n g) (λb o g e=>u.there b o e g) u.lQ u.iO u.lT (λm' hm=>by let(o',Q,V,q,r'):=hm;rw[ho]at q;cases q;exact(_,Q,V,P,r')) hok hg
def Inv.turned(I:Inv X gd σ H s)(k:∀b o,b≠it->s.heap.get? b=Z o->h'.get? b=Z o)(hn:H it=Y)(P:it≠X.env.locals)
  (h1:it∈X.ex\/X.s₀.heap.objs.size<=it) (h2:∀x c,X.env.cells.lookup x=Z c->c≠it) (h3:∀p∈X.pn++gd,p.1≠it):Inv X gd σ H {s with heap:=h',toks:=t'}:=by
 have K:∀b u,H b=Z u->b≠it:=λb u e z=>by rw[z,hn]at e;cases e
 refine I.step (ch:=[it]) (λb Q=>?_) (λb o _ _ g e _=>k b o (λz=>g (by simp[z])) e) (λb o _ _ g e _=>(o.slots,k b o (λz=>g (by simp[z])) e)) (λ_ _ _ _ n=>n)
  (λb o g e=>(o,k b o (λz=>g (by simp[z])) e)) (λ_ _ e=>e) (λ_ _ _ e=>e) (λb ps e=>(#[],by rw[e];simp)) (λm hm=>?_) (λb u e=>?_) I.bare
 ·have e:=(Q:);subst e;exact(h1,P,h2,h3)
 ·let(o,es,V,ho,r):=hm;exact(o,es,V,k _ o (Ne.symm P) ho,r)
 refine(I.hok b u e).cJ (λc v g q=>k c v ?_ q) (λ_ q=>q) λ_ _ q=>q;obtain z|z:=g
 ·rw[z];exact K b u e
 exact K c _ z
def Inv.tok(I:Inv X gd σ H s)(t:Nat):Inv X gd σ H {s with toks:=t}:=I.un Un.refl I.hok
theorem Inv.kept{t':Nat}(I:Inv X gd σ H s)(k:∀b u,s.heap.get? b=Z u->h'.get? b=Z u):Inv X gd σ H {s with heap:=h',toks:=t'}:=I.un (Un.kept k) (I.hok.kept k)
theorem Inv.laid{a:J}{o:HO}{t':Nat}(I:Inv X gd σ H s)(k:∀b u,s.heap.get? b=Z u->h'.get? b=Z u)(hp:s.heap.objs.size<=a)(new:bZ X.prog X.w (upd H a o) h' a o):
  Inv X gd σ (upd H a o) {s with heap:=h',toks:=t'}:=I.un (Un.laid k hp (I.hok.fresh hp)) (I.hok.laid k hp new)
theorem Inv.write{x e:J}{o:HO}{t':Nat}(I:Inv X gd σ H s)(q:Mut (H x))(he:e=x\/H e=Z (.own x))(k:∀b u,b≠e->s.heap.get? b=Z u->h'.get? b=Z u)(g:∃u,h'.get? e=Z u)
  (new:bZ X.prog X.w (upd H x o) h' x o):Inv X gd σ (upd H x o) {s with heap:=h',toks:=t'}:=I.un (Un.write q he k g) (I.hok.write q he k g new)
def Inv.kz{pins':Ξ}(I:Inv X gd σ H s)(h:∀p∈pins',s.heap.get? p.1=Z p.2/\H p.1=Y/\p.1≠X.env.locals/\p.1 ∉ X.fs/\∀v,p.2.data ≠ .cell v):Inv X pins' σ H s:=
 (I.ok,I.os,I.bare,I.base,I.loc,I.cell,I.free,I.df,λp hp=>(rh.mp hp).elim (λz=>I.pin p (vr _ z)) (h p),I.hok,I.len)
def wZ(g:N.Nodup){i:Nat}(a:N[i]?=Z x)(b:N[j]?=Z x):i=j:=by let(h1,z):=mT.mp a;let(h2,q):=mT.mp b;exact(List.getElem_inj g).mp (z.trans q.symm)
abbrev AT(X:Cx)(x:Str):Prop:=X.fn x=true\/X.env.scope.names.lookup x=some .local
def Bq{M:Model}{A:Db}{E:Φ}{i:Nat}{v:V}{Q:Unit->ϋ->Prop}(I:Inv X gd σ H s)(hN:X.N.Nodup)(hi:X.N[i]?=Z x)(hx:Loc X.env.scope x)(r:RelV v u)
  (h:∀s',Inv X gd (σ.set i (Z v)) H s'->(∃a,R0 a s.heap s'.heap/\(a=X.env.locals\/X.env.cells.lookup x=Z a))->Q () s') (hf:AT X x:=by first|exact .inl rfl|exact .inr rfl|assumption):wpAny M A (storeName X.env x u) Q E s:=by
 let(m,hn,hl):=id I.loc;have Cd:(X.env.scope.kind == .class ||(X.env.scope.kind == .module&&X.env.locals != X.env.globals))=false:=by rw[I.ok.kind];rfl
 have aN:i < σ.length:=by rw[I.len];exact(mT.mp hi).1
 have cne:=I.cne;have tracked:∀{a:J}{h':Dd},(∃o,s.heap.get? a=Z o/\H a=Y)->R0 a s.heap h'->HOk X.prog X.w H h':=λ{a h'} ha hs b ob e=>by
  let(_,_,ff):=ha;refine(I.hok b ob e).cJ (λc w' K q=>(hs.2 c ?_).trans q) (λ_ q=>q) λ_ _ q=>q;rintro rfl;obtain rfl|K:=K
  ·rw[ff]at e;cases e
  rw[ff]at K;cases K
 obtain hk|hk:=hx
 ·refine wpAny_storeName_local hk hn (λh' bc hs=>?_) Cd;let(oL,_,_,a5,_):=id hn;refine h _ (I.ok,I.os,I.bare,(λb o e n hb hx=>?_,λb o e n hb hx=>?_,I.base.free,λb o e hx=>?_,I.base.lQ,I.base.iO,I.base.lT),(_,bc,λj y v' g P e3=>?_),λy c e=>?_,I.free,I.df,λp hp=>?_,tracked (oL,a5,I.free) hs,(I.len:)) (_,hs,.inl U)
  ·exact(hs.2 b (x8 (u4 (rg e) I.ok.above))).trans (I.base.keep b o e n hb hx)
  ·let(sl,g):=I.base.slot b o e n hb hx;exact(sl,(hs.2 b (x8 (u4 (rg e) I.ok.above))).trans g)
  ·let(o',g):=I.base.there b o e hx;exact(o',(hs.2 b (x8 (u4 (rg e) I.ok.above))).trans g)
  ·by_cases hj:j=i
   ·subst hj;rw[hi]at g;cases g;rw[Ny aN]at P;cases P;exact(u,r,.inl (hk,ap))
   rw[JT (Ne.symm hj)]at P;let(u',r',q):=hl j y v' g P e3;refine(u',r',?_);obtain⟨k,e⟩|⟨k,c,e,z⟩:=q
   ·refine .inl (k,?_);have:y≠x:=λe=>hj (wZ hN g (e▸hi));simp[this,e]
   exact .inr (k,c,e,z.sameBut hs (cne y c e))
  ·let(w',z):=I.cell y c e;exact(w',z.sameBut hs (cne y c e))
  let(e,n,ne,nf,d):=I.pin p hp;exact((hs.2 p.1 ne).trans e,n,ne,nf,d)
 have aP:X.fn x=true:=by
  obtain z|z:=hf
  ·exact z
  rw[z]at hk;cases hk
 let(c,K):=I.ok.has x (.inl hk);let(w',z):=I.cell x c K;refine wpAny_storeName_cell I.ok.kind hk K z (λh' a3 hs=>?_);let(oc,aT,Qq):=id z;refine h {s with heap:=h'} (I.ok,I.os,I.bare,(λb o e n hb hx=>?_,λb o e n hb hx=>?_,I.base.free,λb o e hx=>?_,I.base.lQ,I.base.iO,I.base.lT),(m,hn.sameBut hs (Ne.symm (cne x c K)),λj y v' g P e3=>?_),λy c' e=>?_,I.free,I.df,λp hp=>?_,tracked (oc,aT,I.df x c K) hs,(I.len:)) (c,hs,.inr K)
 ·exact(hs.2 b (x8 (u4 (rg e) (I.ok.cab x c aP K)))).trans (I.base.keep b o e n hb hx)
 ·let(sl,g):=I.base.slot b o e n hb hx;exact(sl,(hs.2 b (x8 (u4 (rg e) (I.ok.cab x c aP K)))).trans g)
 ·let(o',g):=I.base.there b o e hx;exact(o',(hs.2 b (x8 (u4 (rg e) (I.ok.cab x c aP K)))).trans g)
 ·by_cases hj:j=i
  ·subst hj;rw[hi]at g;cases g;rw[Ny aN]at P;cases P;exact(u,r,.inr (.inl hk,c,K,a3))
  rw[JT (Ne.symm hj)]at P;let(u',r',q):=hl j y v' g P e3;refine(u',r',?_);obtain q |⟨k,c',e,z'⟩:=q
  ·exact .inl q
  refine .inr (k,c',e,z'.sameBut hs ?_);rintro rfl;exact hj (wZ hN g (I.ok.inj _ _ _ e K▸hi))
 ·by_cases a0:c'=c
  ·subst a0;exact(_,a3)
  let(w2,z2):=I.cell y c' e;exact(w2,z2.sameBut hs a0)
 let(e,n,ne,nf,d):=I.pin p hp;refine((hs.2 p.1 ?_).trans e,n,ne,nf,d);intro q;rw[q,aT]at e;have q':=Option.some.inj e;exact d w' (by rw[<- q'];exact Qq)
def fW{M:Model}{A:Db}{E:Φ}{i:Nat}{v:V}{Q:Unit->ϋ->Prop}(I:Inv X gd σ H s)(g:X.N.Nodup)(hi:X.N[i]?=Z x)(hx:Loc X.env.scope x)(r:RelV v u)
  (h:∀s',Inv X gd (σ.set i (Z v)) H s'->Q () s') (hf:AT X x:=by first|exact .inl rfl|exact .inr rfl|assumption):wpAny M A (storeName X.env x u) Q E s:=
 Bq I g hi hx r (λs' q _=>h s' q) hf
def Inv.xP(I:Inv X gd σ H s)(ho:s'.os=s.os)(u:Un (frs X.stack) ch H H' s.heap s'.heap)(hok:HOk X.prog X.w H' s'.heap)(hg:AllBare s'.gens)
  (g:∀b∈ch,(b∈X.ex\/X.s₀.heap.objs.size<=b)/\b≠X.env.locals/\(∀x c,X.env.cells.lookup x=Z c->c≠b)/\∀p∈X.pn++gd,p.1≠b):Inv X gd σ H' s':=by
 let(h',g',q,t',o'):=s';have e:=ho;subst e;exact I.call u hok hg g
end
abbrev XK:=B->Option J->Hp->Prop
abbrev St:=List (Option V)
abbrev VK:=V->Hp->Prop
abbrev TE:=St->Hp->VK->Prop
abbrev TT:=St->Hp->(Bool->Hp->Prop)->Prop
abbrev TA:=St->Hp->(Ω->Hp->Prop)->Prop
structure Ends where
 nx:St->Hp->Prop
 rt:VK
 bk:St->Hp->Prop:=λ_ _=>False
 ct:St->Hp->Prop:=λ_ _=>False
abbrev TS:=Ends->St->Hp->Prop
inductive EP(X:Cx)(gd:Ξ)(σ:St)(Q:VK)(u:B)(s':ϋ):Prop
 |mk(v H':_)(h1:Inv X gd σ H' s')(h2:RelV v u)(h3:Q v H')
inductive TP(X:Cx)(gd:Ξ)(σ:St)(Q:Bool->Hp->Prop)(b:Bool)(s':ϋ):Prop
 |mk(H':_)(h1:Inv X gd σ H' s')(h2:Q b H')
inductive AP(X:Cx)(gd:Ξ)(σ:St)(Q:Ω->Hp->Prop)(us:Δ)(s':ϋ):Prop
 |mk(vs H':_)(h1:Inv X gd σ H' s')(h2:Vals vs us)(h3:Q vs H')
def SP(X:Cx)(gd:Ξ)(D:Ends)(f:Flow)(s':ϋ):Prop:=
 match f with|.next=>∃g H',Inv X gd g H' s'/\D.nx g H'|.brk=>∃g H',Inv X gd g H' s'/\D.bk g H'|.cont=>∃g H',Inv X gd g H' s'/\D.ct g H'|.ret u=>∃v g H',Inv X gd g H' s'/\RelV v u/\D.rt v H'
def PE(X:Cx)(e:Do)(t:TE):Prop:=
 ∀(gd:Ξ)(s:ϋ)(σ:St)(H:Hp)(Q:VK),Inv X gd σ H s->t σ H Q->Zc X (eval e X.env) (EP X gd σ Q) X.xe s
def PT(X:Cx)(e:Do)(t:TT):Prop:=
 ∀(gd:Ξ)(s:ϋ)(σ:St)(H:Hp)(Q:Bool->Hp->Prop),Inv X gd σ H s->t σ H Q->Zc X (isTrue e X.env (eval e X.env)) (TP X gd σ Q) X.xe s
def PW(X:Cx)(e:Do)(t:TT):Prop:=
 ∀(whole:Sem B)(gd:Ξ)(s:ϋ)(σ:St)(H:Hp)(Q:Bool->Hp->Prop),Inv X gd σ H s->t σ H Q->Zc X (isTrue e X.env whole) (TP X gd σ Q) X.xe s
variable{X:Cx}{e:Do}
def PW.pt{t:TT}(h:PW X e t):PT X e t:=h _
def PA(X:Cx)(es:List Do)(t:TA):Prop:=
 ∀(pos:Pos)(gd:Ξ)(s:ϋ)(σ:St)(H:Hp)(Q:Ω->Hp->Prop),Inv X gd σ H s->t σ H Q->Zc X (spliced (backTo pos (nY es X.env))) (AP X gd σ Q) X.xe s
def PS(X:Cx)(st:Ev)(t:TS):Prop:=
 ∀(gd:Ξ)(s:ϋ)(σ:St)(H:Hp)(D:Ends),Inv X gd σ H s->t D σ H->Zc X (exec st X.env) (SP X gd D) X.xe s
def PSs(X:Cx)(st:List Ev)(t:TS):Prop:=
 ∀(gd:Ξ)(s:ϋ)(σ:St)(H:Hp)(D:Ends),Inv X gd σ H s->t D σ H->Zc X (execs st X.env) (SP X gd D) X.xe s
variable{M:Model}{A:Db}{E:Φ}
def thn{α:Type}{t:Sem α}{Q Q':α->ϋ->Prop}{s:ϋ}(h:wpAny M A t Q E s)(g:∀a s,Q a s->Q' a s):wpAny M A t Q' E s:=JZ h g λ_ _ x=>x
variable{gd:Ξ}{Q:Φ}{op:CmpOp}
section
inductive bN(i:Nat)(σ:St)(H:Hp)(Q:VK):Prop
 |mk(v:_)(h1:σ[i]?=Z (Z v))(h2:Q v H)
def tC(v:V):TE:=λ_ H Q=>Q v H
abbrev AS(x:Str):Prop:=(x ==("__debug__":Str))=false
def Et{i:Nat}{pos:Pos}(P:X.N[i]?=Z x)(hv:Vis X.env.scope x)(hd:autoParam (AS x) zdc._auto_1)(q:autoParam ((x ==("__classdict__":Str))=false) zdc._auto_1):PE X (.Name x pos) (bN i):=by
 left;let(v,e,h):=h;let(m,hn,hl):=I.loc;let(u,r,l):=hl i x v P e hv;have fin:EP X gd σ Q u s:=(v,H,I,r,h);obtain⟨g,hm⟩|⟨g,c,z,K⟩:=l
 ·exact wpAny_Name (wpAny_loadName_local I.ok.kind g hn hm fin) hd
 obtain g|g:=g
 ·exact wpAny_Name (wpAny_loadName_cell I.ok.kind g z K fin) hd
 exact wpAny_Name (wpAny_loadName_free I.ok.kind g z K fin q) hd
def bt{i j pos}:PE X (.Constant (.int i) j pos) (tC (.int i)):=λ_ _ _ H _ I h=>wpAny_Constant_int (.int i,H,I.tok _,(_,U),h)
def Oz{b j pos}:PE X (.Constant (.bool b) j pos) (tC (.bl b)):=λ_ _ _ H _ I h=>Constant_bool (.bl b,H,I,U,h)
def L7{j pos}:PE X (.Constant .none j pos) (tC .non):=λ_ _ _ H _ I h=>Constant_none (.non,H,I,U,h)
def cQ{x j pos}:PE X (.Constant (.str x) j pos) (tC (.str x)):=λ_ _ _ H _ I h=>Calls.Constant_str (.str x,H,I.tok _,(_,U),h)
def Gl(X:Cx)(x:Str):Prop:=X.env.kindOf x=Z .globalImplicit
def kI{E:Φ}{s:ϋ}{σ:St}{pos:Pos}(I:Inv X gd σ H s)(hg:Gl X x)(hm:X.mg x=Z u)(h:Q u s)
  (hd:autoParam (AS x) zdc._auto_1):Zc X (eval (.Name x pos) X.env) Q E s:=
 Calls.Name_function_global I.ok.kind hg (Calls.loadGlobal_global (by rw[I.ok.glob];exact I.mod.glob.keeps I.bk) hm h) hd
def gN{E:Φ}{s:ϋ}{σ:St}{pos:Pos}(I:Inv X gd σ H s)(hg:Gl X x)(hm:X.mg x=Y)(hv:bootBuiltins x=Z u)(h:Q u s)
  (hn:autoParam (x ≠ "__name__") zdc._auto_1) (hd:autoParam (AS x) zdc._auto_1):Zc X (eval (.Name x pos) X.env) Q E s:=by
 let(mb,h1,h2):=I.mod.blt;exact Calls.Name_function_global I.ok.kind hg (Calls.loadGlobal_builtin (by rw[I.ok.glob];exact I.mod.glob.keeps I.bk) hm (by rw[I.ok.blt];exact h1.keeps I.bk) ((h2 x hn).trans hv) h) hd
variable{a b:Do}{ta tb:TE}{pos:Pos}
def EW(b:Do)(h:op ≠ .In)(h2:op ≠ .NotIn):behindInMarks op b=false:=by
 have q:(op==CmpOp.In)=false:=by cases op <;> first|rfl|exact absurd U h
 have g:(op==CmpOp.NotIn)=false:=by cases op <;> first|rfl|exact absurd U h2
 cases b with
 |Set elts k pos =>
  show(k==0&&(op==CmpOp.In||op==CmpOp.NotIn)&&_)=ϊ;rw[q,g];cases(k==0) <;> rfl
 |_=>rfl
variable{tA tB':TT}{rest:List Do}
def K6(t u:TT):TT:=λσ H Q=>t σ H λc H1=>if c=O then u σ H1 Q else Q ϊ H1
def tOr(t u:TT):TT:=λσ H Q=>t σ H λc H1=>if c=O then Q O H1 else u σ H1 Q
def K4(t:TT):TT:=λσ H Q=>t σ H λc H1=>Q (!c) H1
def Af(g:PT X a tA):PW X (.BoolOp .And [a] pos) tA:=by intro q gd s σ H Q I h;refine isTrue_and (thn (g gd s σ H Q I h) λc s1 e=>?_);cases c with|true=>exact isTrue_and_nil e|false=>exact e
def LC(g:PT X a tA):PW X (.BoolOp .Or [a] pos) tA:=by intro q gd s σ H Q I h;refine isTrue_or (thn (g gd s σ H Q I h) λc s1 e=>?_);cases c with|false=>exact isTrue_or_nil e|true=>exact e
def Ea(V:PT X a tA)(P:PW X (.BoolOp .And (b::rest) pos) tB'):PW X (.BoolOp .And (a::b::rest) pos) (K6 tA tB'):=by intro K gd s σ H Q I h;refine isTrue_and (thn (V gd s σ H _ I h) λc s1 g=>?_);let(H1,z,q):=g;cases c with|true=>exact P K gd s1 σ H1 Q z q|false=>exact(H1,z,q)
def Oo(V:PT X a tA)(P:PW X (.BoolOp .Or (b::rest) pos) tB'):PW X (.BoolOp .Or (a::b::rest) pos) (tOr tA tB'):=by intro K gd s σ H Q I h;refine isTrue_or (thn (V gd s σ H _ I h) λc s1 g=>?_);let(H1,z,q):=g;cases c with|true=>exact(H1,z,q)|false=>exact P K gd s1 σ H1 Q z q
def LH(g:PT X a tA):PT X (.UnaryOp .Not a pos) (K4 tA):=by left;refine isTrue_not (thn (g gd s σ H (λc H1=>Q (!c) H1) I h) λc s' z=>?_);let(H',K,q):=z;exact(H',K,q)
def tIf(t:TT)(ta tb:TE):TE:=λσ H Q=>t σ H λc H1=>if c=O then ta σ H1 Q else tb σ H1 Q
def Ex{c:Do}(K:PT X c tA)(V:PE X a ta)(P:PE X b tb):PE X (.IfExp c a b pos) (tIf tA ta tb):=by left;refine wpAny_IfExp (thn (K gd s σ H _ I h) λd s1 g=>?_);let(H1,z,q):=g;cases d with|true=>exact V gd s1 σ H1 Q z q|false=>exact P gd s1 σ H1 Q z q
end
def SqL(K:BT)(H:Hp)(a:J)(xs:Ω):Prop:=
 Rd H a (.lst xs) \/
  ∃(o:Obj)(its:Array B)(n:Nat),K.lookup a=Z o/\o.cls=.type "list" /\ o.dict=Y/\o.data=.seq its n/\its.size<=p6/\Vals xs its.toList
def SqT(K:BT)(H:Hp)(a:J)(xs:Ω):Prop:=
 Rd H a (.tup xs) \/
  ∃(o:Obj)(its:Array B)(n:Nat),K.lookup a=Z o/\o.cls=.type "tuple" /\ o.data=.seq its n/\its.size<=p6/\Vals xs its.toList
def QZ:B->Option V
 |.none=>Z .non|.bool b=>Z (.bl b)|.int i _=>Z (.int i)|.str x _=>Z (.str x)|.bytes b _=>Z (.byt b)|.float b _=>Z (.flt b)|.ref a=>Z (.ref a)|.type n=>Z (.ty n)|_=>Y
def RelV.abs{x:V}(r:RelV x u):QZ u=Z x:=by
 cases x with
 |non=>cases r;rfl
 |bl _=>cases r;rfl
 |int _=>let(t,U):=r;rfl|str _=>let(t,U):=r;rfl|byt _=>let(t,U):=r;rfl|flt _=>let(t,U):=r;rfl|ref _=>cases r;rfl
 |ty _=>cases r;rfl
theorem RelV.inj{x y:V}{u:B}(r:RelV x u)(q:RelV y u):x=y:=Option.some.inj (r.abs.symm.trans q.abs)
theorem Vals.inj:∀{xs ys:Ω}{us:Δ},Vals xs us->Vals ys us->xs=ys:=by
 intro xs ys us h;induction h generalizing ys with
 |nil=>intro h';cases h';rfl
 |cons r t g=>intro h';cases h' with|cons r' t'=>rw[r.inj r',g t']
section
variable{σ:St}{s:ϋ}
theorem SqL.of{K:BT}(h:H a=Z (.lst xs)):SqL K H a xs:=.inl (.inl h)
theorem SqT.of{K:BT}(h:H a=Z (.tup xs)):SqT K H a xs:=.inl (.inl h)
def Inv.list(I:Inv X gd σ H s)(h:SqL X.K H a xs):∃its:Δ,Vals xs its/\PlainL s.heap a its.toArray/\xs.length<=p6:=by
 obtain h |⟨o,its,n,g,q,hd,hs,P,r⟩:=h
 ·let(z,its,n,r,e):=h.ok I.hok;exact(its,r,(_,n,e,U,U,U),z)
 refine(its.toList,r,(o,n,I.kIn a o g,q,hd,(hs:)),?_);have e:=r.length;simp only[RQ]at e;lia
def Inv.tuple(I:Inv X gd σ H s)(h:SqT X.K H a xs):∃its:Δ,Vals xs its/\IsTup s.heap a its.toArray/\xs.length<=p6:=by
 obtain h |⟨o,its,n,g,q,hs,P,r⟩:=h
 ·let(z,its,r,p):=h.ok I.hok;exact(its,r,p.1,z)
 refine(its.toList,r,(o,I.kIn a o g,q,n,(hs:)),?_);have e:=r.length;simp only[RQ]at e;omega
def Inv.qj(I:Inv X gd σ H s)(h:SqL X.K H a xs)(h':SqL X.K H a ys):xs=ys:=by
 let(its,r,(o,n,e,_,_,d),_):=I.list h;let(z,r',(o',n',g,_,_,q),_):=I.list h';rw[e]at g;cases g;rw[d]at q;injection q with d1 _
 have:=(congrArg Array.toList d1:);subst this;exact r.inj r'
def Inv.sC(I:Inv X gd σ H s)(h:SqT X.K H a xs)(h':SqT X.K H a ys):xs=ys:=by
 let(its,r,(o,e,_,n,d),_):=I.tuple h;let(z,r',(o',g,_,n',q),_):=I.tuple h';rw[e]at g;cases g;rw[d]at q;injection q with d1 _
 have:=(congrArg Array.toList d1:);subst this;exact r.inj r'
end
abbrev Cx.rH(X:Cx)(E:Φ):Cx:={X with xe:=E}
abbrev Cx.nox(X:Cx):Cx:=X.rH λ_ _=>False
theorem Cx.Ok.rH{X:Cx}(ok:X.Ok)(E:Φ):(X.rH E).Ok:=
 (ok.mod,ok.kind,ok.glob,ok.blt,ok.above,ok.inj,ok.has,ok.cab,ok.hd,ok.frames,ok.stk,ok.exf,ok.bs,ok.bsz,ok.zh,ok.Ci,ok.jl,ok.frf)
def Cx.Ok.ie(ok:(X.rH E).Ok):X.Ok:=
 (ok.mod,ok.kind,ok.glob,ok.blt,ok.above,ok.inj,ok.has,ok.cab,ok.hd,ok.frames,ok.stk,ok.exf,ok.bs,ok.bsz,ok.zh,ok.Ci,ok.jl,ok.frf)
section
variable{σ:St}{s:ϋ}
theorem Inv.rH(I:Inv X gd σ H s)(E:Φ):Inv (X.rH E) gd σ H s:=(I.ok.rH E,I.os,I.bare,I.base,I.loc,I.cell,I.free,I.df,I.pin,I.hok,I.len)
theorem Inv.ie(I:Inv (X.rH E) gd σ H s):Inv X gd σ H s:=(I.ok.ie,I.os,I.bare,I.base,I.loc,I.cell,I.free,I.df,I.pin,I.hok,I.len)
theorem SP.ie{D:Ends}{f:Flow}{s':ϋ}(h:SP (X.rH E) gd D f s'):SP X gd D f s':=by cases f with|next=>let(g,H',I,q):=h;exact(g,H',I.ie,q)|brk=>let(g,H',I,q):=h;exact(g,H',I.ie,q)|cont=>let(g,H',I,q):=h;exact(g,H',I.ie,q)|ret u=>let(v,g,H',I,r,q):=h;exact(v,g,H',I.ie,r,q)
theorem PSs.nox{st:List Ev}{t:TS}(h:PSs X.nox st t):PSs X st t:=λgd s σ H D I hw =>
 JZ (h gd s σ H D (I.rH _) hw) (λ_ _ q=>q.ie) λ_ _ z=>False.elim z
end
section
variable{st:Ev}{rest:List Ev}{t u:TS}{te:TE}{pos:Pos}
def J5:TS:=λD σ H=>D.nx σ H
def K0(t u:TS):TS:=λD σ H=>t {D with nx:=u D} σ H
def Aj:PSs X [] J5:=λ_ _ σ H _ I h=>wpAny_execs_nil (σ,H,I,h)
def bq(h1:PS X st t)(h2:PSs X rest u):PSs X (st::rest) (K0 t u):=by right;refine wpAny_execs_cons (thn (h1 gd s σ H {D with nx:=u D} I h) λf s1 q=>?_);cases f with|next =>let(g,H',z,q):=q;exact h2 gd s1 g H' D z q|ret v=>exact q|brk=>exact q|cont=>exact q
def dZ(h1:PS X st t):PSs X [st] t:=by right;refine wpAny_execs_cons (thn (h1 gd s σ H D I h) λf s1 q=>?_);cases f with|next=>exact wpAny_execs_nil q|ret v=>exact q|brk=>exact q|cont=>exact q
def Inv.quiet{σ:St}{s:ϋ}(I:Inv X gd σ H s):interactive X.env=false:=by simp[interactive,I.ok.kind]
def j9(te:TE):TS:=λD σ H=>te σ H λ_ H1=>D.nx σ H1
def oq(he:PE X e te)(hs:‹swapsWith e Y pos.line X.env=pure false›):PS X (.Expr e pos) (j9 te):=by right;exact wpAny_Expr_any (thn (he gd s σ H _ I h) λv s1 (x,H1,q,z,g)=>(σ,H1,q,g)) I.quiet hs
def G7(te:TE):TS:=λD σ H=>te σ H D.rt
def mq(he:PE X e te):PS X (.Return (Z e) pos) (G7 te):=by right;exact wpAny_Return_some (thn (he gd s σ H _ I h) λv s1 (x,H1,z,g,q)=>(x,σ,H1,z,g,q))
def K5(c:TT)(t u:TS):TS:=λD σ H=>c σ H λb H1=>if b=O then t D σ H1 else u D σ H1
def Eg{c:Do}{a b:List Ev}{tc:TT}(K:PT X c tc)(Q:PSs X a t)(P:PSs X b u):PS X (.If c a b pos) (K5 tc t u):=by right;refine wpAny_If (thn (K gd s σ H _ I h) λd s1 g=>?_);let(H1,z,q):=g;cases d with|true=>exact Q gd s1 σ H1 D z q|false=>exact P gd s1 σ H1 D z q
def CV:TS:=λ_ _ _=>False
def Ef:PS X st CV:=λ_ _ _ _ _ _ h=>h.elim
end
abbrev TG:=V->St->Hp->(St->Hp->Prop)->Prop
abbrev TGs:=Ω->St->Hp->(St->Hp->Prop)->Prop
def PG(X:Cx)(target:Do)(t:TG):Prop:=
 ∀(gd:Ξ)(s:ϋ)(σ:St)(H:Hp)(v:V)(u:B)(Q:St->Hp->Prop),Inv X gd σ H s->RelV v u->t v σ H Q ->
  Zc X (assign target X.env u) (λ_ s'=>∃g H',Inv X gd g H' s'/\Q g H') X.xe s
def PGs(X:Cx)(ts:List Do)(t:TGs):Prop:=
 ∀(gd:Ξ)(s:ϋ)(σ:St)(H:Hp)(vs:Ω)(us:Δ)(Q:St->Hp->Prop),Inv X gd σ H s->Vals vs us->t vs σ H Q ->
  Zc X (assignInOrder ((assignEach ts X.env).map (·.2)) us) (λ_ s'=>∃g H',Inv X gd g H' s'/\Q g H') X.xe s
abbrev Nt:=V->V->V->Hp->(Hp->Prop)->Prop
def Nv(X:Cx)(t:Nt):Prop:=
 ∀(gd:Ξ)(s:ϋ)(σ:St)(H:Hp)(o i v:V)(g iv u:B)(Q:Hp->Prop),Inv X gd σ H s->RelV o g->RelV i iv->RelV v u->t o i v H Q ->
  Zc X (setItem g iv u) (λ_ s'=>∃H',Inv X gd σ H' s'/\Q H') X.xe s
abbrev TIp:=V->V->Hp->VK->Prop
def PIp(X:Cx)(op:Operator)(t:TIp):Prop:=
 ∀(gd:Ξ)(s:ϋ)(σ:St)(H:Hp)(x y:V)(v u:B)(Q:VK),Inv X gd σ H s->RelV x v->RelV y u->t x y H Q ->
  Zc X (inplaceOp op v u) (EP X gd σ Q) X.xe s
variable{es:List Do}{n:Nat}{o:Do}{to:TE}{tg:Do}{te:TE}{pos':Pos}{b:Do}{py:Pos}
section
variable{pos:Pos}
def cU(i:Nat):TG:=λv σ H Q=>Q (σ.set i (Z v)) H
def kB{i:Nat}(g:X.N.Nodup)(hi:X.N[i]?=Z x)(hx:Loc X.env.scope x)(hf:AT X x:=by first|exact .inl rfl|exact .inr rfl|assumption):PG X (.Name x pos) (cU i):=by intro gd s σ H v u Q I r h;exact wpAny_assign_Name (fW I g hi hx r (λs' q=>(_,H,q,h)) hf)
def M1:TGs:=λvs σ H Q=>vs=[]/\Q σ H
def AF(t:TG)(u:TGs):TGs:=λvs σ H Q=>∃v r,vs=v::r/\t v σ H λg H'=>u r g H' Q
def oz:PGs X [] M1:=by intro gd s σ H vs us Q I r h;let(e,h):=h;subst e;exact assignInOrder_nil (σ,H,I,h)
def cy{t:TG}{u:TGs}(h1:PG X e t)(h2:PGs X es u)
  (hs:‹(assignEach (e::es) X.env).map (·.2)=assign e X.env ::(assignEach es X.env).map (·.2)›):PGs X (e::es) (AF t u):=by
 intro gd s σ H vs us Q I r h;let(v,V,K,h):=h;subst K;cases r with|cons r q =>rw[hs];exact assignInOrder_cons (thn (h1 gd s σ H _ _ _ I r h) λ_ s1 (g,H1,P,z)=>(h2 gd s1 g H1 _ _ Q P q z))
inductive Jv(K:BT)(n:Nat)(t:TGs)(v:V)(σ:St)(H:Hp)(Q:(St->Hp->Prop)):Prop
 |mk(a xs:_)(h1:v=.ref a)(h2:SqT K H a xs)(h3:xs.length=n)(h4:t xs σ H Q)
def L6{k:Nat}{t:TGs}(P:X.calm=O)(h:PGs X es t)
  (hn:‹(assignEach es X.env).length=n›) (g:‹(assignEach es X.env).findIdx? (·.1)=none›):PG X (.Tuple es k pos) (Jv X.K n t):=by
 intro gd s σ H v u Q I r hw;let(a,xs,V,hq,hl,hw):=hw;subst V;cases r;let(its,q,z,hz):=I.tuple hq;refine assign_Tuple_tuple (I.ok.hd P) z (by simp[hn,<- hl,q.length]) g λh' hx=>?_;have I1:=I.kept (t':=s.toks) λb o e=>hx b o (x8 (rg e)) e;exact h gd _ σ H xs _ Q I1 (q:) hw
def FD(to g:TE)(t:Nt):TG:=λv σ H Q=>to σ H λo H1=>g σ H1 λi z=>t o i v z λq=>Q σ q
def Er{i:Do}{q:TE}{t:Nt}(ho:PE X o to)(hi:PE X i q)(hs:Nv X t)
  (ha:∀v,assign (.Subscript o i pos) X.env v=(do
let g <- holding [v] (eval o X.env)
let iv <- holding [v,g] (eval i X.env)
standAt pos
holding [v,g,iv] (setItem g iv v)
release [v,g,iv] []):=by intro _;rfl):PG X (.Subscript o i pos) (FD to q t):=by
 intro gd s σ H v u Q I r h;exact gV (RA (thn (ho gd s σ H _ I h) λg s1 (x,H1,I1,K,q1)=>(gV (RA (thn (hi gd s1 σ H1 _ I1 q1) λiv s2 (y,H2,I2,z,V)=>(gV (wpAny_standAt (gV (RA (thn (hs gd s2 σ H2 x y v g iv u _ I2 K z r V) λ_ s3 (H3,I3,P)=>(wpAny_release (σ,H3,I3,P))))))))))))
def fV(te:TE)(g:TG):TS:=λD σ H=>te σ H λx H1=>g x σ H1 D.nx
def uG{g:TG}(he:PE X e te)(hg:PG X tg g)(hs:‹swapsWithSole [tg] e pos.line X.env=pure false›)(hw:‹swappedStores [tg] e X.env=pure none›)
  (h1:‹(assignEach [tg] X.env).map (·.2)=[assign tg X.env]›):PS X (.Assign [tg] e pos) (fV te g):=by
 right;refine wpAny_Assign_stores (thn (he gd s σ H _ I h) λv s1 z=>?_) hs hw;let(x,H1,Q,K,P):=z;rw[h1];exact thn (hg gd s1 σ H1 x v _ Q K P) λ_ s2 q=>q
def gF{i:Nat}(z:X.N.Nodup)(hi:X.N[i]?=Z x)(hx:Loc X.env.scope x)(he:PE X e te)(hs:‹swapsWith e (Z (.Name x pos')) pos.line X.env=pure false›)(hf:AT X x:=by first|exact .inl rfl|exact .inr rfl|assumption):
  PS X (.Assign [.Name x pos'] e pos) (fV te (cU i)):=by
 right;exact wpAny_Assign_Name (thn (he gd s σ H _ I h) λv s1 (y,H1,P,g,q)=>(fW P z hi hx g (λs2 K=>(_,H1,K,q)) hf)) hs
def K3(i j:Nat)(ta:TA):TS:=λD σ H=>ta σ H λvs H1=>∃v w,vs=[v,w]/\D.nx ((σ.set i (Z v)).set j (Z w)) H1
abbrev BC(X:Cx)(x:Str):Prop:=X.env.scope.names.lookup x=some .local
def LJ{i:Nat}{y:Str}{a:Do}{ta:TA}{P pt:Pos}{kt k2 g}(hc:X.calm=O)(hN:X.N.Nodup)(hi:X.N[i]?=Z x)(hj:X.N[j]?=Z y)(V:i≠j)
  (hx:BC X x) (hy:BC X y) (ha:PA X [a,b] ta)
  (hw:swappedStores [.Tuple [.Name x P,.Name y py] kt pt] (.Tuple [a,b] k2 g) X.env=pure (Z [x,y]))
  (hs:‹swapsWithSole [.Tuple [.Name x P,.Name y py] kt pt] (.Tuple [a,b] k2 g) pos.line X.env=pure false›):
  PS X (.Assign [.Tuple [.Name x P,.Name y py] kt pt] (.Tuple [a,b] k2 g) pos) (K3 i j ta):=by
 right;refine gV (wpAny_standAt ?_);refine gV (sr ?_);refine gV (Tuple_ (thn (ha _ gd s σ H _ I h) λus s1 aN=>?_));let(vs,H1,I1,r1,K):=aN;let(v,w,e1,K):=K;subst e1;obtain⟨u1,u2,rfl,rv,z⟩:∃u1 u2,us=[u1,u2]/\RelV v u1/\RelV w u2:=by cases r1 with|cons p q =>cases q with|cons p' q' =>cases q';exact(_,_,U,p,p')
 refine RM ?_ (by show 2<=p6;decide);have I2:Inv X gd σ H1 {s1 with heap:=s1.heap.push {cls:=.type "tuple",data:=.seq [u1,u2].toArray}}:=I1.kept λb o e=>jo _ e;rw[hw];refine gV (sr ?_);refine gV (RP (gV (unpackItems_tuple (items:=#[u1,u2]) (I.ok.hd hc) (IsTup.new s1.heap _) λh' Q=>?_)));have I3:=I2.kept (t':=s1.toks) λb o e=>Q b o (x8 (rg e)) e;refine gV (assignInOrder_cons (wpAny_bindName (fW I3 hN hj (.inl hy) z (λs2 I4=>(assignInOrder_cons (wpAny_bindName (fW I4 hN hi (.inl hx) rv (λs3 I5=>assignInOrder_nil (sr ?_)) (.inr hx))))) (.inr hy))));rw[List.set_comm _ _ (Ne.symm V)]at I5;exact(_,H1,I5,K)
def NS(i:Nat)(te:TE)(g:TIp):TS:=λD σ H=>∃x,σ[i]?=Z (Z x)/\te σ H λy H1=>g x y H1 λz q=>D.nx (σ.set i (Z z)) q
def LM{i:Nat}{op:Operator}{P:TIp}(hN:X.N.Nodup)(hi:X.N[i]?=Z x)(hx:Loc X.env.scope x)(he:PE X e te)(ho:PIp X op P)(hf:AT X x:=by first|exact .inl rfl|exact .inr rfl|assumption):
  PS X (.AugAssign (.Name x pos') op e pos) (NS i te P):=by
 right;let(v,e1,h):=h;let(m,hn,hl):=I.loc;have K:Vis X.env.scope x:=by obtain k|k:=hx;exact .inl k;exact .inr (.inl k)
 let(u,r,l):=hl i x v hi e1 K;refine wpAny_AugAssign_Name ?_;have go:Zc X (eval e X.env) (λw s₂=>Zc X (inplaceOp op u w) (λr q=>Zc X (storeName X.env x r) (λ_=>SP X gd D .next) X.xe q) X.xe s₂) X.xe s:=by exact thn (he gd s σ H _ I h) λw s1 (y,H1,I1,V,q1)=>(thn (ho gd s1 σ H1 v y u w _ I1 r V q1) λz s2 (zv,H2,I2,Q,q2)=>(fW I2 hN hi hx Q (λs3 I3=>(_,H2,I3,q2)) hf))
 obtain⟨g,hm⟩|⟨g,c,hc,dJ⟩:=l
 ·exact wpAny_loadName_local I.ok.kind g hn hm go
 obtain g|g:=g
 ·exact wpAny_loadName_cell I.ok.kind g hc dJ go
 obtain k|k:=hx
 ·have:X.env.scope.names.lookup x=Z .free:=g;rw[k]at this;cases this
 have:X.env.scope.names.lookup x=Z .free:=g;rw[k]at this;cases this
inductive ipI(f:Int->Int->Int)(x:V)(y:V)(H:Hp)(Q:VK):Prop
 |mk(i j:_)(h1:x=.int i)(h2:y=.int j)(h3:Q (.int (f i j)) H)
def MR:PIp X .Add (ipI λi j=>i+j):=by intro gd s σ H x y v u Q I z g h;let(i,j,P,K,q):=h;subst P;subst K;let(t,U):=z;let(t',U):=g;exact iadd_int (.int _,H,I.tok _,(_,U),q)
end
variable{body:List Ev}
section
variable{pos:Pos}
def yo(c:TT)(tb:TS):TS:=λD σ H=>∃W:Nat->St->Hp->Prop,(∃m,W m σ H)/\∀m σ H,W m σ H ->
 c σ H λb H1=>if b=O then ∃N:St->Hp->Prop,(∀g H',N g H'->∃m',m'<m/\W m' g H')/\tb {D with nx:=N,ct:=N,bk:=D.nx} σ H1 else D.nx σ H1
def wF{c:Do}{tc:TT}{tb:TS}(hp:Tw (model X.prog X.w) X.A X.env X.xe)(hc:PT X c tc)(hb:PSs X body tb):PS X (.While c body [] pos) (yo tc tb):=by
 right;let(W,(m0,w0),turn):=h;refine wpAny_While (codeAny_whileLoop (λn s'=>∃z H',Inv X gd z H' s'/\W n z H') ?_ m0 (σ,H,I,w0));rintro n s1 ⟨q,H1,I1,w1⟩;refine wpAny_passesOwn hp (thn (hc gd s1 q H1 _ I1 (turn n q H1 w1)) λb s2 aN=>?_);let(H2,I2,Q):=aN;cases b with
 |true =>
  let(N,hN,Q):=Q;refine wpAny_passesOwn hp (thn (hb gd s2 q H2 _ I2 Q) λf s3 P=>?_);cases f with|next =>let(g,K,I3,n3):=P;let(m',hm,V):=hN g K n3;exact(m',hm,g,K,I3,V)|cont =>let(g,K,I3,n3):=P;let(m',hm,V):=hN g K n3;exact(m',hm,g,K,I3,V)|brk=>exact P|ret v=>exact P
 |false =>exact wpAny_execs_nil (q,H2,I2,Q)
end
structure It where
 go:Nat->Hp->Prop
 yld:Nat->Hp->V->Hp->Prop
 stop:Nat->Hp->Prop
def rj(X:Cx)(gd:Ξ)(H:Hp)(b:J):Prop:=
 H b=Y/\b≠X.env.locals/\b ∉ X.fs/\(b∈X.ex\/X.s₀.heap.objs.size<=b)/\(∀x c,X.env.cells.lookup x=Z c->c≠b)/\∀p∈X.pn++gd,p.1≠b
variable{H':Hp}
def Inv.Cf{σ:St}{s:ϋ}{b:J}(I:Inv X gd σ H s)(g:s.heap.objs.size<=b)(hn:H' b=Y):rj X gd H' b:=by
 refine(hn,Rl (u4 I.lt g),I.OE g,.inr (vN I.sz g),λx c e z=>?_,λp hp z=>?_)
 ·let(v,q):=I.cell x c e;exact absurd (u4 q.lt (by rw[z];exact g)) (Gj _)
 exact absurd (u4 (rg (I.pin p hp).1) (by rw[z];exact g)) (Gj _)
structure Turn(P:Da)(w:Cl)(K:BT)(tg:Do)(TN:It)(fp:Θ)(it:J)(tn:Nat->Dd->Prop):Prop where
 mem:it∈fp
 obj:∀i h,tn i h->∀b∈fp,∃o,h.get? b=Z o/\∀v,o.data ≠ .cell v
 keep:∀i h h',tn i h->(∀b∈fp,∀o,h.get? b=Z o->h'.get? b=Z o)->tn i h'
 item:∀(X:Cx),X.prog=P->X.w=w->X.K=K->X.calm=O->∀(i:Nat)(gd:Ξ)(s:ϋ)(σ:St)(H:Hp)(E:Φ),Inv X gd σ H s->(∀b∈fp,rj X gd H b)->tn i s.heap->TN.go i H ->
  wpAny (model P w) X.A (pyNext (.ref it)) (λr s1=>∃u,r=Z u /\
wpAny (model P w) X.A (letOwnedTupleGo tg (.ref it) u) (λ_ s2=>∃x H',Inv X gd σ H' s2/\RelV x u/\TN.yld i H x H'/\tn (i+1) s2.heap/\∀b∈fp,H' b=Y) E s1) E s
 done:∀(X:Cx),X.prog=P->X.w=w->X.K=K->X.calm=O->∀(i:Nat)(gd:Ξ)(s:ϋ)(σ:St)(H:Hp)(E:Φ),Inv X gd σ H s->(∀b∈fp,rj X gd H b)->tn i s.heap->TN.stop i H ->
  wpAny (model P w) X.A (pyNext (.ref it)) (λr s1=>r=Y/\Inv X gd σ H s1) E s
 self:∀(A:Db)(i:Nat)(s:ϋ)(Q:Φ)(E:Φ),tn i s.heap->Q (.ref it) s->wpAny (model P w) A (pyIter (.ref it)) Q E s
abbrev TI:=St->Hp->(It->Hp->Prop)->Prop
def PIE(X:Cx)(gd:Ξ)(σ:St)(tg:Do)(R:It->Hp->Prop)(g:B)(s2:ϋ):Prop:=
 ∃(it:J)(fp:Θ)(tn:Nat->Dd->Prop)(TN:It)(H':Hp),g=.ref it/\Inv X gd σ H' s2/\Turn X.prog X.w X.K tg TN fp it tn/\tn 0 s2.heap/\(∀b∈fp,rj X gd H' b)/\R TN H'
def PI(X:Cx)(tg iter:Do)(wi:TI):Prop:=
 ∀(gd:Ξ)(s:ϋ)(σ:St)(H:Hp)(R:It->Hp->Prop),Inv X gd σ H s->wi σ H R ->
  Zc X (eval iter X.env) (λv s1=>Zc X (pyIter v) (PIE X gd σ tg R) X.xe s1) X.xe s
def AE{s:ϋ}{o:Obj}{n:String}{vs:Array B}{Q:Unit->ϋ->Prop}(ho:s.heap.get? it=Z o)(q:o.cls=.type n)(hd:o.data=.fields vs)
  (hn:["enumerate","zip","dict_itemiterator","dict_reverseitemiterator","odict_iterator","itertools.zip_longest","itertools.pairwise"].contains n=ϊ) (g:Q () s):wpAny M A (letOwnedTupleGo tg (.ref it) u) Q E s:=by
 cases tg <;> first
  |exact sr g
  | (cases u <;> first
    |exact sr g
    | (refine gV (wpAny_load ho ?_)
       rw[q,hd];show wpAny M A (if(["enumerate","zip","dict_itemiterator","dict_reverseitemiterator","odict_iterator","itertools.zip_longest","itertools.pairwise"].contains n&&vs[0]? == Z (rawInt _))=O then _ else _) Q E s;rw[if_neg (by intro h;rw[hn]at h;cases h)];exact sr g))
def Itl(K:BT)(a:J):It:=
 (λi H=>∃xs x,SqL K H a xs/\xs[i]?=Z x,λi H x H'=>H'=H/\∀xs,SqL K H a xs->xs[i]?=Z x,λi H=>∃xs,SqL K H a xs/\xs.length<=i)
def Itt(K:BT)(a:J):It:=
 (λi H=>∃xs x,SqT K H a xs/\xs[i]?=Z x,λi H x H'=>H'=H/\∀xs,SqT K H a xs->xs[i]?=Z x,λi H=>∃xs,SqT K H a xs/\xs.length<=i)
def Itr(lo:Int)(n:Nat):It:=(λi _=>i<n,λi H x H'=>H'=H/\x=.int (lo+i),λi _=>n<=i)
theorem Bm{w:Cl}{K:BT}(a it:J):Turn P w K tg (Itl K a) [it] it (λi h=>h.IsListIter it a i) where
 mem:=by simp
 obj:=λi h st b g=>by
  have e:=(g:);subst e;let(o,e,c,d):=st;exact(o,e,λv z=>by rw[d]at z;cases z)
 keep:=λi h h' st k=>st.at λo e=>k it ap o e
 item:=by intro X V hw hK hc i gd s σ H E I hf st hg;subst V hw hK;let(xs,x,hq,hx):=hg;let(its,Q,p,hz):=I.list hq;let(u,hu,ru):=Q.get hx;let(f0,f1,f2,f3,f4,f5):=hf it ap;refine wpAny_pyNext_list_item st p.isList (hu:) λh' q sb=>?_;have I1:=I.turned (t':=s.toks) (λb o g e=>(sb.2 b g).trans e) f0 f1 f3 f4 f5;let(o,e,c,d):=id q;exact(u,U,AE e c d am (x,H,I1,ru,(U,λys hy=>by rw[I.qj hy hq];exact hx),q,λb g=>(hf b g).1))
 done:=by intro X V hw hK hc i gd s σ H E I hf st hg;subst V hw hK;let(xs,hq,hx):=hg;let(its,Q,p,hz):=I.list hq;let(f0,f1,f2,f3,f4,f5):=hf it ap;have hl:=Q.length;exact wpAny_pyNext_list_end (I.ok.hd hc) st p.isList (by simp;lia) λh' eb=>(U,I.turned (λb o g e=>eb b o g e) f0 f1 f3 f4 f5)
 self:=λ_ _ _ _ _ st h=>wpAny_pyIter_listiter st h
theorem ym{w:Cl}{K:BT}(a it:J):Turn P w K tg (Itt K a) [it] it (λi h=>h.IsTupleIter it a i) where
 mem:=by simp
 obj:=λi h st b g=>by
  have e:=(g:);subst e;let(o,e,c,d):=st;exact(o,e,λv z=>by rw[d]at z;cases z)
 keep:=λi h h' st k=>st.at λo e=>k it ap o e
 item:=by intro X V hw hK hc i gd s σ H E I hf st hg;subst V hw hK;let(xs,x,hq,hx):=hg;let(its,Q,p,hz):=I.tuple hq;let(u,hu,ru):=Q.get hx;let(f0,f1,f2,f3,f4,f5):=hf it ap;refine wpAny_pyNext_tuple_item st (p) (hu:) λh' q sb=>?_;have I1:=I.turned (t':=s.toks) (λb o g e=>(sb.2 b g).trans e) f0 f1 f3 f4 f5;let(o,e,c,d):=id q;exact(u,U,AE e c d am (x,H,I1,ru,(U,λys hy=>by rw[I.sC hy hq];exact hx),q,λb g=>(hf b g).1))
 done:=by intro X V hw hK hc i gd s σ H E I hf st hg;subst V hw hK;let(xs,hq,hx):=hg;let(its,Q,p,hz):=I.tuple hq;let(f0,f1,f2,f3,f4,f5):=hf it ap;have hl:=Q.length;exact wpAny_pyNext_tuple_end (I.ok.hd hc) st (p) (by simp;omega) λh' eb=>(U,I.turned (λb o g e=>eb b o g e) f0 f1 f3 f4 f5)
 self:=λ_ _ _ _ _ st h=>wpAny_pyIter_tupleiter st h
theorem yn{w:Cl}{K:BT}(it:J)(lo:Int)(n:Nat):Turn P w K tg (Itr lo n) [it] it (λi h=>IsRangeIter h it (lo+(i:Nat)*1) ((n:Int)-(i:Nat)) 1) where
 mem:=by simp
 obj:=λi h st b g=>by
  have e:=(g:);subst e;exact(_,st,λv z=>by have z':=z;cases z')
 keep:=λi h h' st k=>k it ap _ st
 item:=by intro X hP hw hK Q i gd s σ H E I hf st hg;subst hP hw hK;let(f0,f1,f2,f3,f4,V):=hf it ap;have W:=Walks.range (prog:=X.prog) (w:=X.w) (I.ok.hd Q) it lo 1 n;refine W.item i s _ _ hg st λv h' tk hv q kk=>?_;let(t,U):=hv;have I1:Inv X gd σ H {s with heap:=h',toks:=tk}:=I.turned (λb o g e=>kk b o (g:) e) f0 f1 f3 f4 V;refine(_,U,AE q U U am (.int (lo+i),H,I1,(t,?_),(U,U),q,λb g=>(hf b g).1));rw[Int.mul_one]
 done:=by intro X hP hw hK Q i gd s σ H E I hf st hg;let(f0,f1,f2,f3,f4,V):=hf it ap;exact wpAny_pyNext_range_end (I.ok.hd Q) st (by have:n<=i:=hg;lia) λh' eb=>(U,I.turned (λb o g e=>eb b o g e) f0 f1 f3 f4 V)
 self:=λ_ _ _ _ _ st h=>wpAny_pyIter_rangeiter st h
variable{lo:Int}{fp:Θ}{iter:Do}
section
def xw(K:BT)(tl:TE):TI:=λσ H R=>tl σ H λx H1=>∃a,x=.ref a/\(∃xs,SqL K H1 a xs)/\R (Itl K a) H1
def Fm(K:BT)(tl:TE):TI:=λσ H R=>tl σ H λx H1=>∃a,x=.ref a/\(∃xs,SqT K H1 a xs)/\R (Itt K a) H1
def oy{l:Do}{tl:TE}(hl:PE X l tl):PI X tg l (xw X.K tl):=by intro gd s σ H R I h;refine thn (hl gd s σ H _ I h) λv s1 z=>?_;let(x,H1,g,P,Q):=z;let(a,e,(xs,hq),q):=Q;subst e;cases P;let(its,rv,p,hz):=g.list hq;refine wpAny_pyIter_list p.isList ?_;refine(s1.heap.objs.size,[s1.heap.objs.size],_,_,H1,U,g.kept λb o e=>jo _ e,Bm a _,(_,qg _ U,U,U),λb V=>?_,q);have e:=(V:);subst e;exact g.Cf (oQ _) (g.hok.fresh (oQ _))
def L3{l:Do}{tl:TE}(hl:PE X l tl):PI X tg l (Fm X.K tl):=by intro gd s σ H R I h;refine thn (hl gd s σ H _ I h) λv s1 z=>?_;let(x,H1,g,P,Q):=z;let(a,e,(xs,hq),q):=Q;subst e;cases P;let(its,rv,p,hz):=g.tuple hq;refine wpAny_pyIter_tuple (p) ?_;refine(s1.heap.objs.size,[s1.heap.objs.size],_,_,H1,U,g.kept λb o e=>jo _ e,ym a _,(_,qg _ U,U,U),λb V=>?_,q);have e:=(V:);subst e;exact g.Cf (oQ _) (g.hok.fresh (oQ _))
def wm{σ:St}{s:ϋ}{R:It->Hp->Prop}{hi:Int}{t u v:Tok}{tk:Nat}(I:Inv X gd σ H s)(h1:-(2 ^ 62)<=lo)(h2:lo<2 ^ 62)(h3:-(2 ^ 62)<=hi)(h4:hi<2 ^ 62)
  (q:R (Itr lo (hi-lo).toNat) H):Zc X (pyIter (.ref s.heap.objs.size)) (PIE X gd σ tg R) E {s with heap:=s.heap.push {cls:=.type "range",data:=.fields #[.int lo t,.int hi u,.int 1 v]},toks:=tk}:=by
 refine wpAny_pyIter_range (IsRange.new ..) (small_one h1 h2 h3 h4) ?_;have g:Inv X gd σ H {s with heap:=s.heap.push {cls:=.type "range",data:=.fields #[.int lo t,.int hi u,.int 1 v]},toks:=tk}:=I.kept λb o e=>jo _ e;refine((s.heap.push {cls:=.type "range",data:=.fields #[.int lo t,.int hi u,.int 1 v]}).objs.size,[(s.heap.push {cls:=.type "range",data:=.fields #[.int lo t,.int hi u,.int 1 v]}).objs.size],_,_,H,U,
g.kept λb o e=>jo _ e,yn _ lo (hi-lo).toNat,?_,λb z=>?_,q)
 ·have P:lo+((0:Nat))*1=lo:=by simp
  have K:(((hi-lo).toNat))-((0:Nat))=Builtin.Range.rangeSize lo hi 1:=by rw[rangeSize_one];split <;> lia
  rw[P,K];exact qg _ U
 have e:b=(s.heap.push {cls:=.type "range",data:=.fields #[.int lo t,.int hi u,.int 1 v]}).objs.size:=(z:);subst e;exact g.Cf (oQ _) (g.hok.fresh (oQ _))
def xv(ta:TA):TI:=λσ H R=>ta σ H λvs H1=>∃j:Int,vs=[.int j] /\ -(2 ^ 62)<=j/\j<2 ^ 62/\R (Itr 0 j.toNat) H1
def Kr(ta:TA):TI:=λσ H R=>ta σ H λvs H1=>∃i j:Int,vs=[.int i,.int j]/\(-(2 ^ 62)<=i/\i<2 ^ 62 /\ -(2 ^ 62)<=j/\j<2 ^ 62)/\R (Itr i (j-i).toNat) H1
abbrev AD(X:Cx)(e:Do):Prop:=nY [e] X.env=[(false,eval e X.env)]
def my{a:Do}{ta:TA}{p pos:Pos}(hg:Gl X "range")(hm:X.mg "range"=Y)(Q:PA X [a] ta)(hs:‹AD X a›):PI X tg (.Call (.Name "range" p) [a] [] pos) (xv ta):=by intro gd s σ H R I h;refine Call_ (gN I hg hm boot_range (PyProof.Rows.callWith_type1 (thn (Q pos gd s σ H _ I h) λus s1 (vs,H1,V,K,g)=>?_) hs U));let(j,e,g,P,q):=g;subst e;cases K with|cons r z =>cases z;let(t,U):=r;exact call_range_1 (wm V bd bd g P (q:))
def BI{a:Do}{ta:TA}{p pos:Pos}(hg:Gl X "range")(hm:X.mg "range"=Y)(ha:PA X [a,b] ta)(hs:‹nY [a,b] X.env=[(ϊ,eval a X.env),(ϊ,eval b X.env)]›)(g:‹AD X b›):
  PI X tg (.Call (.Name "range" p) [a,b] [] pos) (Kr ta):=by
 intro gd s σ H R I h;refine Call_ (gN I hg hm boot_range (PyProof.Rows.callWith_type1 (thn (ha pos gd s σ H _ I h) λus s1 (vs,H1,I1,P,K)=>?_) (by rw[hs,g]) (by rw[g];rfl)));let(i,j,e,(K,q2,V,Q),q):=K;subst e;cases P with|cons r z =>cases z with|cons r' z =>cases z;let(t,U):=r;let(t',U):=r';exact call_range_2 (wm I1 K q2 V Q q)
def NP(wi:TI)(g:TG)(tb:TS):TS:=λD σ H=>wi σ H λTN H1=>∃W:Nat->Nat->St->Hp->Prop,(∃m,W 0 m σ H1)/\∀i m σ H,W i m σ H ->
 (TN.stop i H/\D.nx σ H)\/(TN.go i H/\∃N:St->Hp->Prop,(∀q H',N q H'->∃m',m'<m/\W (i+1) m' q H')/\∀x H',TN.yld i H x H'->g x σ H' λz K=>tb {D with nx:=N,ct:=N,bk:=D.nx} z K)
def pQ(fp:Θ)(h:Dd):Ξ:=fp.filterMap λb=>(h.get? b).map λo=>(b,o)
def eI{h:Dd}{b:J}{o:Obj}(g:b∈fp)(e:h.get? b=Z o):(b,o)∈pQ fp h:=S7.mpr (b,g,by rw[e];rfl)
def BS{h:Dd}{p:J×Obj}(hp:p∈pQ fp h):p.1∈fp/\h.get? p.1=Z p.2:=by
 let(b,g,e):=S7.mp hp;cases q:h.get? b with
 |none=>rw[q]at e;cases e
 |some o =>rw[q]at e;have z:=Option.some.inj e;subst z;exact(g,q)
def Inv.pinned{σ:St}{s:ϋ}(I:Inv X gd σ H s)(hf:∀b∈fp,rj X gd H b)(ho:∀b∈fp,∃o,s.heap.get? b=Z o/\∀v,o.data ≠ .cell v):Inv X (gd++pQ fp s.heap) σ H s:=
 I.kz λp hp=>(rh.mp hp).elim (λz=>I.pin p (rz _ z)) λz=>by
  let(g,e):=BS z;let(f0,f1,f2,_):=hf p.1 g;let(o,q,d):=ho p.1 g;rw[e]at q;cases q;exact(e,f0,f1,f2,d)
def Inv.j8{pl:Ξ}{σ:St}{s:ϋ}(I:Inv X (gd++pl) σ H s):Inv X gd σ H s:=I.kz λp hp=>I.pin p (rz _ (vr _ hp))
def Eh{wi:TI}{g:TG}{tb:TS}{pos:Pos}(hp:Tw (model X.prog X.w) X.A X.env X.xe)(hc:X.calm=O)(hi:PI X tg iter wi)(hg:PG X tg g)(P:PSs X body tb)
  (hs:∀x,foldedSetIterable iter X.env x=pure x:=by intro _;rfl):PS X (.For tg iter body [] pos) (NP wi g tb):=by
 right;refine wpAny_For (thn (hi gd s σ H _ I h) λv s1 h1=>thn h1 λbg s2 h2=>?_) hs;let(it,fp,tn,TN,H2,e,I2,T,a3,f2,W,(m0,w0),turn):=h2;subst e;have K8:∀{H':Hp},(∀b∈fp,H' b=Y)->∀b∈fp,rj X gd H' b:=λhn b P=>(hn b P,(f2 b P).2);refine codeAny_forLoop_any (λn s'=>∃i K H',Inv X gd K H' s'/\tn i s'.heap/\(∀b∈fp,H' b=Y)/\W i n K H') ?_ m0 (0,σ,H2,I2,a3,λb P=>(f2 b P).1,w0);rintro n s3 ⟨i,z,H3,I3,aP,aT,w3⟩;obtain⟨stop,qn⟩|⟨go,N,hN,step⟩:=turn i n z H3 w3
 ·refine wpAny_passesOwn hp (thn (T.done X U U U hc i gd s3 z H3 X.xe I3 (K8 aT) aP stop) λr s4 Q=>?_);let(hr,I4):=Q;subst hr;exact wpAny_execs_nil (z,H3,I4,qn)
 refine wpAny_passesOwn hp (thn (T.item X U U U hc i gd s3 z H3 X.xe I3 (K8 aT) aP go) λr s4 Q=>?_);let(u,hr,h4):=Q;subst hr;refine wpAny_passesOwn hp (thn h4 λ_ s5 Q=>?_);let(x,H5,I5,r5,y5,aN,a5):=Q;have bc:=I5.pinned (K8 a5) (T.obj _ _ aN);refine wpAny_passesOwn hp (thn (hg _ s5 z H5 x u _ bc r5 (step x H5 y5)) λ_ s6 (a0,H6,I6,q6)=>(wpAny_passesOwn hp (thn (P _ s6 a0 H6 _ I6 q6) λf s7 q7=>?_)));have again:∀{q:St}{H7:Hp},Inv X (gd++pQ fp s5.heap) q H7 s7->N q H7->∃m,m<n/\∃i K H',Inv X gd K H' s7/\tn i s7.heap/\(∀b∈fp,H' b=Y)/\W i m K H':=λ{q H7} V n7=>by
  let(m',hm,w7):=hN q H7 n7;refine(m',hm,i+1,q,H7,V.j8,T.keep _ _ _ aN λb P o e=>(V.pin (b,o) (rz _ (rz _ (eI P e)))).1,λb P=>?_,w7);let(o,e,d):=T.obj _ _ aN b P;exact(V.pin (b,o) (rz _ (rz _ (eI P e)))).2.1
 cases f with|next=>let(q,H7,V,n7):=q7;exact again V n7|cont=>let(q,H7,V,n7):=q7;exact again V n7|brk=>let(q,H7,V,q7):=q7;exact(q,H7,V.j8,q7)|ret v=>let(x7,q,H7,V,r7,q7):=q7;exact(x7,q,H7,V.j8,r7,q7)
end
variable{D:Ends}
theorem FE{K:BT}{g:TG}{tb:TS}{σ:St}(Pv:Nat->St->Hp->Prop)(h0:Pv 0 σ H)(hl:∀i σ H,i<=xs.length->Pv i σ H->SqL K H a xs)
  (hs:∀i x σ H,xs[i]?=Z x->Pv i σ H->g x σ H λz V=>tb {D with nx:=Pv (i+1),ct:=Pv (i+1),bk:=D.nx} z V) (hd:∀σ H,Pv xs.length σ H->D.nx σ H):
  ∃W:Nat->Nat->St->Hp->Prop,(∃m,W 0 m σ H)/\∀i m σ H,W i m σ H ->
   ((Itl K a).stop i H/\D.nx σ H)\/((Itl K a).go i H/\∃N:St->Hp->Prop,(∀P H',N P H'->∃m',m'<m/\W (i+1) m' P H')/\∀x H',(Itl K a).yld i H x H'->g x σ H' λz V=>tb {D with nx:=N,ct:=N,bk:=D.nx} z V):=by
 refine(λi m σ H=>m=xs.length-i/\i<=xs.length/\Pv i σ H,(xs.length,ap,Rm _,h0),?_);rintro i m σ H ⟨rfl,hi,p⟩;have q:=hl i σ H hi p;by_cases Q:i<xs.length
 ·refine .inr ((xs,xs[i],q,by simp[Q]),Pv (i+1),λP H' p'=>(xs.length-(i+1),bd,U,Q,p'),λx H' y=>?_);let(e,y):=y;subst e;exact hs i x σ _ (y xs q) p
 have e:i=xs.length:=bd;subst e;exact .inl ((xs,q,oQ _),hd σ H p)
abbrev R2:=V->V->Hp->VK->Prop
def OpR(X:Cx)(f:B->B->Sem B)(r:R2):Prop:=
 ∀(gd:Ξ)(s:ϋ)(σ:St)(H:Hp)(x y:V)(v u:B)(Q:VK),Inv X gd σ H s->RelV x v->RelV y u->r x y H Q ->
  Zc X (f v u) (EP X gd σ Q) X.xe s
def UnR(X:Cx)(f:B->Sem B)(r:V->Hp->VK->Prop):Prop:=
 ∀(gd:Ξ)(s:ϋ)(σ:St)(H:Hp)(x:V)(v:B)(Q:VK),Inv X gd σ H s->RelV x v->r x H Q ->
  Zc X (f v) (EP X gd σ Q) X.xe s
def cY(X:Cx)(f:B)(r:Ω->Hp->VK->Prop):Prop:=
 ∀(gd:Ξ)(s:ϋ)(σ:St)(H:Hp)(xs:Ω)(us:Δ)(Q:VK),Inv X gd σ H s->Vals xs us->r xs H Q ->
  Zc X (call f us) (EP X gd σ Q) X.xe s
def Q5(X:Cx)(r:V->Hp->(Bool->Hp->Prop)->Prop):Prop:=
 ∀(gd:Ξ)(s:ϋ)(σ:St)(H:Hp)(x:V)(v:B)(Q:Bool->Hp->Prop),Inv X gd σ H s->RelV x v->r x H Q ->
  Zc X (truthy v) (TP X gd σ Q) X.xe s
def tOp(r:R2)(ta tb:TE):TE:=λσ H Q=>ta σ H λx H1=>tb σ H1 λy g=>r x y g Q
def tUn(r:V->Hp->VK->Prop)(ta:TE):TE:=λσ H Q=>ta σ H λx H1=>r x H1 Q
inductive rI(C:Int->Int->Prop)(g:Int->Int->V)(x:V)(y:V)(H:Hp)(Q:VK):Prop
 |mk(i j:_)(h1:x=.int i)(h2:y=.int j)(h3:C i j)(h4:Q (g i j) H)
inductive rI0(g:Int->Int->V)(x:V)(y:V)(H:Hp)(Q:VK):Prop
 |mk(i j:_)(h1:x=.int i)(h2:y=.int j)(h3:Q (g i j) H)
inductive rU(g:Int->V)(x:V)(H:Hp)(Q:VK):Prop
 |mk(i:_)(h1:x=.int i)(h2:Q (g i) H)
section
variable{a:Do}{ta tb:TE}{pos:Pos}
def M9(ha:PE X a ta)(hb:PE X b tb){s:ϋ}{σ:St}{R:V->V->Hp->Prop}(I:Inv X gd σ H s)
  (h:ta σ H λx H1=>tb σ H1 λy g=>R x y g) {Q:Φ} {f:B->B->Sem B}
  (hf:∀v u s2 x y g,Inv X gd σ g s2->RelV x v->RelV y u->R x y g->Zc X (f v u) Q X.xe s2):
  Zc X (eval a X.env) (λv q=>Zc X (eval b X.env) (λu s₂=>Zc X (f v u) Q X.xe s₂) X.xe q) X.xe s:=by
 exact thn (ha gd s σ H _ I h) λv s1 (x,H1,I1,K,q1)=>(thn (hb gd s1 σ H1 _ I1 q1) λu s2 (y,g,I2,z,P)=>(hf v u s2 x y g I2 K z P))
def cw{op:Operator}{r:R2}(ho:OpR X (binaryOp op) r)(P:PE X a ta)(K:PE X b tb):PE X (.BinOp a op b pos) (tOp r ta tb):=by left;exact wpAny_BinOp (M9 P K I h λv u s2 x y H2 V z g q=>ho gd s2 σ H2 x y v u Q V z g q)
def Oy{op:UnaryOp}{r:V->Hp->VK->Prop}(ho:UnR X (unaryOp op) r)(z:PE X a ta):PE X (.UnaryOp op a pos) (tUn r ta):=by left;exact UnaryOp_ (thn (z gd s σ H _ I h) λv s1 (x,H1,K,g,q)=>ho gd s1 σ H1 x v Q K g q)
def opI{f:B->B->Sem B}{C:Int->Int->Prop}{g:Int->Int->Int}
  (rule:∀(i j:Int)(t u:Tok)(s:ϋ)(Q:Φ)(E:Φ),C i j->Q (.int (g i j) s.toks) {s with toks:=s.toks+1}->Zc X (f (.int i t) (.int j u)) Q E s):
  OpR X f (rI C λi j=>.int (g i j)):=by
 intro gd s σ H x y v u Q I K z h;let(i,j,U,U,P,q):=h;let(t,U):=K;let(t',U):=z;exact rule i j t t' s _ _ P (.int (g i j),H,I.tok _,(_,U),q)
def OB{f:B->B->Sem B}{g:Int->Int->Int}
  (rule:∀(i j:Int)(t u:Tok)(s:ϋ)(Q:Φ)(E:Φ),Q (.int (g i j) s.toks) {s with toks:=s.toks+1}->Zc X (f (.int i t) (.int j u)) Q E s):
  OpR X f (rI0 λi j=>.int (g i j)):=by
 intro gd s σ H x y v u Q I K z h;let(i,j,U,U,q):=h;let(t,U):=K;let(t',U):=z;exact rule i j t t' s _ _ (.int (g i j),H,I.tok _,(_,U),q)
def II{f:B->B->Sem B}{g:Int->Int->Bool}
  (rule:∀(i j:Int)(t u:Tok)(s:ϋ)(Q:Φ)(E:Φ),Q (.bool (g i j)) s->Zc X (f (.int i t) (.int j u)) Q E s):
  OpR X f (rI0 λi j=>.bl (g i j)):=by
 intro gd s σ H x y v u Q I K z h;let(i,j,U,U,q):=h;let(t,U):=K;let(t',U):=z;exact rule i j t t' s _ _ (.bl (g i j),H,I,U,q)
def Rc(i j:Int):Prop:=0<=j/\j<=1000000/\i.natAbs<2 ^ 64
def GF(i j:Int):Prop:=(-(2 ^ 64)<i/\i<2 ^ 64)\/(-(2 ^ 64)<j/\j<2 ^ 64)
def GF.ok{i j:Int}(h:GF i j):IntMulOk i j:=by
 obtain⟨h1,h2⟩|⟨h1,h2⟩:=h
 ·exact .of_left (intBits_le_64 h1 h2)
 exact .of_right (intBits_le_64 h1 h2)
def mz:OpR X (binaryOp .Add) (rI0 λi j=>.int (i+j)):=OB λ_ _ _ _ _ _ _ q=>add_int q
def za:OpR X (binaryOp .Sub) (rI0 λi j=>.int (i-j)):=OB λ_ _ _ _ _ _ _ q=>sub_int q
def jM:OpR X (binaryOp .Mult) (rI GF λi j=>.int (i*j)):=opI λ_ _ _ _ _ _ _ g q=>mul_int q g.ok
def gH:OpR X (binaryOp .Mod) (rI (λ_ j=>0<j) λi j=>.int (i % j)):=opI λi j _ _ _ _ _ g q=>by
 exact mod_int' bd (by rw[Int.fmod_eq_emod_of_nonneg i bd];exact q)
def L9:OpR X (binaryOp .Pow) (rI Rc λi j=>.int (i ^ j.toNat)):=opI λ_ _ _ _ _ _ _ g q=>pow_int_small g.1 g.2.1 g.2.2 q
def unI{f:B->Sem B}{g:Int->Int}
  (rule:∀(i:Int)(t:Tok)(s:ϋ)(Q:Φ)(E:Φ),Q (.int (g i) s.toks) {s with toks:=s.toks+1}->Zc X (f (.int i t)) Q E s):
  UnR X f (rU λi=>.int (g i)):=by
 intro gd s σ H x v Q I z h;let(i,U,q):=h;let(t,U):=z;exact rule i t s _ _ (.int (g i),H,I.tok _,(_,U),q)
def KR:UnR X (unaryOp .USub) (rU λi=>.int (-i)):=unI λ_ _ _ _ _ q=>neg_int q
end
def Hy:V->V->Bool
 |.non,.non=>O|.non,.int _=>O|.int _,.non=>O|.non,.bl _=>O|.bl _,.non=>O|.non,.str _=>O|.str _,.non=>O|.int _,.int _=>O|.bl _,.bl _=>O|.str _,.str _=>O|.byt _,.byt _=>O|.int _,.str _=>O|.str _,.int _=>O|.bl _,.str _=>O|.str _,.bl _=>O|_,_=>ϊ
def rEq:R2:=λx y H Q=>Hy x y=O/\Q (.bl (decide (x=y))) H
def rNe:R2:=λx y H Q=>Hy x y=O/\Q (.bl (!decide (x=y))) H
def AJ{i j:Int}:decide (V.int i=V.int j)=(i==j):=by rw[RT];simp
def FO{i j:Bool}:decide (V.bl i=V.bl j)=(i==j):=by rw[RT];simp
def AI{i j:Str}:decide (V.str i=V.str j)=(i==j):=by rw[RT];simp
def AK{i j:Array UInt8}:decide (V.byt i=V.byt j)=(i.toList==j.toList):=by rw[RT];cases i;cases j;simp
variable{r':R2}{op':CmpOp}{its:Δ}{y:V}
section
variable{a c:Do}{ta tb tc:TE}{pos:Pos}
def aX{σ:St}{s:ϋ}{Q:VK}{k k':Bool}(I:Inv X gd σ H s)(q:Q (.bl k) H)(e:k=k'):EP X gd σ Q (.bool k') s:=by subst e;exact(.bl k,H,I,U,q)
theorem Kj:OpR X (compareOp .Eq) rEq:=by
 intro gd s σ H x y v u Q I z g h;let(hs,q):=h;cases x with
 |non =>
  cases z;cases y with
  |non=>cases g;exact PySem.EqNone.eq_none_none (aX I q ap)
  |bl j=>cases g;exact PySem.EqNone.eq_none_bool (aX I q ap)
  |int j=>let(t',U):=g;exact PySem.EqNone.eq_none_int (aX I q ap)|str j=>let(t',U):=g;exact PySem.EqNone.eq_none_str (aX I q ap)|_=>exact absurd (show ϊ=O from hs) su
 |bl i =>
  cases z;cases y with
  |non=>cases g;exact PySem.EqNone.eq_bool_none (aX I q ap)
  |bl j=>cases g;exact eq_bool (aX I q FO)
  |str j=>let(t',U):=g;exact PySem.EqMixed.eq_bool_str (aX I q ap)|_=>exact absurd (show ϊ=O from hs) su
 |int i =>
  let(t,U):=z;cases y with
  |non=>cases g;exact PySem.EqNone.eq_int_none (aX I q ap)
  |int j=>let(t',U):=g;exact eq_int (aX I q AJ)|str j=>let(t',U):=g;exact PySem.EqMixed.eq_int_str (aX I q ap)|_=>exact absurd (show ϊ=O from hs) su
 |str i =>
  let(t,U):=z;cases y with
  |non=>cases g;exact PySem.EqNone.eq_str_none (aX I q ap)
  |bl j=>cases g;exact PySem.EqMixed.eq_str_bool (aX I q ap)
  |int j=>let(t',U):=g;exact PySem.EqMixed.eq_str_int (aX I q ap)|str j=>let(t',U):=g;exact eq_str (aX I q AI)|_=>exact absurd (show ϊ=O from hs) su
 |byt i =>
  let(t,U):=z;cases y with|byt j=>let(t',U):=g;exact W.eq_bytes (aX I q AK)|_=>exact absurd (show ϊ=O from hs) su
 |_=>cases y <;> exact absurd (show ϊ=O from hs) su
theorem kC:OpR X (compareOp .NotEq) rNe:=by
 intro gd s σ H x y v u Q I z g h;let(hs,q):=h;cases x with
 |non =>
  cases z;cases y with
  |non=>cases g;exact PySem.EqNone.ne_none_none (aX I q ap)
  |bl j=>cases g;exact PySem.EqNone.ne_none_bool (aX I q ap)
  |int j=>let(t',U):=g;exact PySem.EqNone.ne_none_int (aX I q ap)|str j=>let(t',U):=g;exact PySem.EqNone.ne_none_str (aX I q ap)|_=>exact absurd (show ϊ=O from hs) su
 |bl i =>
  cases z;cases y with
  |non=>cases g;exact PySem.EqNone.ne_bool_none (aX I q ap)
  |bl j=>cases g;exact ne_bool (aX I q (congrArg not FO))
  |str j=>let(t',U):=g;exact PySem.EqMixed.ne_bool_str (aX I q ap)|_=>exact absurd (show ϊ=O from hs) su
 |int i =>
  let(t,U):=z;cases y with
  |non=>cases g;exact PySem.EqNone.ne_int_none (aX I q ap)
  |int j=>let(t',U):=g;exact ne_int (aX I q (congrArg not AJ))|str j=>let(t',U):=g;exact PySem.EqMixed.ne_int_str (aX I q ap)|_=>exact absurd (show ϊ=O from hs) su
 |str i =>
  let(t,U):=z;cases y with
  |non=>cases g;exact PySem.EqNone.ne_str_none (aX I q ap)
  |bl j=>cases g;exact PySem.EqMixed.ne_str_bool (aX I q ap)
  |int j=>let(t',U):=g;exact PySem.EqMixed.ne_str_int (aX I q ap)|str j=>let(t',U):=g;exact ne_str (aX I q (congrArg not AI))|_=>exact absurd (show ϊ=O from hs) su
 |byt i =>
  let(t,U):=z;cases y with|byt j=>let(t',U):=g;exact W.ne_bytes (aX I q (congrArg not AK))|_=>exact absurd (show ϊ=O from hs) su
 |_=>cases y <;> exact absurd (show ϊ=O from hs) su
def An:OpR X (compareOp .Lt) (rI0 λi j=>.bl (decide (i<j))):=II λ_ _ _ _ _ _ _ q=>lt_int q
def EL:OpR X (compareOp .LtE) (rI0 λi j=>.bl (decide (i<=j))):=II λ_ _ _ _ _ _ _ q=>le_int q
def Ao:OpR X (compareOp .Gt) (rI0 λi j=>.bl (decide (j<i))):=II λ_ _ _ _ _ _ _ q=>gt_int q
def OA:OpR X (compareOp .GtE) (rI0 λi j=>.bl (decide (j<=i))):=II λ_ _ _ _ _ _ _ q=>ge_int q
def BM:OpR X (compareOp .In) (λx y H Q=>∃i j,x=.str i/\y=.str j/\Q (.bl (!(Builtin.Str.occurrences j i 0 j.length 1).isEmpty)) H):=by intro gd s σ H x y v u Q I z g h;let(i,j,U,U,q):=h;let(t,U):=z;let(t',U):=g;exact in_str (aX I q U)
def Md:OpR X (compareOp .Is) (λx y H Q=>y=.non/\Q (.bl (decide (x=.non))) H):=by intro gd s σ H x y v u Q I z g h;let(U,q):=h;cases g;refine is_none_gen (aX I q ?_);cases x <;>(let(t,U):=z;rfl)
def oC:OpR X (compareOp .IsNot) (λx y H Q=>y=.non/\Q (.bl (!decide (x=.non))) H):=by intro gd s σ H x y v u Q I z g h;let(U,q):=h;cases g;refine isnot_none_gen (aX I q ?_);cases x <;>(let(t,U):=z;rfl)
def uP:OpR X (compareOp .NotIn) (λx y H Q=>∃i j,x=.str i/\y=.str j/\Q (.bl (!(!(Builtin.Str.occurrences j i 0 j.length 1).isEmpty))) H):=by intro gd s σ H x y v u Q I z g h;let(i,j,U,U,q):=h;let(t,U):=z;let(t',U):=g;exact notIn_str (aX I q U)
def OpR.or{f:B->B->Sem B}{r:R2}(h:OpR X f r)(h':OpR X f r'):OpR X f (λx y H Q=>r x y H Q\/r' x y H Q):=by
 intro gd s σ H x y v u Q I z g q;obtain q|q:=q
 ·exact h gd s σ H x y v u Q I z g q
 exact h' gd s σ H x y v u Q I z g q
def bb(b:Do)(h:autoParam (op ≠ .In) zdc._auto_1)(h2:autoParam (op ≠ .NotIn) zdc._auto_1):behindInMarks op b=false:=EW b h h2
def Ir{r:R2}(ho:OpR X (compareOp op) r)(P:PE X a ta)(K:PE X b tb)(hm:behindInMarks op b=ϊ):PE X (.Compare a [op] [b] pos) (tOp r ta tb):=by left;exact wpAny_Compare1 (M9 P K I h λv u s2 x y H2 V z g q=>ho gd s2 σ H2 x y v u Q V z g q) hm
def sE(t:TE):TT:=λσ H Q=>t σ H λx H'=>∃k,x=.bl k/\Q k H'
def ku{r:R2}(ho:OpR X (compareOp op) r)(ha:PE X a ta)(hb:PE X b tb)(hm:behindInMarks op b=ϊ):PT X (.Compare a [op] [b] pos) (sE (tOp r ta tb)):=by
 left;refine wpAny_isTrue_Compare1 (thn (ha gd s σ H _ I h) λv s1 (x,H1,I1,K,q1)=>thn (hb gd s1 σ H1 _ I1 q1) λu s2 (y,H2,I2,q,V) =>
thn (ho gd s2 σ H2 x y v u _ I2 K q V) λc s3 (z,H3,I3,g,k,e,P)=>?_) hm
 subst e;cases g;exact wpAny_truthy_bool (H3,I3,P)
def t9(r r':R2)(ta tb tc:TE):TE:=λσ H Q=>ta σ H λx H1=>tb σ H1 λy P=>r x y P λz g=>∃k,z=.bl k /\
 (if k=O then tc σ g λq K=>r' y q K Q else Q (.bl ϊ) g)
def EA{r:R2}(ho:OpR X (compareOp op) r)(g:OpR X (compareOp op') r')(ha:PE X a ta)(hb:PE X b tb)(hc:PE X c tc)
  (hm:lastMarks [op,op'] [b,c]=false:=by with_unfolding_all rfl):PE X (.Compare a [op,op'] [b,c] pos) (t9 r r' ta tb tc):=by
 left;refine Compare_chain (thn (ha gd s σ H _ I h) λv s1 (x,H1,I1,r1,q1)=>chain_link (thn (hb gd s1 σ H1 _ I1 q1) λu s2 (y,H2,I2,q,q2) =>
thn (ho gd s2 σ H2 x y v u _ I2 r1 q q2) λd s3 (z,V,P,r3,k,e,K)=>?_)) hm
 subst e;cases r3;refine wpAny_truthy_bool ?_;cases k with|false=>exact ite_ff (.bl ϊ,V,P,U,K)|true=>exact ite_tt (chain_last (thn (hc gd s3 σ V _ P K) λw' s4 (z',H4,I4,r4,q4)=>g gd s4 σ H4 y z' u w' Q I4 q r4 q4))
def Ed{r:R2}(ho:OpR X (compareOp op) r)(g:OpR X (compareOp op') r')(ha:PE X a ta)(hb:PE X b tb)(hc:PE X c tc)
  (hm:lastMarks [op,op'] [b,c]=false:=by with_unfolding_all rfl):PT X (.Compare a [op,op'] [b,c] pos) (sE (t9 r r' ta tb tc)):=by
 left;refine isTrue_chain (thn (ha gd s σ H _ I h) λv s1 (x,H1,I1,r1,q1)=>test_link (thn (hb gd s1 σ H1 _ I1 q1) λu s2 (y,H2,I2,K,q2) =>
thn (ho gd s2 σ H2 x y v u _ I2 r1 K q2) λd s3 (z,H3,V,r3,k,e,P)=>?_)) hm
 subst e;cases r3;refine wpAny_truthy_bool ?_;cases k with
 |false =>
  let(k',e',q'):=P;cases e';exact ite_ff (H3,V,q')
 |true =>refine ite_tt (test_last (thn (hc gd s3 σ H3 _ V P) λw' s4 (z',H4,I4,r4,q4)=>thn (g gd s4 σ H4 y z' u w' _ I4 K r4 q4) λd' s5 q=>?_));let(z2,H5,I5,r5,k2,e2,q5):=q;subst e2;cases r5;exact wpAny_truthy_bool (H5,I5,q5)
def JQ(K:BT)(x:V)(H:Hp)(k:Bool):Prop:=
 match x with|.non=>k=ϊ|.bl b=>k=b|.int i=>k=(i != 0)|.str y=>y.length<=p6/\k=((y.length:Int) != 0)|.byt y=>y.size<=p6/\k=((y.size:Int) != 0)|.ref p=>(∃xs,SqL K H p xs/\k = !xs.isEmpty)\/(∃xs,SqT K H p xs/\k = !xs.isEmpty)\/∃kvs,H p=Z (.dK kvs)/\k = !kvs.isEmpty|_=>False
def zx{κ:Type}{kvs:List (κ×V)}{vs:List (κ×B)}(r:KV kvs vs):(!vs.isEmpty) = !kvs.isEmpty:=by cases r <;> rfl
def qG(r:Vals xs its):(!its.toArray.isEmpty) = !xs.isEmpty:=by cases r <;> simp
def jP:(p6:Nat)<2 ^ 63:=am
def xD(h:n<=p6):(n:Int)<2 ^ 63:=by have:=RY;omega
theorem KW:Q5 X (λx H Q=>∃k,JQ X.K x H k/\Q k H):=by
 intro gd s σ H x v Q I z h;let(k,e,q):=h;have hl:=jP;have hs:p6=16777216:=RY;cases x with
 |non =>
  cases z;have g:k=false:=e;subst g;exact truthy_none (H,I,q)
 |bl b =>
  cases z;have g:k=b:=e;subst g;exact wpAny_truthy_bool (H,I,q)
 |int i =>let(t,U):=z;have g:k=(i != 0):=e;subst g;exact PySem.P.truthy_int (H,I,q)|str y =>let(t,U):=z;let(hy,g):=e;subst g;exact PySem.P.truthy_str bd (H,I.tok _,q)|byt y =>let(t,U):=z;let(hy,g):=e;subst g;exact W.truthy_bytes bd (H,I.tok _,q)|ref p =>
  cases z;have g:=e;obtain⟨xs,hx,g⟩|⟨xs,hx,g⟩|⟨kvs,hx,g⟩:=g
  ·subst g;let(its,r,pl,V):=I.list hx;have hlen:=r.length;exact wpAny_truthy_list pl.isList (by rw[ti,<- hlen];exact xD (by assumption)) (H,I.tok _,by rw[qG r];exact q)
  ·subst g;let(its,r,pl,V):=I.tuple hx;have hlen:=r.length;exact truthy_tuple pl (by rw[ti,<- hlen];exact xD (by assumption)) (H,I.tok _,by rw[qG r];exact q)
  subst g;let(V,hS,vs,r,m):=I.hok p _ hx;have hlen:kvs.length=vs.length:=Paired.length r;exact wpAny_truthy_dict hS m (by rw[<- hlen];exact xD V) (H,I.tok _,by rw[zx r];exact q)
 |_=>exact(show False from e).elim
def Ec(z:PE X a ta)(he:∀whole,isTrue a X.env whole=(do let v <- whole;standAt a.pos;holding [v] (truthy v))):
  PT X a (λσ H Q=>ta σ H λx H'=>∃k,JQ X.K x H' k/\Q k H'):=by
 left;exact isTrue_plain (thn (z gd s σ H _ I h) λv s1 (x,H1,P,g,q)=>KW gd s1 σ H1 x v Q P g q) (he _)
def zd:OpR X (binaryOp .Add) (λx y H Q=>∃i j,x=.str i/\y=.str j/\i.length+j.length<=p6/\Q (.str (i++j)) H):=by intro gd s σ H x y v u Q I z g h;let(i,j,U,U,K,q):=h;let(t,U):=z;let(t',U):=g;exact add_str (λt' tk=>(.str (i++j),H,I.tok _,(_,U),q)) K
def vals1{x:V}(r:Vals [x] us):∃u,us=[u]/\RelV x u:=by cases r with|cons q g=>cases g;exact(_,U,q)
def vals2{x:V}(r:Vals [x,y] us):∃u g,us=[u,g]/\RelV x u/\RelV y g:=by cases r with|cons P K =>cases K with|cons z q=>cases q;exact(_,_,U,P,z)
def mK(z:X.calm=O):cY X (.builtin "max") (λxs H Q=>∃i j,xs=[.int i,.int j]/\Q (.int (if j > i then j else i)) H):=by
 intro gd s σ H xs us Q I r h;let(i,j,U,q):=h;let(u,K,U,(t,U),(t',U)):=vals2 r;refine max_two_ints (I.ok.hd z) λh' tk k=>(_,H,I.kept k,?_,q);by_cases g:j > i
 ·rw[if_pos g,if_pos g];exact(_,U)
 rw[if_neg g,if_neg g];exact(_,U)
def tj:cY X (.type "int") (λxs H Q=>(∃i,xs=[.int i]/\Q (.int i) H)\/∃k,xs=[.bl k]/\Q (.int (if k then 1 else 0)) H):=by
 intro gd s σ H xs us Q I r h;obtain⟨i,rfl,q⟩|⟨k,rfl,q⟩:=h
 ·let(u,U,t,U):=vals1 r;exact call_int_int (.int i,H,I,(_,U),q)
 let(u,U,g):=vals1 r;cases g;exact call_int_bool (.int (if k then 1 else 0),H,I.tok _,(_,U),q)
end
structure CA(h:Dd)(x dx C:J)(mA:Υ):Prop where
 obj:h.get? x=Z (W.instObj C dx)
 ns:h.Ns1 dx mA
 ne:dx≠x
variable{mA:Υ}
theorem B0{h:Dd}{dx:J}(n:h.Ns1 dx mA):∃od,h.get? dx=Z od/\∀name,W.lookIn name od=Z (mA name):=by
 let(o,es,Q,ho,hd,K,_,hm):=n;refine(o,ho,λname=>?_);have e:=hm name;unfold nsFind findBy at e;rw[<- S8]at e;unfold W.lookIn;rw[hd];dsimp only;split
 ·rename_i y q;rw[q]at e;exact congrArg Z e
 rename_i q;rw[q]at e;have a:es.toList.any (·.refKey)=false:=by rw[Tc];intro y g;let(z,t,P):=K y (Array.mem_toList_iff.mp g);simp[DictEntry.refKey,P]
 have a':¬ es.toList.any (·.refKey)=true:=by rw[a];exact su
 rw[if_neg a'];exact congrArg Z e
variable{C:J}
theorem CA.look{h:Dd}{x dx:J}(I:CA h x dx C mA):∃od,W.InstAt h x (W.instObj C dx) C (Z od)/\∀name,W.lookIn name od=Z (mA name):=
 let(od,ho,hl):=B0 I.ns
 (od,(I.obj,U,U,ho),hl)
variable{ns:Γ}{R:Result->ϋ->Prop}{kw:List (Str×B)}
section
variable{prog:Da}{w:Cl}{s:ϋ}{K:BT}{x dx f:J}{name:Str}{v:B}
theorem get_map{expr:Bool}(X:K.In s.heap)(I:CA s.heap x dx C mA)(hg:W.plainGet K C name=O)(q:W.hasDictIn K C=O)
  (z:W.findIn K (.ref C) name=Z Y) (hv:mA name=Z v) (g:W.handedIn v=O) (h:Q v {s with toks:=s.toks+1}):
  wpAny (model prog w) A (getAttr (.ref x) name expr) Q E s:=by
 let(od,TN,hl):=I.look;exact W.get_value X TN (W.plainGet_of hg).1 (W.findObj_own q z U (by rw[hl,hv])) g h
theorem Hw{Q:Unit->ϋ->Prop}(X:K.In s.heap)(I:CA s.heap x dx C mA)
  (hs:W.findIn K (.ref C) "__setattr__"=Z (Z (.builtin "object.__setattr__"))) (hp:W.plainOver K C=O) (ht:W.takerIn K C name=Z Y) (hh:W.hasDictIn K C=O)
  (hw:PySem.Within mA ns) (hsz:ns.length<=p6)
  (h:∀h',CA h' x dx C (λy=>if y=name then Z v else mA y)->R0 dx s.heap h'->Q () {s with heap:=h',toks:=s.toks+2}):
  wpAny (model prog w) A (setAttr (.ref x) name v) Q E s:=by
 let(od,TN,hl):=I.look;refine W.set_plain X TN hs (W.osa_open X TN hp ht λb=>?_);let(cd,hc,V):=W.any_some hh;have hx:=I.obj;refine gV (sr (gV (gV (wpAny_loadPart hx (gV (W.Looks.here (W.looks_clsIn X hc) ?_))))));rw[V];refine sr (gV (sr (gV ?_)));refine wpAny_nsSet1 I.ns λh' q g=>?_;let(oD,aP,aT,z,P,aN):=q.count (PySem.Within.cons name v hw);exact gV (wpAny_lookBehind z (by rw[P];exact pastItsLine_dict (vN aN (by rw[p7];omega))) (sr (h _ ((g.2 _ (Ne.symm I.ne)).trans I.obj,q,I.ne) g)))
theorem E7{vs:Δ}(X:K.In s.heap)(hm:W.makesIn K C=O)
  (hi:W.findIn K (.ref C) "__init__"=Z (Z (.ref f))) (hf:W.typeIn K (.ref f)=Z (.type "function"))
  (h:codeAny (model prog w) (A.under (.builtin "type.__call__" (.ref C::vs,kw))) (.call (.ref f) (.ref (s.heap.objs.size+1)::vs,kw)) (W.InitBack (s.heap.objs.size+1) R)
{s with heap:=(s.heap.push W.emptyDict).push (W.instObj C s.heap.objs.size)}):
  codeAny (model prog w) A (.call (.ref C) (vs,kw)) R s:=by
 exact W.make_core (W.makes_of X hm) (W.looks_findIn X hi) (λself=>W.bind_fn X self hf) (.inl U) h
end
def jJ(f:Str)(v:V):List (Str×V)->List (Str×V)
 |[]=>[(f,v)]| (g,x)::r=>if g=f then(g,v)::r else(g,x)::jJ f v r
theorem m6(f g:Str)(v:V):∀fs:List (Str×V),(jJ f v fs).lookup g=if g=f then Z v else fs.lookup g
 |[]=>by
  show Rx g [(f,v)]=_;by_cases h:g=f
  ·have q:=beq_iff_eq.mpr h;simp only[Rx,q,if_pos h]
  have q:=beq_eq_false_iff_ne.mpr h;simp only[Rx,q,if_neg h]
 | (k,x)::r=>by
  have K:=m6 f g v r;rw[show jJ f v ((k,x)::r)=(if k=f then(k,v)::r else(k,x)::jJ f v r)from rfl];by_cases z:k=f
  ·rw[if_pos z];by_cases h:g=k
   ·have q:=beq_iff_eq.mpr h;simp only[Rx,q,if_pos (h.trans z)]
   have q:=beq_eq_false_iff_ne.mpr h;simp only[Rx,q,if_neg (λe:g=f=>h (e.trans z.symm))]
  rw[if_neg z];by_cases h:g=k
  ·have q:=beq_iff_eq.mpr h;simp only[Rx,q,if_neg (λe=>z (h.symm.trans e))]
  have q:=beq_eq_false_iff_ne.mpr h;simp only[Rx,q];exact K
theorem mH(f:Str)(v:V):∀fs:List (Str×V),f∈(jJ f v fs).map (·.1)/\∀g,g∈fs.map (·.1)->g∈(jJ f v fs).map (·.1)
 |[]=>(by simp[jJ],λg h=>by simp at h)| (k,x)::r=>by
  let(K,z):=mH f v r;rw[show jJ f v ((k,x)::r)=(if k=f then(k,v)::r else(k,x)::jJ f v r)from rfl];by_cases q:k=f
  ·rw[if_pos q];subst q;exact(ap,λg h=>by simpa using h)
  rw[if_neg q];refine(?_,λg h=>?_)
  ·exact mm _ K
  obtain e|e:=ot.mp h
  ·exact ot.mpr (.inl e)
  exact mm _ (z g e)
theorem m7(f:Str)(v:V):∀fs:List (Str×V),(jJ f v fs).length<=fs.length+1
 |[]=>by simp[jJ]| (k,x)::r=>by
  have q:=m7 f v r;rw[show jJ f v ((k,x)::r)=(if k=f then(k,v)::r else(k,x)::jJ f v r)from rfl];by_cases g:k=f
  ·rw[if_pos g,p7,p7];lia
  rw[if_neg g,p7,p7];lia
def jn.some_of{v:V}{o:Option B}(r:jn (Z v) o):∃u,o=Z u/\RelV v u:=by cases o with|none=>exact(r).elim|some u=>exact(u,U,r)
theorem Ce{v:V}(r:RelV v u):W.handedIn u=true:=by
 cases v with
 |non=>cases(r);rfl
 |bl b=>cases(r);rfl
 |int i=>let(t,e):=(r);cases e;rfl
 |str x=>let(t,e):=(r);cases e;rfl
 |byt b=>let(t,e):=(r);cases e;rfl
 |flt b=>let(t,e):=(r);cases e;rfl
 |ref a=>cases(r);rfl
 |ty n=>cases(r);rfl
section
variable{w:Cl}{h:Dd}{dx:J}{fs:List (Str×V)}
def Az(hok:HOk P w H h)(e:H a=Z (.ins C dx fs)):∃mA,CA h a dx C mA/\(∀f,jn (fs.lookup f) (mA f))/\PySem.Within mA (fs.map (·.1))/\fs.length<=1000/\H dx=Z (.own a):=by let(d,z,ne,ob,mA,n,r,q):=(hok a _ e);exact(mA,(ob,n,ne),r,q,z,d)
end
structure Cls(K:BT)(C:J):Prop where
 pg:W.plainGet K C Str.empty=O
 hd:W.hasDictIn K C=O
 po:W.plainOver K C=O
 sa:W.findIn K (.ref C) "__setattr__"=Z (Z (.builtin "object.__setattr__"))
theorem Cls.get{K:BT}(c:Cls K C)(f:Str):W.plainGet K C f=true:=c.pg
def cc(K:BT)(C:J)(f:Str):Prop:=W.findIn K (.ref C) f=Z Y
theorem cc.NM{K:BT}{f:Str}(n:cc K C f):W.takerIn K C f=Z none:=by unfold W.takerIn;rw[n];rfl
structure Meth(K:BT)(C:J)(m:Str)(f:J):Prop where
 at_:W.findIn K (.ref C) m=Z (Z (.ref f))
 fn:W.isFn K (.ref f)=O
 kp:W.keepIn K (.ref f)=O
variable{prog:Da}{env:Env}
section
variable{σ:St}{s:ϋ}{dx:J}{fs:List (Str×V)}{f:Str}{v:V}
def zB{b:Bool}(I:Inv X gd σ H s)(e:H a=Z (.ins C dx fs))(c:Cls X.K C)(n:cc X.K C f)(l:fs.lookup f=Z v)
  (h:∀u s',Inv X gd σ H s'->RelV v u->Q u s'):wpAny (model X.prog X.w) A (getAttr (.ref a) f b) Q E s:=by
 let(mA,TJ,r,_,_,_):=Az I.hok e;let(u,g,ru):=jn.some_of (by rw[<- l];exact r f);exact get_map I.kIn TJ (c.get f) c.hd n g (Ce ru) (h u _ (I.tok _) ru)
def yx{Q:Unit->ϋ->Prop}(I:Inv X gd σ H s)(e:H a=Z (.ins C dx fs))(c:Cls X.K C)(n:cc X.K C f)(hl:fs.length<1000)(V:RelV y u)
  (h:∀s',Inv X gd σ (upd H a (.ins C dx (jJ f y fs))) s'->Q () s'):wpAny (model X.prog X.w) A (setAttr (.ref a) f u) Q E s:=by
 let(mA,TJ,r,wi,_,ho):=Az I.hok e;have hz:(fs.map (·.1)).length<=p6:=by rw[e7,RY];lia
 refine Hw I.kIn TJ c.sa c.po n.NM c.hd wi hz λh' P sb=>h _ ?_;have hd:∃o,h'.get? dx=Z o:=let(o,_,_,e',_):=P.ns;(o,e');refine I.write (x:=a) (e:=dx) (by rw[e];exact True.intro) (.inr ho) (λb q hb z=>(sb.2 b hb).trans z) hd (by rw[ak TJ.ne];exact ho,?_,TJ.ne,P.obj,_,P.ns,λg=>?_,λg hg=>?_)
 ·have:=m7 f y fs;lia
 ·rw[m6];by_cases q:g=f
  ·rw[if_pos q,if_pos q];exact V
  rw[if_neg q,if_neg q];exact r g
 by_cases q:g=f
 ·rw[q];exact(mH f y fs).1
 refine(mH f y fs).2 g (wi g λz=>hg ?_);show(if g=f then Z u else mA g)=Y;rw[if_neg q];exact z
theorem Inv.made(I:Inv X gd σ H s):Inv X gd σ (upd (upd H s.heap.objs.size (.own (s.heap.objs.size+1))) (s.heap.objs.size+1) (.ins C s.heap.objs.size []))
  {s with heap:=(s.heap.push W.emptyDict).push (W.instObj C s.heap.objs.size)}:=by
 have g:(s.heap.push W.emptyDict).get? s.heap.objs.size=Z W.emptyDict:=qg s.heap U;have P:=by
  have:=qg (s.heap.push W.emptyDict) (o:=W.instObj C s.heap.objs.size) U
  rwa [Gm]at this
 have K:(s.heap.push W.emptyDict).Ns s.heap.objs.size (λ_=>Y):=(W.emptyDict,#[],_,g,U,(λe he=>absurd he ap),λ_=>rfl);have Q:=I.laid (o:=.own (s.heap.objs.size+1)) (t':=s.toks) (λb u q=>jo _ q) (oQ _) (_,g);refine Q.laid (λb u q=>jo _ q) (Sr (Gm _ _)) ?_;have ne:s.heap.objs.size≠s.heap.objs.size+1:=x8 (Rn _);refine(by rw[ak ne,au],Rm _,ne,P,λ_=>Y,(Heap.Ns1.of_empty K).at λo q=>jo _ q,λ_=>True.intro,λy z=>absurd U z)
def JG{w:Cl}{f:Str}{pos:Pos}{s:ϋ}(q:attributeBase e f env (eval e env)=eval e env)
  (h:wpAny (model prog w) A (eval e env) (λo g=>wpAny (model prog w) A (getAttr o f O) Q E g) E s):wpAny (model prog w) A (eval (.Attribute e f pos) env) Q E s:=
 Attribute_any_ h (by rw[arm_eval_Attribute,q])
end
def PU(K:BT)(ta tv:TE)(f:Str):TS:=λD σ H=>tv σ H λy H1=>ta σ H1 λx g=>∃a C dx fs,x=.ref a/\g a=Z (.ins C dx fs)/\Cls K C/\cc K C f/\fs.length<1000 /\
 D.nx σ (upd g a (.ins C dx (jJ f y fs)))
section
variable{value:Do}{f:Str}{pos:Pos}{ta tv:TE}
def mw(V:PE X o ta)(hv:PE X value tv)(hs:swapsWith value (Z (.Attribute o f pos')) pos.line X.env=pure ϊ):PS X (.Assign [.Attribute o f pos'] value pos) (PU X.K ta tv f):=by right;refine plainObj_wpAny_Assign_Attribute (thn (hv gd s σ H _ I h) λu s1 (y,H1,I1,z,q)=>thn (V gd s1 σ H1 _ I1 q) λov s2 g=>?_) hs;let(x,H2,I2,P,a,C,dx,fs,ex,ea,c,n,l,Q):=g;subst ex;obtain rfl:=P;exact yx I2 ea c n l z λs3 I3=>(σ,_,I3,Q)
end
structure cn(k:Nat)(A:Db):Prop where
 hd:A.handled=Y
 dp:A.depth+3*k+5<recursionLimit
 un:A.units+16*k+200<cLine
def cn.mono{k:Nat}(r:cn k A)(h:j<=k):cn j A:=(r.hd,by have:=r.dp;lia,by have:=r.un;lia)
theorem cn.deeper{k:Nat}{A:Db}(r:cn (k+1) A)(env:Env):cn k (A.deeper env):=
 (r.hd,by have:=r.dp;show A.depth+1+3*k+5<_;lia,by have:=r.un;show A.units+3+16*k+200<_;lia)
def zq:(A.under (.builtin "type.__call__" (.ref C::us,kw))).depth=A.depth+1:=by rfl
def zp:(A.under (.builtin "type.__call__" (.ref C::us,kw))).units=A.units+1:=by rfl
def cn.make{k:Nat}{A:Db}(r:cn (k+1) A)(C:J)(us:Δ)(kw:List (Str×B)):cn k (A.under (.builtin "type.__call__" (.ref C::us,kw))):=
 (r.hd,by have:=r.dp;rw[zq];lia,by have:=r.un;rw[zp];lia)
theorem cn.depth{k:Nat}{A:Db}(r:cn k A):A.depth<recursionLimit:=by have:=r.dp;lia
theorem cn.units{k:Nat}{A:Db}(r:cn k A):A.units+64<cLine:=by have:=r.un;lia
def lU:TA:=λ_ H Q=>Q [] H
def c5(ta:TE)(tr:TA):TA:=λσ H Q=>ta σ H λx H1=>tr σ H1 λxs g=>Q (x::xs) g
section
variable{t:TA}{pos:Pos}
def fO:PA X [] lU:=λ_ _ _ _ H Q I h=>Calls.spliced_nil ([],H,I,.nil,h)
abbrev AC(X:Cx)(e:Do)(f:List Do):Prop:=nY (e::f) X.env=(false,eval e X.env)::nY f X.env
def bM(P:PE X e te)(hr:PA X es t)(hs:‹AC X e es›):PA X (e::es) (c5 te t):=by intro pos gd s σ H Q I h;rw[hs];show wpAny _ _ (spliced ((ϊ,eval e X.env)::backTo pos (nY es X.env))) _ _ s;exact Calls.spliced_cons (thn (P gd s σ H _ I h) λu s1 (x,H1,I1,q,K)=>(thn (hr pos gd s1 σ H1 _ I1 K) λus s2 (xs,H2,V,g,z)=>(x::xs,H2,V,.cons q g,z)))
def KZ(t:TA):TE:=λσ H Q=>t σ H λxs H1=>xs.length<=p6/\∀p,H1 p=Y->Q (.ref p) (upd H1 p (.tup xs))
def NO(t:TA):TE:=λσ H Q=>t σ H λxs H1=>xs.length<=p6/\∀p,H1 p=Y->Q (.ref p) (upd H1 p (.lst xs))
def Eu{x1}(h:PA X es t):PE X (.Tuple es x1 pos) (KZ t):=by intro gd s σ H Q I hq;refine wpAny_Tuple_spliced (thn (h pos gd s σ H _ I hq) λus s1 (xs,H1,g,r,z,q)=>(by rw[<- r.length];exact z,?_));have hf:=g.hok.fresh (oQ _);refine(.ref s1.heap.objs.size,upd H1 s1.heap.objs.size (.tup xs),g.laid (λb u e=>jo _ e) (oQ _) ?_,U,q _ hf);exact(z,us,r,((_,qg _ U,U,_,U),_,qg _ U,U))
def L8(h:PA X es t):PE X (.List es pos) (NO t):=by intro gd s σ H Q I hq;refine wpAny_List_spliced (thn (h pos gd s σ H _ I hq) λus s1 (xs,H1,g,r,z,q)=>(by rw[<- r.length];exact z,?_));have hf:=g.hok.fresh (oQ _);refine(.ref s1.heap.objs.size,upd H1 s1.heap.objs.size (.lst xs),g.laid (λb u e=>jo _ e) (oQ _) ?_,U,q _ hf);exact(z,us,0,r,qg _ U)
end
abbrev Sp:=Ω->Hp->VK->XK->Prop
abbrev CXT:=List Env->Hp->ϋ->XK->Φ
structure zO(P:Da)(w:Cl)(K:BT)(mg:Υ)(base:Dd)(A:Db)(outer:List Env)(s:ϋ)(H:Hp):Prop where
 frames:A.frames=Z outer
 mod:Mod K mg base
 bs:∀b o,base.get? b=Z o->s.heap.get? b=Z o/\H b=Y
 bsz:base.objs.size<=s.heap.objs.size
 jl:s.heap.FunFrames base outer
 frf:∀b∈frs outer,H b=Y
 hok:HOk P w H s.heap
 bare:AllBare s.gens
def CE(outer:List Env)(P:Da)(w:Cl)(H:Hp)(s:ϋ)(Q:VK)(u:B)(s':ϋ):Prop:=
 ∃v H',s'.os=s.os/\AllBare s'.gens/\Un (frs outer) [] H H' s.heap s'.heap/\HOk P w H' s'.heap/\RelV v u/\Q v H'
def CR(CX:CXT)(outer:List Env)(P:Da)(w:Cl)(H:Hp)(s:ϋ)(Q:VK)(E:XK)(r:Result)(s':ϋ):Prop:=
 match r with|.ok (.ret u)=>CE outer P w H s Q u s'|.ok _=>False|.error e=>CX outer H s E e s'
structure aS(P:Da)(w:Cl)(K:BT)(mg:Υ)(base:Dd)(CX:CXT)(k:Nat)(f:J)(fd:Ch)(ps:Γ)(sp:Sp):Prop where
 len:∀vs H Q E,sp vs H Q E->vs.length=ps.length
 run:∀(A:Db)(outer:List Env)(s:ϋ)(H:Hp)(args:Args)(us:Δ)(vs:Ω)(Q:VK)(E:XK),cn k A->zO P w K mg base A outer s H->BindsTo s fd args (ps.zip us)->Vals vs us->sp vs H Q E ->
  codeAny (model P w) A (.call (.ref f) args) (CR CX outer P w H s Q E) s
variable{mg:Υ}{base:Dd}{CX:CXT}{fd:Ch}{ps:Γ}{sp:Sp}
theorem aS.imp{w:Cl}{K:BT}{k:Nat}{f:J}{g:Sp}(F:aS P w K mg base CX k f fd ps sp)
  (h:∀vs H Q E,g vs H Q E->sp vs H Q E):aS P w K mg base CX k f fd ps g:=
 (λvs H Q E q=>F.len vs H Q E (h _ _ _ _ q),λA outer s H args us vs Q E hr he z hv hs=>F.run A outer s H args us vs Q E hr he z hv (h _ _ _ _ hs))
theorem zO.make{P:Da}{w:Cl}{K:BT}{mg:Υ}{base:Dd}{A:Db}{outer:List Env}{s:ϋ}{H:Hp}(e:zO P w K mg base A outer s H)(C:J)(us:Δ)(kw:List (Str×B)):
  zO P w K mg base (A.under (.builtin "type.__call__" (.ref C::us,kw))) outer s H:=(by exact e.frames,e.mod,e.bs,e.bsz,e.jl,e.frf,e.hok,e.bare)
section
variable{σ:St}{s:ϋ}
def Inv.M4(I:Inv X gd σ H s):zO X.prog X.w X.K X.mg X.base X.A X.stack s H:=
 (I.ok.frames,I.ok.mod,I.bs,vN I.ok.bsz I.sz,I.stack,I.i7,I.hok,I.bare)
def Inv.after{Q:VK}(I:Inv X gd σ H s)(h:CE X.stack X.prog X.w H s Q u s'):EP X gd σ Q u s':=by let(v,H',os,bare,un,hok,r,q):=h;let(P,g,d,t,K):=s';obtain rfl:=os;exact(v,H',I.call un hok bare (λb z=>absurd z ap),r,q)
end
def mY(sp:Sp)(dvs:Ω)(E:XK)(t:TA):TE:=λσ H Q=>t σ H λvs H1=>sp (vs++dvs) H1 Q E
def Binds(K:BT)(fd:Ch)(ps:Γ)(ds:Δ):Prop:=
 ∀(s:ϋ)(us:Δ),K.In s.heap->(us++ds).length=ps.length->BindsTo s fd (us,[]) (ps.zip (us++ds))
theorem Binds.all{K:BT}(h:∀us:Δ,us.length=ps.length->bindArgs fd (us,[])=pure (ps.zip us)):Binds K fd ps []:=λs us _ hl=>by
 rw[u3]at hl ⊢;exact .of_eq (h us hl)
def Passes(CX:CXT)(X:Cx)(E:XK):Prop:=∀(gd:Ξ)(σ:St)(H:Hp)(s:ϋ)(e:B)(s':ϋ),Inv X gd σ H s->CX X.stack H s E e s'->X.xe e s'
section
variable{k:Nat}{f:J}{dvs:Ω}{ds:Δ}{E:XK}{p pos:Pos}{t:TA}
theorem Lg{σ:St}{s:ϋ}{Q:VK}{vs:Ω}(F:aS X.prog X.w X.K X.mg X.base CX k f fd ps sp)(hr:cn k X.A)(q:Binds X.K fd ps ds)(hd:Vals dvs ds)(hx:Passes CX X E)
  (I:Inv X gd σ H s) (r:Vals vs us) (h:sp (vs++dvs) H Q E):Zc X (call (.ref f) us) (EP X gd σ Q) X.xe s:=by
 have g:=r.append hd;have hl:(us++ds).length=ps.length:=by rw[<- g.length];exact F.len _ _ _ _ h
 refine wpAny_call (codeAny_mono (F.run X.A X.stack s H (us,[]) (us++ds) (vs++dvs) Q E hr I.M4 (q s us I.kIn hl) g h) λr s' hq=>?_);cases r with|error e=>exact hx gd σ H s e s' I hq|ok fl =>cases fl with|ret u=>exact I.after hq|next=>exact False.elim hq|brk=>exact False.elim hq|cont=>exact False.elim hq
abbrev AM(X:Cx)(p:Pos)(e:List Do):Prop:=(backTo p (nY e X.env)).any (·.1)=false
theorem oB(F:aS X.prog X.w X.K X.mg X.base CX k f fd ps sp)(hr:cn k X.A)(hg:Gl X x)(hm:X.mg x=Z (.ref f))(V:W.keepIn X.K (.ref f)=O)(hb:Binds X.K fd ps ds)(hd:Vals dvs ds)(hx:Passes CX X E)
  (ha:PA X (e::es) t) (z:autoParam (AS x) zdc._auto_1) (he:‹AC X e es›) (g:‹AM X pos es›):
  PE X (.Call (.Name x p) (e::es) [] pos) (mY sp dvs E t):=by
 left;exact KY (kI I hg hm (W.callWith_K (h₀:=X.base) I.ok.mod.kin V (thn (ha pos gd s σ H _ I h) λus s1 (vs,H1,P,r,q)=>(P.kIn,(Lg F hr hb hd hx P r q))) he g) z)
structure Mk(K:BT)(C f:J):Prop where
 makes:W.makesIn K C=O
 init:W.findIn K (.ref C) "__init__"=Z (Z (.ref f))
 fn:W.isFn K (.ref f)=O
 kp:W.keepIn K (.ref C)=O
theorem Du{σ:St}{s:ϋ}{Q:VK}{vs:Ω}(M:Mk X.K C f)(F:aS X.prog X.w X.K X.mg X.base CX k f fd ps sp)(hr:cn (k+1) X.A)(hb:Binds X.K fd ps ds)(hd:Vals dvs ds)
  (hx:Passes CX X E) (I:Inv X gd σ H s) (r:Vals vs us)
  (h:∀x dx,H x=Y->H dx=Y->dx≠x->sp (.ref x ::(vs++dvs)) (upd (upd H dx (.own x)) x (.ins C dx [])) (λv H2=>v=.non/\Q (.ref x) H2) E):
  Zc X (call (.ref C) us) (EP X gd σ Q) X.xe s:=by
 have hq:=h (s.heap.objs.size+1) s.heap.objs.size (I.hok.fresh (Nat.le_succ _)) (I.hok.fresh (oQ _)) (x8 (Rn _));have q:=Inv.made (C:=C) I;have z:Vals (V.ref (s.heap.objs.size+1) ::(vs++dvs)) (B.ref (s.heap.objs.size+1) ::(us++ds)):=.cons U (r.append hd);have hl:=by have e:=z.length;rw[F.len _ _ _ _ hq]at e;exact e.symm
 refine wpAny_call (E7 I.kIn M.makes M.init (beq_iff_eq.mp M.fn) (codeAny_mono (F.run _ X.stack _ _ (B.ref (s.heap.objs.size+1)::us,[]) (B.ref (s.heap.objs.size+1) ::(us++ds)) _ _ E (hr.make C us [])
(q.M4.make C us []) (hb _ (B.ref (s.heap.objs.size+1)::us) q.kIn hl) z hq) λr s' g=>?_))
 cases r with|error e=>exact hx gd σ _ _ e s' q g|ok fl =>cases fl with|ret u =>let(v,H',I3,P,ev,q3):=q.after g;subst ev;exact(P,(V.ref (s.heap.objs.size+1),H',I3,U,q3))|next=>exact False.elim g|brk=>exact False.elim g|cont=>exact False.elim g
end
structure az(N P:Γ)(sc:Scope):Prop where
 kind:sc.kind=.function
 co:sc.isCoroutine=ϊ
 gen:sc.isGenerator=ϊ
 nd:N.Nodup
 pre:N.take P.length=P
 par:∀x∈P,sc.names.lookup x=Z .local\/sc.names.lookup x=Z .cell
 Mm:∀y∈sc.names,y.2 ≠ .free
theorem tm{kindOf:Str->Option NameKind}{x:Str}:∀{binds:List (Str×B)}{m:Υ},(∀v,(x,v) ∉ binds)->bindL kindOf binds m x=m x
 |[],_,_=>rfl| (n,v)::r,m,h=>by
  unfold bindL;rw[tm λw hw=>h w (mm _ hw)];split
  ·have:x≠n:=by rintro rfl;exact h v iY
   simp[this]
  rfl
theorem tw{kindOf:Str->Option NameKind}{x:Str}:∀{binds:List (Str×B)}{m:Υ},(∀v,(x,v) ∉ binds)->bindC kindOf binds m x=m x
 |[],_,_=>rfl| (n,v)::r,m,h=>by
  unfold bindC;rw[tw λw hw=>h w (mm _ hw)];split
  ·rfl
  have:x≠n:=by rintro rfl;exact h v iY
  simp[this]
theorem tu{kindOf:Str->Option NameKind}{x:Str}{v:B}:∀{P:Γ}{vs:Δ}{i:Nat}{m:Υ},P.Nodup->P[i]?=Z x->vs[i]?=Z v->kindOf x=Z .local ->
  bindL kindOf (P.zip vs) m x=Z v
 |[],_,_,_,_,h,_,_=>by simp at h|_::_,[],_,_,_,_,h,_=>by simp at h|p::P,w::vs,0,m,nd,h1,h2,g=>by
  simp at h1 h2;subst h1;subst h2;show bindL kindOf ((p,w)::P.zip vs) m p=_;unfold bindL;rw[tm λv hv=>(yd.mp nd).1 (Sj hv).1,if_pos g];simp
 |p::P,w::vs,i+1,m,nd,h1,h2,g=>by
  unfold bindL;exact tu (yd.mp nd).2 (h1:) (h2:) g
theorem tD{kindOf:Str->Option NameKind}{x:Str}{v:B}:∀{P:Γ}{vs:Δ}{i:Nat}{m:Υ},P.Nodup->P[i]?=Z x->vs[i]?=Z v->kindOf x≠Z .local ->
  bindC kindOf (P.zip vs) m x=Z v
 |[],_,_,_,_,h,_,_=>by simp at h|_::_,[],_,_,_,_,h,_=>by simp at h|p::P,w::vs,0,m,nd,h1,h2,g=>by
  simp at h1 h2;subst h1;subst h2;show bindC kindOf ((p,w)::P.zip vs) m p=_;unfold bindC;rw[tw λv hv=>(yd.mp nd).1 (Sj hv).1,if_neg g];simp
 |p::P,w::vs,i+1,m,nd,h1,h2,g=>by
  unfold bindC;exact tD (yd.mp nd).2 (h1:) (h2:) g
def start(N:Γ)(vs:Ω):St:=vs.map Z++CB (N.length-vs.length) Y
def kX(CX:CXT)(P:Da)(w:Cl)(K:BT)(mg:Υ)(base:Dd)(N:Γ)(qual:Str)(scope:Scope)(f:J)(cd:B)(A:Db)(outer:List Env)(s:ϋ)(H:Hp)(E:XK):Cx where
 prog:=P
 w:=w
 K:=K
 mg:=mg
 base:=base
 A:=A.deeper (envOfC qual scope s.heap.objs.size f cd)
 N:=N
 s₀:=s
 bi:=H
 env:=envOfC qual scope s.heap.objs.size f cd
 outer:=outer
 stack:=envOfC qual scope s.heap.objs.size f cd::outer
 ex:=[]
 calm:=O
 fn:=λ_=>O
 pn:=[]
 xe:=λe s'=>wpAny (model P w) (A.deeper (envOfC qual scope s.heap.objs.size f cd)) (leaving (envOfC qual scope s.heap.objs.size f cd) e) (λ_ g=>CX outer H s E e g) (λq g=>CX outer H s E q g) s'
variable{sc:Scope}
theorem xO(h:sc.names.lookup x=Z .cell):∃c,(cellsFrom n sc.names []).lookup x=Z c:=by have q:=W.cellsFrom_some sc.names n [] (.inl h);exact Option.isSome_iff_exists.mp q
variable{qual:Str}{scope:Scope}{cd:B}{outer:List Env}
theorem B9{w:Cl}{K:BT}{f:J}{s s1:ϋ}{E:XK}{vs:Ω}
  (S:az N ps scope) (hd:A.handled=Y) (g:zO P w K mg base A outer s H) (hl:vs.length=ps.length) (r:Vals vs us)
  (x:InCallC s s.heap.objs.size (bindL (envOfC qual scope s.heap.objs.size f cd).kindOf (ps.zip us) λ_=>Y) (cellsFrom (s.heap.objs.size+1) scope.names []) (bindC (envOfC qual scope s.heap.objs.size f cd).kindOf (ps.zip us) λ_=>Y) s1):
  Inv (kX CX P w K mg base N qual scope f cd A outer s H E) [] (start N vs) H s1:=by
 have aP:ps.length<=N.length:=by have:=congrArg zN S.pre;rw[vM]at this;lia
 let(h1,tk,U,hk):=x.done;have Q:∀b,b ∉ (kX CX P w K mg base N qual scope f cd A outer s H E).ex:=λb z=>absurd (show b∈([])from z) ap;refine((g.mod,S.kind,U,U,oQ _,λy z c h1 h2=>?_,λy hy=>?_,λy c _ h=>?_,λ_=>hd,Around.frames_deeper g.frames,.inr (U,U),λb z=>absurd z (Q b),g.bs,g.bsz,λb _ _=>Q b,λb z=>absurd z (Q b),g.jl,g.frf),
rfl,g.bare,Un.kept hk,(_,x.toInCall.ns,λi y v h1 h2 h3=>?_),λy c h=>(_,x.cell y c h),g.hok.fresh (oQ _),λy c h=>?_,λp hp=>absurd (show p∈([])from hp) ap,g.hok.kept hk,?_)
 ·exact name_of_addr x.apart (PySem.mem_of_lookup h1) (PySem.mem_of_lookup h2)
 ·obtain hy|hy:=hy
  ·exact xO hy
  exact absurd U (S.Mm _ (PySem.mem_of_lookup hy))
 ·exact x9 (x.above y c (PySem.mem_of_lookup h))
 ·have hi:i<vs.length:=by
   unfold start at h2;by_cases hi:i<vs.length
   ·exact hi
   rw[CC (hi:)]at h2;rw[RW]at h2;split at h2 <;> cases h2
  have ha:vs[i]?=Z v:=by
   unfold start at h2;rw[A0 (hi:),kf]at h2;cases e:vs[i]? with
   |none=>rw[e]at h2;cases h2
   |some a=>rw[e]at h2;cases h2;rfl
  let(u,hu,rv):=r.get ha;have hp:ps[i]?=Z y:=by rw[<- S.pre,List.getElem?_take_of_lt bd];exact h1
  have aN:ps.Nodup:=by rw[<- S.pre];exact S.nd.sublist (Ry _ _)
  refine(u,rv,?_);obtain k|k:=S.par y (nZ hp)
  ·exact .inl (k,tu aN hp hu k)
  let(c,e):=xO k;refine .inr (.inl k,c,e,?_);have q:=x.cell y c e;rw[tD aN hp hu (by show scope.names.lookup y≠_;rw[k];decide)]at q;exact q
 ·exact g.hok.fresh (x9 (x.above y c (PySem.mem_of_lookup h)))
 unfold start;show _=N.length;rw[mS,e7,List.length_replicate];lia
variable{name:Str}{pm:B}{ct:B}{oc:B}{an:Option J}{od:Option J}
theorem Kx{w:Cl}{K:BT}{k:Nat}{f:J}{params:Arguments}{dV kV doc cdv:B}
  {osl:Array (Option B)} {N ps:Γ} {sp:Sp} (lk:K.lookup f=Z (oc,od,.func (W.fnOf name qual params body scope dV kV doc pm an cdv ct),osl)) (aN:W.codeIn K cdv qual=O) (S:az N ps scope)
  (len:∀vs H Q E,sp vs H Q E->vs.length=ps.length)
  (gc:∀(A:Db)(outer:List Env)(s:ϋ)(H:Hp)(vs:Ω)(Q:VK)(E:XK),cn k (A.deeper (envOfC qual scope s.heap.objs.size f cdv))->sp vs H Q E ->
∃ t,PSs (kX CX P w K mg base N qual scope f cdv A outer s H E) body t/\t {nx:=λ_ H'=>Q .non H',rt:=Q} (start N vs) H):
  aS P w K mg base CX (k+1) f (W.fnOf name qual params body scope dV kV doc pm an cdv ct) ps sp:=by
 refine(len,λA outer s H args us vs Q E hr e0 hb r z=>?_);have hl:=len _ _ _ _ z;have KX:=e0.mod.kin.keeps λb o e=>(e0.bs b o e).1;have lim:=e0.mod.nolimit.keeps λb o e=>(e0.bs b o e).1;have eV:∀y∈ps.zip us,scope.names.lookup y.1=Z .local\/(scope.names.lookup y.1=Z .cell/\((cellsFrom (s.heap.objs.size+1) scope.names []).lookup y.1).isSome=O):=λ(n,v) hy=>by
  obtain q|q:=S.par n (Sj hy).1
  ·exact .inl q
  exact .inr (q,W.cellsFrom_some _ _ _ (.inl q))
 refine codeAny_call_function hr.depth (KX _ _ lk) U S.co S.gen U (W.codeRec_of KX aN) (hb _ _ _ _ (wpAny_newFunctionEnv_cells S.kind eV λenv he s1 x=>?_));subst he;refine(lim.keeps x.toInCall.keep,codeAny_func ?_);let(t,ht,hq):=gc A outer s H vs Q E (hr.deeper _) z;have I:Inv (kX CX P w K mg base N qual scope f cdv A outer s H E) [] (start N vs) H s1:=B9 S hr.hd e0 hl r x;refine JZ (ht [] s1 (start N vs) H _ I hq) (λfl s' hs=>?_) λe s' hs=>hs;have fin:∀{g:St}{H':Hp}{v:V}{u:B},Inv (kX CX P w K mg base N qual scope f cdv A outer s H E) [] g H' s'->RelV v u->Q v H'->CE outer P w H s Q u s':=
  λ{g H' v u} TN rv q=>(v,H',TN.os,TN.bare,TN.base,TN.hok,rv,q)
 cases fl with|ret u =>let(v,g,H',TN,rv,q):=hs;exact fin TN rv q|next =>let(g,H',TN,q):=hs;exact fin (v:=V.non) TN U q|brk =>let(_,_,_,q):=hs;exact False.elim q|cont =>let(_,_,_,q):=hs;exact False.elim q
section
variable{p pos:Pos}{t:TA}{id T:String}{r:Ω->Hp->VK->Prop}
def tCB(r:Ω->Hp->VK->Prop)(t:TA):TE:=λσ H Q=>t σ H λvs H1=>r vs H1 Q
def pU(P:cY X (.builtin id) r)(hg:Gl X x)(hm:X.mg x=Y)(hv:bootBuiltins x=Z (.builtin id))(V:PA X (e::es) t)(hn:autoParam (x ≠ "__name__") zdc._auto_1)(q:autoParam (AS x) zdc._auto_1)
  (he:‹AC X e es›) (g:‹AM X pos es›):PE X (.Call (.Name x p) (e::es) [] pos) (tCB r t):=by
 left;exact KY (gN I hg hm hv (PyProof.Rows.callWith_builtin1 (thn (V pos gd s σ H _ I h) λus s1 (vs,H1,I1,z,K)=>P gd s1 σ H1 vs us Q I1 z K) he g) hn q)
def BK(P:cY X (.type T) r)(hg:Gl X x)(hm:X.mg x=Y)(hv:bootBuiltins x=Z (.type T))(V:PA X (e::es) t)(hn:autoParam (x ≠ "__name__") zdc._auto_1)(q:autoParam (AS x) zdc._auto_1)
  (he:‹AC X e es›) (g:‹AM X pos es›):PE X (.Call (.Name x p) (e::es) [] pos) (tCB r t):=by
 left;exact KY (gN I hg hm hv (PyProof.Rows.callWith_type1 (thn (V pos gd s σ H _ I h) λus s1 (vs,H1,I1,z,K)=>P gd s1 σ H1 vs us Q I1 z K) he g) hn q)
end
end L2
namespace HT
open PySem PyProof.Rows
section
variable{prog:Da}{w:Cl}{A:Db}{E:Φ}{s:ϋ}
def JD{t b:J}{vs ws:Δ}{Q:Φ}(V:IsTup s.heap t vs.toArray)(hb:IsTup s.heap b ws.toArray)(hv:vs ≠ [])
  (h1:ws=[]->Q (.ref t) s) (h2:ws ≠ []->Q (.ref s.heap.objs.size) {s with heap:=s.heap.push {cls:=.type "tuple",data:=.seq (vs++ws).toArray}})
  (hsz:vs.length+ws.length<=p6):wpAny (model prog w) A (binaryOp .Add (.ref t) (.ref b)) Q E s:=by
 let((cls,dd,data,sl),ho,P,n,hd):=id V;let((QN,K,data2,q),g,z,n2,hd2):=id hb;simp only at P hd z hd2;subst P hd z hd2;have e:vs.toArray++ws.toArray=(vs++ws).toArray:=by simp
 by_cases hw:ws=[]
 ·exact concat_meets (_,ho,U) (_,g,U) noFill_tuple_add seq_tuple_add PySem.F.slot_tuple_add PySem.F.entry_tuple_add (PySem.F.args_tuple_add_2 _ _)
   (tuple_addW1 t b vs.toArray ws.toArray n n2 dd K sl q (hv:) (by simp[hw])) (ho,g,h1 hw)
 refine concat_meets (_,ho,U) (_,g,U) noFill_tuple_add seq_tuple_add PySem.F.slot_tuple_add PySem.F.entry_tuple_add (PySem.F.args_tuple_add_2 _ _)
  (tuple_addW2 t b vs.toArray ws.toArray n n2 dd K sl q (hv:) (hw:) (by exact hsz)) (ho,g,?_)
 rw[e];exact h2 hw
def sIx(n d:Nat):Option Int->Nat
 |none=>d|some v=>if v<0 then(v+(n:Int)).toNat else min v.toNat n
def pA(n d:Nat):sIx n d Y=d:=rfl
def kj(n d k:Nat):sIx n d (Z (k:Int))=min k n:=by show(if(k)<0 then((k)+(n:Int)).toNat else min (k:Int).toNat n)=min k n;rw[if_neg bd,SE]
def Pl(a:Int)(n:Nat)(h0:0<=a):min a (n:Int)=((min a.toNat n:Nat):Int):=by
 by_cases h:a<=n
 ·rw[Int.min_eq_left h,QG (Td.mpr h),Rg h0]
 have h':=Int.le_of_lt (Int.not_le.mp h);rw[Int.min_eq_right h',Nat.min_eq_right ((Int.le_toNat h0).mpr h')]
def C5(n:Nat)(i:Int)(h:i<0):max 0 (min (i+(n:Int)) n)=((i+n).toNat:Int):=by rw[Int.min_eq_left (Int.add_le_of_le_sub_right (by rw[Int.sub_self];exact Int.le_of_lt h)),Int.max_comm,Int.ofNat_toNat]
def C4(n:Nat)(i:Int)(h:¬ i<0):max 0 (min i (n:Int))=((min i.toNat n:Nat):Int):=by rw[Pl i n (Int.not_lt.mp h),Int.max_eq_right (RU _)]
def AV(v:Int)(n d:Nat):(if v<0 then max (v+(n:Int)) 0 else min v (n:Int))=((sIx n d (Z v):Nat):Int):=by
 show(if v<0 then max (v+(n)) 0 else min v (n))=(((if v<0 then(v+(n)).toNat else min v.toNat n)));by_cases hv:v<0
 ·rw[if_pos hv,if_pos hv];exact(Int.ofNat_toNat _).symm
 rw[if_neg hv,if_neg hv];exact Pl v n (Int.not_lt.mp hv)
def zI(lo hi:Option Int)(n:Nat):Builtin.Slice.sliceAdjust lo hi 1 (n:Int)=(((sIx n 0 lo:Nat):Int),((sIx n n hi:Nat):Int)):=by
 have h1:=by omega
 unfold Builtin.Slice.sliceAdjust;refine Prod.ext ?_ ?_
 ·cases lo with|none=>rfl|some v=>exact AV v n 0
 cases hi with|none=>rfl|some v=>exact AV v n n
def y7(i j:Nat):Builtin.Slice.slicePlaces (i:Int) (j:Int) 1=j-i:=by unfold Builtin.Slice.slicePlaces;have h1:(1:Int) > 0:=bd;simp only[h1,if_true,Int.ediv_one];split <;> lia
def oY{v:B}{o:Option Int}{Q:Option Int->ϋ->Prop}(p:IsPart v o)(h:Q o s):wpAny (model prog w) A (Builtin.Slice.slicePartIndex v) Q E s:=by cases p with|none=>exact slicePart_none h|int i t=>exact slicePart_int h
def fX{sl:J}{K z:B}{lo hi:Option Int}{n:Nat}{Q:Int×Int×Nat->ϋ->Prop}(hs:s.heap.IsSliceOf sl K z .none)(pl:IsPart K lo)(pu:IsPart z hi)
  (h:Q (((sIx n 0 lo:Nat):Int),1,sIx n n hi-sIx n 0 lo) s):wpAny (model prog w) A (Builtin.Slice.sliceApplied (.ref sl) (pure (n:Int))) Q E s:=by
 let(os,g,P,q):=id hs;refine gV (gV (wpAny_field g q (x:=K) U (gV (wpAny_field g q (x:=z) U (gV (wpAny_field g q U (sr ?_)))))));refine gV (slicePart_none ?_);refine gV (oY pl (gV (oY pu (gV (sr ?_)))));show wpAny _ _ (match Builtin.Slice.sliceAdjust lo hi 1 (n)with|(lo,hi)=>pure (Prod.mk lo (Prod.mk (1:Int) (Builtin.Slice.slicePlaces lo hi 1)))) _ _ s;rw[zI lo hi n];show wpAny _ _ (pure (Prod.mk ((sIx n 0 lo):Int) (Prod.mk (1) (Builtin.Slice.slicePlaces ((sIx n 0 lo)) ((sIx n n hi)) 1)))) _ _ s;rw[y7];exact sr h
def Eo(xs:Array B)(i k:Nat):((Fq k).filterMap λ(m:Nat)=>xs[((i:Int)+(m:Int)*1).toNat]?).toArray=((xs.toList.drop i).take k).toArray:=by
 have e:(λ(m:Nat)=>xs[((i)+(m:Int)*1).toNat]?)=λm=>xs[i+m]?:=by funext m;have:((i)+(m:Int)*1).toNat=i+m:=bd;rw[this]
 rw[e];have:=pick_run xs i k;rw[List.filterMap_map]at this;have g:((λx=>xs[x]?) ∘ λx=>i+x)=λm=>xs[i+m]?:=rfl;rw[g]at this;rw[this]
def kN{t sl:J}{items:Array B}{vl vu:B}{lo hi:Option Int}{Q:Φ}(g:IsTup s.heap t items)(hs:s.heap.IsSliceOf sl vl vu .none)(pl:IsPart vl lo)(pu:IsPart vu hi)
  (hw:¬(sIx items.size 0 lo=0/\sIx items.size items.size hi=items.size))
  (h:Q (.ref s.heap.objs.size) {s with heap:=s.heap.push {cls:=.type "tuple",data:=.seq ((items.toList.drop (sIx items.size 0 lo)).take (sIx items.size items.size hi-sIx items.size 0 lo)).toArray}})
  (hsz:items.size<=p6):wpAny (model prog w) A (getItem (.ref t) (.ref sl)) Q E s:=by
 have OY:sizeOk (.seq ((items.toList.drop (sIx items.size 0 lo)).take (sIx items.size items.size hi-sIx items.size 0 lo)).toArray):=by show((items.toList.drop (sIx items.size 0 lo)).take (sIx items.size items.size hi-sIx items.size 0 lo)).toArray.size<=p6;rw[ti,vM,yb,RQ];exact vN (vN (SM _ _) (Tz _ _)) hsz
 let(os,z,P,aN):=id hs;have V:s.TypeIs (.ref sl) "slice":=(os,z,P);unfold getItem;try with_reducible refine RA ?_
 refine gV (wpAny_sequenceKey g.typeIs am ?_);refine gV (wpAny_callSpecial?_slot g.typeIs PyProof.Rows.slot_tuple_getitem
(Qm PyProof.Rows.slot_tuple_getitem g.typeIs entry_tuple_getitem ?_ (args_tuple_getitem _ _)))
 show wpAny _ _ (Builtin.Tuple.tupleItemsOf (.ref t) >>= _) _ _ s;refine gV (tupleItemsOf_ g (gV (RF V ?_)));refine gV (fX hs pl pu ?_);have K:¬((((sIx items.size 0 lo):Int)==0&&(1:Int)==1&&(sIx items.size items.size hi-sIx items.size 0 lo)==items.size)=O):=by intro q;rw[ri,ri]at q;have q1:=eq_of_beq q.1.1;have q2:=eq_of_beq q.2;exact hw (bd,bd)
 show wpAny _ _ (if(((sIx items.size 0 lo):Int)==0&&(1)==1&&(sIx items.size items.size hi-sIx items.size 0 lo)==items.size)=O then _ else _) _ _ s;rw[if_neg K,Eo];exact gV (m:=Builtin.Tuple.tupleExact _) (RM (sr (_,U,sr h)) OY)
end
end HT
namespace L2
open PySem PySem.Spec PyProof.Rows
abbrev TO:=St->Hp->(Option Int->Hp->Prop)->Prop
def PO(X:Cx)(e:Option Do)(t:TO):Prop:=
 ∀(gd:Ξ)(s:ϋ)(σ:St)(H:Hp)(Q:Option Int->Hp->Prop),Inv X gd σ H s->t σ H Q ->
  Zc X (evalPart e X.env) (λu s'=>∃o H',Inv X gd σ H' s'/\IsPart u o/\Q o H') X.xe s
def zR:TO:=λ_ H Q=>Q Y H
def J3(t:TE):TO:=λσ H Q=>t σ H λx H1=>∃i,x=.int i/\Q (Z i) H1
variable{xs:Ω}{us:Δ}
section
variable{X:Cx}{e:Do}{te:TE}{lo hi:Option Do}{tl th:TO}{pos p2:Pos}
def Ij:PO X Y zR:=by left;exact sr (Y,H,I,.none,h)
def uK(h:PE X e te):PO X (Z e) (J3 te):=by intro gd s σ H Q I hw;refine thn (h gd s σ H _ I hw) λu s1 g=>?_;let(x,H1,P,z,K):=g;let(i,U,q):=K;let(t,U):=z;exact(Z i,H1,P,.int i t,q)
def SlR(X:Cx)(r:V->Option Int->Option Int->Hp->VK->Prop):Prop:=
 ∀(gd:Ξ)(s:ϋ)(σ:St)(H:Hp)(x:V)(v q g:B)(lo hi:Option Int)(sl:J)(Q:VK),Inv X gd σ H s->RelV x v->s.heap.IsSliceOf sl q g .none->IsPart q lo->IsPart g hi->r x lo hi H Q ->
  ∃T id,typeLookup (.type T) "__getitem__"=pure (Z (.builtin id))/\s.TypeIs v T/\Zc X (getItem v (.ref sl)) (EP X gd σ Q) X.xe s
def SlR.or{r r':V->Option Int->Option Int->Hp->VK->Prop}(h:SlR X r)(h':SlR X r'):SlR X (λx lo hi H Q=>r x lo hi H Q\/r' x lo hi H Q):=by
 intro gd s σ H x v z g lo hi sl Q I K hs pl pu q;obtain q|q:=q
 ·exact h gd s σ H x v z g lo hi sl Q I K hs pl pu q
 exact h' gd s σ H x v z g lo hi sl Q I K hs pl pu q
def tSl(r:V->Option Int->Option Int->Hp->VK->Prop)(te:TE)(tl th:TO):TE:=λσ H Q=>te σ H λx H1=>tl σ H1 λl q=>th σ q λu g=>r x l u g Q
def wO{r:V->Option Int->Option Int->Hp->VK->Prop}(hr:SlR X r)(he:PE X e te)(hl:PO X lo tl)(hu:PO X hi th):PE X (.Subscript e (.Slice lo hi Y p2) pos) (tSl r te tl th):=by left;refine Subscript_ (thn (he gd s σ H _ I h) λv s1 (x,H1,I1,r1,q1)=>(wpAny_Slice (thn (hl gd s1 σ H1 _ I1 q1) λz s2 (l,H2,I2,pl,q2)=>thn (hu gd s2 σ H2 _ I2 q2) λg s3 K=>?_)));let(u,P,I3,pu,q3):=K;refine sr ?_;have I4:Inv X gd σ P {s3 with heap:=s3.heap.push {cls:=.type "slice",data:=.fields #[z,g,.none]}}:=I3.kept λb ob q=>jo _ q;let(T,id,hT,ht,hg):=hr gd {s3 with heap:=s3.heap.push {cls:=.type "slice",data:=.fields #[z,g,.none]}} σ P x v z g l u s3.heap.objs.size Q I4 r1 (Heap.IsSliceOf.new ..) pl pu q3;exact tail_any ht hT hg (by with_unfolding_all rfl)
def k6(xs:Ω)(lo hi:Option Int):Ω:=(xs.drop (HT.sIx xs.length 0 lo)).take (HT.sIx xs.length xs.length hi-HT.sIx xs.length 0 lo)
def nk(xs:Ω)(lo hi:Option Int):(k6 xs lo hi).length<=xs.length:=by unfold k6;rw[vM,yb];exact vN (SM _ _) (Tz _ _)
inductive PV(K:BT)(x:V)(lo:Option Int)(hi:Option Int)(H:Hp)(Q:VK):Prop
 |mk(a xs:_)(h1:x=.ref a)(h2:SqT K H a xs)(h3:¬(HT.sIx xs.length 0 lo=0/\HT.sIx xs.length xs.length hi=xs.length))(h4:∀p,H p=Y->Q (.ref p) (upd H p (.tup (k6 xs lo hi))))
def La:SlR X (PV X.K):=by
 intro gd s σ H x v vl V lo hi sl Q I P hs pl pu h;let(a,xs,U,hx,hw,q):=h;cases P;let(its,r,z,g):=I.tuple hx;have hlen:its.toArray.size=xs.length:=by exact r.length.symm
 refine("tuple",_,PyProof.Rows.slot_tuple_getitem.lookup,z.typeIs,(HT.kN z hs pl pu (by rw[hlen];exact hw) ?_ (by rw[hlen];exact g)));rw[hlen];refine(.ref s.heap.objs.size,_,I.laid (λb ob q=>jo _ q) (oQ _) ?_,U,q _ (I.hok.fresh (oQ _)));exact(vN (nk xs lo hi) g,_,(r.drop (HT.sIx xs.length 0 lo)).take (HT.sIx xs.length xs.length hi-HT.sIx xs.length 0 lo),jZ.new _ _)
inductive N5(K:BT)(x:V)(y:V)(H:Hp)(Q:VK):Prop
 |mk(a b xs ys:_)(h1:x=.ref a)(h2:y=.ref b)(h3:SqT K H a xs)(h4:SqT K H b ys)(h5:xs ≠ [])(h6:xs.length+ys.length<=p6)(h7:(ys=[]->Q (.ref a) H))(h8:(ys ≠ []->∀p,H p=Y->Q (.ref p) (upd H p (.tup (xs++ys)))))
def Vals.gK(r:Vals xs us):us=[] ↔ xs=[]:=by cases r with|nil=>simp|cons _ _=>simp
def IG:OpR X (binaryOp .Add) (N5 X.K):=by intro gd s σ H x y v u Q I rx ry h;let(a,b,xs,ys,U,U,ha,hb,hx,V,q1,q2):=h;cases rx;cases ry;let(its,P,p1,_):=I.tuple ha;let(bO,g,p2,_):=I.tuple hb;exact HT.JD p1 p2 (λz=>hx (P.gK.mp z)) (λz=>(.ref a,H,I,U,q1 (g.gK.mp z))) (λz=>(.ref s.heap.objs.size,_,I.laid (t':=s.toks) (o:=.tup (xs++ys)) (λb ob q=>jo _ q) (oQ _) (by rw[mS];exact V,_,P.append g,jZ.new _ _),U,q2 (λw=>z (g.gK.mpr w)) _ (I.hok.fresh (oQ _)))) (by rw[<- P.length,<- g.length];exact V)
end
def ixN(n:Nat)(i:Int):Option Nat:=if 0<=i then(if i<n then Z i.toNat else Y)else if -(n:Int)<=i then Z (i+n).toNat else Y
def atI{α:Type}(xs:List α)(i:Int):Option α:=(ixN xs.length i).bind λj=>xs[j]?
variable{n:Nat}{j:Nat}
def Av{i:Int}(h:ixN n i=Z j):seqIndex? i n=Z j/\j<n /\ -(n:Int)<=i/\i<n:=by
 unfold ixN at h;by_cases h0:0<=i
 ·rw[if_pos h0]at h;by_cases h1:i<n
  ·rw[if_pos h1]at h;have e:=Option.some.inj h;exact(by rw[seqIndex_of h0 h1,e],bd,bd,h1)
  rw[if_neg h1]at h;cases h
 rw[if_neg h0]at h;by_cases h1:-(n)<=i
 ·rw[if_pos h1]at h;have e:=Option.some.inj h;exact(by rw[seqIndex_neg bd h1,e],bd,h1,bd)
 rw[if_neg h1]at h;cases h
def vG{α:Type}{xs:List α}{i:Int}{v:α}(h:atI xs i=Z v):∃j,seqIndex? i xs.length=Z j/\xs[j]?=Z v/\j<xs.length /\ -(xs.length:Int)<=i/\i<xs.length:=by
 unfold atI at h;cases e:ixN xs.length i with
 |none=>rw[e]at h;cases h
 |some j =>rw[e]at h;let(h1,h2,h3,h4):=Av e;exact(j,h1,h,h2,h3,h4)
def b7{α:Type}{xs:List α}{v:α}(h:xs[j]?=Z v):atI xs (j:Int)=Z v:=by
 have g:=(mT.mp h).1;have e:ixN xs.length (j)=Z j:=by unfold ixN;rw[if_pos bd,if_pos bd];simp
 unfold atI;rw[e];exact h
def lF(b:Do):Prop:=∀o i,subscripted b ϊ o i=operate [o,i] (getItem o i)
def IxR(X:Cx)(r:R2):Prop:=
 ∀(value slice:Do)(gd:Ξ)(s:ϋ)(σ:St)(H:Hp)(x y:V)(v u:B)(Q:VK),Inv X gd σ H s->RelV x v->RelV y u->r x y H Q ->
  subscripted slice ϊ v u=operate [v,u] (getItem v u)->Zc X (subscriptTail value slice v u) (EP X gd σ Q) X.xe s
def MtR(X:Cx)(id:String)(r:V->Ω->Hp->VK->Prop):Prop:=
 ∀(gd:Ξ)(s:ϋ)(σ:St)(H:Hp)(x:V)(xs:Ω)(v:B)(us:Δ)(Q:VK),Inv X gd σ H s->RelV x v->Vals xs us->r x xs H Q ->
  Zc X (call (.builtin id) (v::us)) (EP X gd σ Q) X.xe s
variable{r':R2}{gd:Ξ}{H:Hp}{ys:Ω}{its:Δ}{A:Db}{y:V}{u:B}{r:Ω->Hp->VK->Prop}
section
variable{X:Cx}{a b:Do}{ta tb:TE}{pos:Pos}
def IxR.or{r:R2}(h:IxR X r)(h':IxR X r'):IxR X (λx y H Q=>r x y H Q\/r' x y H Q):=by
 intro value slice gd s σ H x y v u Q I z g q hs;obtain q|q:=q
 ·exact h value slice gd s σ H x y v u Q I z g q hs
 exact h' value slice gd s σ H x y v u Q I z g q hs
def wR{r:R2}(hr:IxR X r)(P:PE X a ta)(K:PE X b tb)(hs:lF b):PE X (.Subscript a b pos) (tOp r ta tb):=by left;exact Subscript_ (M9 P K I h λv u s2 x y H2 V z g q=>hr a b gd s2 σ H2 x y v u Q V z g q (hs _ _))
inductive N2(K:BT)(x:V)(y:V)(H:Hp)(Q:VK):Prop
 |mk(p xs i v:_)(h1:x=.ref p)(h2:y=.int i)(h3:SqL K H p xs)(h4:atI xs i=Z v)(h5:Q v H)
inductive N0(K:BT)(x:V)(y:V)(H:Hp)(Q:VK):Prop
 |mk(p xs i v:_)(h1:x=.ref p)(h2:y=.int i)(h3:SqT K H p xs)(h4:atI xs i=Z v)(h5:Q v H)
inductive N1(x:V)(y:V)(H:Hp)(Q:VK):Prop
 |mk(z i c:_)(h1:x=.str z)(h2:y=.int i)(h3:z.length<=p6)(h4:atI z.cps.toList i=Z c)(h5:Q (.str ⟨#[c]⟩) H)
def Jj:IxR X (N2 X.K):=by
 intro value slice gd s σ H x y v u Q I rx ry h hs;let(p,xs,i,z,U,U,hq,he,q):=h;cases rx;let(t,U):=ry;let(its,r,pl,hz):=I.list hq;let(j,h1,h2,h3,h4,h5):=vG he;let(w,V,g):=r.get h2;have hl:=r.length;have hn:=jP;have fin:EP X gd σ Q w s:=(z,H,I,g,q);by_cases h0:0<=i
 ·have P:=by rw[seqIndex_of h0 h5]at h1;exact Option.some.inj h1
  exact item_listR pl.isList h0 bd (by rw[P];simpa using V) fin hs
 have P:(i+(its.toArray.size)).toNat=j:=by rw[seqIndex_neg bd h4]at h1;rw[ti,<- hl];exact Option.some.inj h1
 exact subscriptTail_builtinR pl.isList.typeIs slot_list_getitem.lookup
  (wpAny_getItem_list_neg pl.isList bd (by rw[ti] <;> lia) bd (by rw[P];simpa using V) (U,fin)) hs
def MN:IxR X (N0 X.K):=by
 intro value slice gd s σ H x y v u Q I V P h hs;let(p,xs,i,z,U,U,hq,he,q):=h;cases V;let(t,U):=P;let(its,r,pl,hz):=I.tuple hq;let(j,h1,h2,h3,h4,h5):=vG he;let(w,ew,g):=r.get h2;have hl:=r.length;have hn:=jP;have fin:EP X gd σ Q w s:=(z,H,I,g,q);exact subscriptTail_builtinR pl.typeIs slot_tuple_getitem.lookup
  (getItem_tuple pl bd bd (by rw[ti,<- hl];exact h1) (ew:) (U,fin)) hs
def MO:IxR X N1:=by
 intro value slice gd s σ H x y v u Q I K g h hs;let(z,i,c,U,U,hz,he,q):=h;let(t,U):=K;let(t',U):=g;let(j,h1,h2,h3,h4,h5):=vG he;have hl:z.cps.toList.length=z.length:=by simp[Str.length]
 rw[hl]at h1 h4 h5;have hn:=jP;exact tail_any (typeIs_str s z t) slot_str_getitem.lookup (getItem_str (by have V:decide (i < -(2 ^ 63))=false:=decide_eq_false bd;have P:decide (i ≥ 2 ^ 63)=false:=decide_eq_false bd;rw[V,P,Bool.or_false]) (by rw[h1];simpa using h2) (.str ⟨#[c]⟩,H,I.tok _,(_,U),q)) hs
def rIx(K:BT):R2:=λx y H Q=>N2 K x y H Q\/N0 K x y H Q\/N1 x y H Q
def Fe:IxR X (rIx X.K):=Jj.or (MN.or MO)
def zo(its:Δ)(n j:Nat)(u:B):RV (·.setIfInBounds j u) (its.toArray^^^n)=((its.set j u).toArray^^^n):=by simp[RV]
theorem Inv.lst{σ:St}{s:ϋ}{p:J}(I:Inv X gd σ H s)(h:H p=Z (.lst xs)):
  ∃(its:Δ)(n:Nat),Vals xs its/\s.heap.get? p=Z (its.toArray^^^n)/\xs.length<=p6:=by
 let(z,its,n,r,e):=I.hok p _ h;exact(its,n,r,e,z)
def Inv.Ms{σ:St}{s:ϋ}{p:J}{g:Δ}{n':Nat}{f:Obj->Obj}(I:Inv X gd σ H s)(h:H p=Z (.lst xs))
  (ho:s.heap.get? p=Z (its.toArray^^^n)) (hf:f (its.toArray^^^n)=(g.toArray^^^n')) (r:Vals ys g) (z:ys.length<=p6) (t:Nat):
  Inv X gd σ (upd H p (.lst ys)) {s with heap:=s.heap.update p f,toks:=t}:=by
 have e:(s.heap.update p f).get? p=Z (g.toArray^^^n'):=by rw[JX f ho (by rw[hf] <;> rfl),hf]
 exact I.write (x:=p) (e:=p) (by rw[h];trivial) (.inl U) (λb u K q=>(Fs _ _ (Ne.symm K)).trans q) (_,e) (z,g,n',r,e)
inductive Dy(o:V)(i:V)(v:V)(H:Hp)(Q:(Hp->Prop)):Prop
 |mk(p xs k j:_)(h1:o=.ref p)(h2:i=.int k)(h3:H p=Z (.lst xs))(h4:ixN xs.length k=Z j)(h5:Q (upd H p (.lst (xs.set j v))))
theorem set_list:Nv X Dy:=by
 intro gd s σ H o i v ov iv u Q I P V K h;let(p,xs,k,j,U,U,hp,hj,q):=h;cases P;let(t,U):=V;let(its,n,r,ho,hz):=I.lst hp;let(h1,h2,h3,h4):=Av hj;have hl:=r.length;have hn:=jP;have z:=
  I.Ms hp ho (zo its n j u) (r.set K j) (by rw[O4];exact hz) s.toks
 by_cases h0:0<=k
 ·have g:=by rw[seqIndex_of h0 h4]at h1;exact Option.some.inj h1
  exact W.ki_setAt ho h0 bd (by rw[ti,<- hl];exact h4) (by rw[g];exact(_,z,q))
 have g:(k+(its.toArray.size)).toNat=j:=by rw[seqIndex_neg bd h3]at h1;rw[ti,<- hl];exact Option.some.inj h1
 exact W.ki_setBack ho bd (by rw[ti,<- hl];exact h3) bd (by rw[g];exact(_,z,q))
def ub(lo hi:Option Int)(n:Nat):(sliceBounds lo hi Y n).1=((HT.sIx n 0 lo:Nat):Int)/\(sliceBounds lo hi Y n).2.1=((HT.sIx n n hi:Nat):Int)/\(sliceBounds lo hi Y n).2.2=1:=by
 refine(?_,?_,U)
 ·cases lo with
  |none=>simp[sliceBounds,HT.sIx]|some i =>
   simp only[sliceBounds,HT.sIx,To,show(1:Int) > 0 by decide,if_true];by_cases h:i<0
   ·simp only[h,if_true] <;> first|exact HT.C5 _ _ h|omega
   simp only[h,if_false] <;> first|exact HT.C4 _ _ h|omega
 cases hi with
 |none=>simp[sliceBounds,HT.sIx]|some i =>
  simp only[sliceBounds,HT.sIx,To,show(1:Int) > 0 by decide,if_true];by_cases h:i<0
  ·simp only[h,if_true] <;> first|exact HT.C5 _ _ h|omega
  simp only[h,if_false] <;> first|exact HT.C4 _ _ h|omega
def rK(its:Δ)(lo hi:Option Int):slicePick its.toArray lo hi Y=((its.drop (HT.sIx its.length 0 lo)).take (HT.sIx its.length its.length hi-HT.sIx its.length 0 lo)).toArray:=by let(h1,h2,h3):=ub lo hi its.toArray.size;unfold slicePick;rw[h1,h2,h3];simp only[sliceRange_one,pick_run] <;> rfl
inductive NX(K:BT)(x:V)(lo:Option Int)(hi:Option Int)(H:Hp)(Q:VK):Prop
 |mk(a xs:_)(h1:x=.ref a)(h2:SqL K H a xs)(h3:∀p,H p=Y->Q (.ref p) (upd H p (.lst (k6 xs lo hi))))
def zT:SlR X (NX X.K):=by intro gd s σ H x v vl V lo hi sl Q I z hs pl pu h;let(a,xs,U,hx,q):=h;cases z;let(its,r,g,P):=I.list hx;have hlen:=r.length;refine("list",_,slot_list_getitem.lookup,g.isList.typeIs,(wpAny_getItem_list_slice g.isList hs pl pu .none ap ?_ (by rw[ti] <;> omega)));rw[rK,<- hlen];refine(.ref s.heap.objs.size,_,I.laid (λb ob q=>jo _ q) (oQ _) ?_,U,q _ (I.hok.fresh (oQ _)));exact(vN (nk xs lo hi) P,_,0,(r.drop (HT.sIx xs.length 0 lo)).take (HT.sIx xs.length xs.length hi-HT.sIx xs.length 0 lo),qg _ U)
def dU:V->Bool
 |.non=>O|.bl _=>O|.int _=>O|.str _=>O|_=>ϊ
def eqV:V->V->Bool
 |.non,.non=>O|.bl a,.bl b=>a==b|.bl a,.int b=>(if a then 1 else 0)==b|.int a,.bl b=>a ==(if b then 1 else 0)|.int a,.int b=>a==b|.str a,.str b=>a==b|_,_=>ϊ
def mJ{s:ϋ}{x:V}{v:B}(q:RelV y u)(g:RelV x v)(z:dU y=O)(fx:dU x=O):SeqAt.EqAt A s u v (eqV y x):=by
 cases y with
 |non =>
  cases q;cases x with
  |non=>cases g;exact SeqAt.EqAt.same _
  |bl b=>cases g;exact SeqAt.EqAt.none_bool b
  |int b=>let(t,U):=g;exact SeqAt.EqAt.none_int b t|str b=>let(t,U):=g;exact SeqAt.EqAt.none_str b t|_=>exact absurd (fx) su
 |bl a =>
  cases q;cases x with
  |non=>cases g;exact SeqAt.EqAt.bool_none a
  |bl b=>cases g;exact SeqAt.EqAt.bool_bool a b
  |int b=>let(t,U):=g;exact SeqAt.EqAt.bool_int a b t|str b=>let(t,U):=g;exact SeqAt.EqAt.bool_str a b t|_=>exact absurd (fx) su
 |int a =>
  let(t',U):=q;cases x with
  |non=>cases g;exact SeqAt.EqAt.int_none a t'
  |bl b=>cases g;exact SeqAt.EqAt.int_bool a t' b
  |int b=>let(t,U):=g;exact SeqAt.EqAt.int_int a t' b t|str b=>let(t,U):=g;exact SeqAt.EqAt.int_str a t' b t|_=>exact absurd (fx) su
 |str a =>
  let(t',U):=q;cases x with
  |non=>cases g;exact SeqAt.EqAt.str_none a t'
  |bl b=>cases g;exact SeqAt.EqAt.str_bool a t' b
  |int b=>let(t,U):=g;exact SeqAt.EqAt.str_int a t' b t|str b=>let(t,U):=g;exact SeqAt.EqAt.str_str a t' b t|_=>exact absurd (fx) su
 |_=>exact absurd (z) su
def eqU(x:V)(u:B):Bool:=match u with|.none=>eqV .non x|.bool b=>eqV (.bl b) x|.int i _=>eqV (.int i) x|.str z _=>eqV (.str z) x|_=>ϊ
def FG{x:V}(r:RelV y u)(f:dU y=O):eqU x u=eqV y x:=by
 cases y with
 |non=>cases r;rfl
 |bl b=>cases r;rfl
 |int i=>let(t,U):=r;rfl|str z=>let(t,U):=r;rfl|_=>exact absurd (f) su
theorem lC{x:V}:∀{xs:Ω}{us:Δ},Vals xs us->xs.all dU=O->us.any (eqU x)=xs.any λy=>eqV y x
 |_,_,.nil,_=>rfl|y::xs,u::us,.cons r t,f=>by
  rw[List.all_cons,ri]at f;rw[RH,RH,FG r f.1,lC t f.2]
theorem iJ{A:Db}{s:ϋ}{x:V}{v:B}(q:RelV x v)(fx:dU x=O):∀{xs:Ω}{us:Δ},Vals xs us->xs.all dU=O->∀u∈us,SeqAt.EqAt A s u v (eqU x u)
 |_,_,.nil,_=>λu g=>by cases g
 |y::xs,u::us,.cons r t,f=>λu' g=>by
  rw[List.all_cons,ri]at f;obtain rfl|g:=ot.mp g
  ·rw[FG r f.1];exact mJ r q f.1 fx
  exact iJ q fx t f.2 u' g
def inV(x:V)(xs:Ω):Bool:=xs.any λy=>eqV y x
inductive rIn(K:BT)(neg:Bool)(x:V)(y:V)(H:Hp)(Q:VK):Prop
 |mk(p xs:_)(h1:y=.ref p)(h2:(SqL K H p xs\/SqT K H p xs))(h3:dU x=O)(h4:xs.all dU=O)(h5:Q (.bl (if neg then !inV x xs else inV x xs)) H)
def BN:OpR X (compareOp .In) (rIn X.K ϊ):=by
 intro gd s σ H x y v u Q I g z h;let(p,xs,U,hq,fx,fs,q):=h;cases z;obtain hq|hq:=hq
 ·let(its,r,pl,P):=I.list hq;refine SeqAt.in_listAt (eqU x) pl.isList (λw hw=>iJ g fx r fs w (hw:)) (.bl _,H,I,U,?_);rw[show its.toArray.any (eqU x)=its.any (eqU x)by simp,lC r fs];exact q
 let(its,r,pl,P):=I.tuple hq;refine SeqAt.in_tupleAt (eqU x) pl (λw hw=>iJ g fx r fs w (hw:)) (.bl _,H,I,U,?_);rw[show its.toArray.any (eqU x)=its.any (eqU x)by simp,lC r fs];exact q
def uQ:OpR X (compareOp .NotIn) (rIn X.K O):=by
 intro gd s σ H x y v u Q I g z h;let(p,xs,U,hq,fx,fs,q):=h;cases z;obtain hq|hq:=hq
 ·let(its,r,pl,P):=I.list hq;refine SeqAt.notIn_listAt (eqU x) pl.isList (λw hw=>iJ g fx r fs w (hw:)) (.bl _,H,I,U,?_);rw[show its.toArray.any (eqU x)=its.any (eqU x)by simp,lC r fs];exact q
 let(its,r,pl,P):=I.tuple hq;refine SeqAt.notIn_tupleAt (eqU x) pl (λw hw=>iJ g fx r fs w (hw:)) (.bl _,H,I,U,?_);rw[show its.toArray.any (eqU x)=its.any (eqU x)by simp,lC r fs];exact q
def k9:cY X (.builtin "len") (λxs H Q=>∃p ys,xs=[.ref p]/\(SqL X.K H p ys\/SqT X.K H p ys)/\Q (.int ys.length) H):=by
 intro gd s σ H xs us Q I r h;let(p,ys,U,hq,q):=h;let(u,U,g):=vals1 r;cases g;have hn:=jP;obtain hq|hq:=hq
 ·let(its,r',pl,z):=I.list hq;have hlen:=r'.length;exact Calls.call_len_list pl.isList (by rw[ti,<- hlen];exact xD (by assumption)) (.int ys.length,H,I.tok _,(s.toks+1,by rw[ti,hlen]),q)
 let(its,r',pl,z):=I.tuple hq;have hlen:=r'.length;exact len_tuple pl (by rw[ti,<- hlen];exact xD (by assumption)) (.int ys.length,H,I.tok _,(s.toks+1,by rw[ti,hlen]),q)
def vE:cY X (.builtin "len") (λxs H Q=>∃z,xs=[.str z]/\z.length<=p6/\Q (.int z.length) H):=by intro gd s σ H xs us Q I r h;let(z,U,g,q):=h;let(u,U,t,U):=vals1 r;have hn:=jP;exact len_str bd (.int z.length,H,I.tok _,(_,U),q)
def cY.or{f:B}{r':Ω->Hp->VK->Prop}(h:cY X f r)(h':cY X f r'):cY X f (λxs H Q=>r xs H Q\/r' xs H Q):=by
 intro gd s σ H xs us Q I rs q;obtain q|q:=q
 ·exact h gd s σ H xs us Q I rs q
 exact h' gd s σ H xs us Q I rs q
def vD:cY X (.type "list") (λxs H Q=>∃ p ys,xs=[.ref p]/\(SqL X.K H p ys\/SqT X.K H p ys)/\∀l,H l=Y->Q (.ref l) (upd H l (.lst ys))):=by
 intro gd s σ H xs us Q I r h;let(p,ys,U,hq,q):=h;let(u,U,V):=vals1 r;cases V;have fin:∀its,Vals ys its->ys.length<=p6->∀h' z,(∀b o',s.heap.get? b=Z o'->h'.get? b=Z o') ->
   h'.get? s.heap.objs.size=Z {cls:=.type "list",dict:=Y,data:=.seq its.toArray z,slots:=#[]}->EP X gd σ Q (.ref s.heap.objs.size) {s with heap:=h'}:=λits r' g h' z kp e =>
  (.ref s.heap.objs.size,_,I.laid kp (oQ _) (show bZ X.prog X.w _ h' _ (.lst ys)from(g,its,z,r',e)),U,q _ (I.hok.fresh (oQ _)))
 obtain hq|hq:=hq
 ·let(its,r',pl,g):=I.list hq;have hlen:=r'.length;let(o,ho,P,n,hd):=pl.isList;exact call_list_seq p (.inl U) ho P hd (λh' z kp e=>fin its r' g h' z kp e) (by rw[ti,<- hlen];exact g)
 let(its,r',pl,g):=I.tuple hq;have hlen:=r'.length;let(o,ho,P,n,hd):=pl;exact call_list_seq p (.inr U) ho P hd (λh' z kp e=>fin its r' g h' z kp e) (by rw[ti,<- hlen];exact g)
def sg:cY X (.type "tuple") (λxs H Q=>∃p ys,xs=[.ref p]/\((SqL X.K H p ys/\∀l,H l=Y->Q (.ref l) (upd H l (.tup ys)))\/(SqT X.K H p ys/\Q (.ref p) H))):=by
 intro gd s σ H xs us Q I r h;let(p,ys,U,h):=h;let(u,U,P):=vals1 r;cases P;obtain⟨hq,q⟩|⟨hq,q⟩:=h
 ·let(its,r',pl,g):=I.list hq;have hlen:=r'.length;refine call_tuple_list pl.isList (λh' kp=>?_) (by rw[ti,<- hlen];exact g);have z:=I.kept (t':=s.toks) kp;have V:=
   z.laid (t':=s.toks) (λb o e=>jo _ e) (oQ _) (show bZ X.prog X.w _ _ _ (.tup ys)from(g,its,r',jZ.new _ _))
  exact(.ref h'.objs.size,_,V,U,q _ (z.hok.fresh (oQ _)))
 let(its,r',pl,g):=I.tuple hq;exact call_tuple_same pl (.ref p,H,I,U,q)
def tyV(K:BT)(T:String)(x:V)(H:Hp):Prop:=match x with
 |.str _=>T="str"|.int _=>T="int"|.ref p=>(T="list" /\ ∃xs,SqL K H p xs)\/(T="tuple" /\ ∃o,K.lookup p=Z o/\o.cls=.type "tuple" /\ o.dict=Y) \/
   (T="dict" /\ ((∃kvs,H p=Z (.dK kvs))\/∃kvs,H p=Z (.dT kvs)))\/(T="set" /\ ∃S n,H p=Z (.set S n))
 |_=>False
def CO{σ:St}{s:ϋ}{T:String}{x:V}{v:B}(I:Inv X gd σ H s)(r:RelV x v)(ty:tyV X.K T x H):
  s.TypeIs v T/\∀a,v=.ref a->∃ob,s.heap.get? a=Z ob/\ob.dict=none:=by
 cases x with
 |str z =>
  let(t,U):=r;cases(ty);exact(typeIs_str s z t,λ_ e=>nomatch e)
 |int i =>
  let(t,U):=r;cases(ty);exact(typeIs_int s i t,λ_ e=>nomatch e)
 |ref p =>
  cases r;obtain⟨rfl,xs,hq⟩|⟨rfl,o,g,P,hd⟩|⟨rfl,g⟩|⟨rfl,S,n,g⟩:=ty
  ·let(its,_,pl,_):=I.list hq;refine(pl.isList.typeIs,λa e=>?_);cases e;let(o,n,e,c,hd,_):=pl;exact(o,e,hd)
  ·refine((o,I.kIn p o g,P),λa e=>?_);cases e;exact(o,I.kIn _ o g,hd)
  ·have z:∃o,s.heap.get? p=Z o/\o.ExactDict:=by
    obtain⟨kvs,g⟩|⟨kvs,g⟩:=g
    ·let(_,_,_,_,o,_,_,e,ex,_):=I.hok p _ g;exact(o,e,ex)
    let(_,_,_,_,o,_,_,e,ex,_):=I.hok p _ g;exact(o,e,ex)
   let(o,e,ex):=z;refine((o,e,ex.1),λa q=>?_);cases q;exact(o,e,ex.2.1)
  let(o,_,_,_,e,ex,_):=I.hok p _ g;refine((o,e,ex.1),λa q=>?_);cases q;exact(o,e,ex.2.1)
 |_=>exact False.elim ty
def C1(K:BT)(T:String)(r:V->Ω->Hp->VK->Prop)(to:TE):TE:=λσ H Q=>to σ H λx H1=>tyV K T x H1/\r x [] H1 Q
def tBM(K:BT)(T:String)(r:V->Ω->Hp->VK->Prop)(to:TE)(t:TA):TE:=λσ H Q=>to σ H λx H1=>tyV K T x H1/\t σ H1 λxs g=>r x xs g Q
variable{o e:Do}{es:List Do}{to:TE}{t:TA}{name:Str}{apos aN:Pos}{T id:String}{r:V->Ω->Hp->VK->Prop}
def y8(pa:PlainAttrs T)(slot:Slot T name id)(g:typeOf (.builtin id)=pure (.type "method_descriptor"))(hm:MtR X id r)(ho:PE X o to)
  (dM:‹attributeBase o name X.env (eval o X.env)=eval o X.env›) (dI:‹(apos.endLine==aN.line)=true›):PE X (.Call (.Attribute o name apos) [] [] aN) (C1 X.K T r to):=by
 left;refine wpAny_Call_method0_late dM dI (thn (ho gd s σ H _ I h) λv s1 q=>?_);let(x,H1,P,z,ty,V):=q;let(h1,h2):=CO P z ty;exact(T,id,pa,slot,g,h1,h2,Calls.callWith_builtin U (PySem.evalArgs_none (hm gd s1 σ H1 x [] v [] Q P z .nil V)))
def EC(pa:PlainAttrs T)(slot:Slot T name id)(g:typeOf (.builtin id)=pure (.type "method_descriptor"))(hm:MtR X id r)(ho:PE X o to)(ha:PA X (e::es) t)
  (dM:‹attributeBase o name X.env (eval o X.env)=eval o X.env›)
  (qI:‹((backTo aN (nY (e::es) X.env)).all (λx=>!x.1)&&(backToKw aN (keywordEach [] X.env)).all (λx=>x.1.isSome)
&& decide ((e::es).length+([]:List Keyword).length+(if([]:List Keyword).isEmpty then 0 else 1)<30))=true›)
  (dI:‹(apos.endLine==aN.line)=true›) (hs:‹AC X e es›) (eT:‹AM X aN es›):
  PE X (.Call (.Attribute o name apos) (e::es) [] aN) (tBM X.K T r to t):=by
 left;refine wpAny_Call_method_late dM qI dI U (thn (ho gd s σ H _ I h) λv s1 q=>?_);let(x,H1,V,z,ty,q1):=q;let(h1,h2):=CO V z ty;refine(T,id,pa,slot,g,h1,h2,?_);have P:=ha aN gd s1 σ H1 _ V q1;rw[hs]at P ⊢;exact Calls.callWith_builtin (by show(ϊ ||(backTo aN (nY es X.env)).any (·.1))=ϊ;rw[eT] <;> rfl) (Calls.evalArgs_plain (thn P λus s2 (vs,H2,I2,r2,q2)=>hm gd s2 σ H2 x vs v us Q I2 z r2 q2))
end
def MtM(X:Cx)(id:String)(r:V->Ω->Hp->VK->Prop):Prop:=
 ∀(gd:Ξ)(s:ϋ)(σ:St)(H:Hp)(x:V)(xs:Ω)(v:B)(us:Δ)(Q:VK),Inv X gd σ H s->RelV x v->Vals xs us->r x xs H Q ->
  Zc X (call (.builtin id) (v::us)) (EP X gd σ Q) X.xe s
def Vals.one:∀{x:V}{us:Δ},Vals [x] us->∃u,us=[u]/\RelV x u:=by intro x us h;cases h with|cons r t=>cases t;exact(_,U,r)
theorem Vals.zero:∀{us:Δ},Vals [] us->us=[]
 |_,.nil=>rfl
theorem Vals.dropLast{xs:Ω}{us:Δ}(h:Vals xs us):Vals xs.dropLast us.dropLast:=by induction h with|nil=>exact .nil|cons r t g =>cases t with|nil=>exact .nil|cons q t'=>exact .cons r g
theorem Vals.reverse{xs:Ω}{us:Δ}(h:Vals xs us):Vals xs.reverse us.reverse:=by induction h with|nil=>exact .nil|cons r t g=>rw[Rz,Rz];exact Vals.append g (.cons r .nil)
def zC{α:Type}(l:List α):l.eraseIdx (l.length-1)=l.dropLast:=by
 induction l with
 |nil=>rfl|cons a r g =>
  cases r with
  |nil=>rfl|cons b r =>
   have e:(a::b::r).length-1=((b::r).length-1)+1:=by rfl
   rw[e,List.eraseIdx_cons_succ,g];all_goals rfl
variable{t':Nat}
section
variable{X:Cx}{σ:St}{s:ϋ}{l:J}
def Inv.Mt{g:Δ}{f:Array B->Array B}{t':Nat}(I:Inv X gd σ H s)(Q:H l=Z (.lst xs))
  (e:s.heap.get? l=Z (its.toArray^^^n)) (hf:f its.toArray=g.toArray) (hv:Vals ys g) (z:ys.length<=p6):
  Inv X gd σ (upd H l (.lst ys)) {s with heap:=s.heap.update l (RV f),toks:=t'}:=by
 have q:=PySem.IsL.update e f;rw[hf]at q;exact I.write (x:=l) (e:=l) (by rw[Q];exact trivial) (.inl U) (λb' u P K=>(Fs s.heap (RV f) (Ne.symm P)).trans K) (_,q) (z,g,_,hv,q)
def Inv.Qb(I:Inv X gd σ H s)(hv:Vals ys its)(g:ys.length<=p6):
  Inv X gd σ (upd H s.heap.objs.size (.lst ys)) {s with heap:=s.heap.push (~~~its.toArray),toks:=t'}:=
 I.laid (λ_ _ q=>jo _ q) (oQ _) (g,its,0,hv,qg _ U)
theorem Inv.fresh(I:Inv X gd σ H s):H s.heap.objs.size=none:=I.hok.fresh (oQ _)
def Inv.BZ(I:Inv X gd σ H s)(g:H l=Z (.lst xs)):xs.length<=p6/\∃(its:Δ)(n:Nat),Vals xs its/\xs.length=its.length/\s.heap.get? l=Z (its.toArray^^^n):=by let(z,its,n,r,e):=I.hok l _ g;exact(z,its,n,r,r.length,e)
def EV(h:n<=p6):Builtin.List.listTooLong n=false:=by exact decide_eq_false bd
end
section
variable{X:Cx}
inductive oj(x:V)(vs:Ω)(H:Hp)(Q:VK):Prop
 |mk(l xs y:_)(h1:x=.ref l)(h2:vs=[y])(h3:H l=Z (.lst xs))(h4:xs.length<p6)(h5:Q .non (upd H l (.lst (xs++[y]))))
theorem BY:MtM X "list.append" oj:=by intro gd s σ H x vs v us Q I K P h;let(l,xs,y,U,U,g,V,q):=h;cases K;let(u,U,ru):=P.one;let(z,its,n,r,hl,e):=I.BZ g;refine call_meets F.slot_list_append (_,e,U) F.entry_list_append (F.args_list_append_2 _ _) (PySem.list_append l its.toArray n u (by rw[ti];lia)) (e,?_);refine(.non,_,I.Mt g e ap (r.append (.cons ru .nil)) ?_,U,q);rw[mS,List.length_singleton];lia
inductive oh(x:V)(vs:Ω)(H:Hp)(Q:VK):Prop
 |mk(l b xs zs:_)(h1:x=.ref l)(h2:vs=[.ref b])(h3:H l=Z (.lst xs))(h4:H b=Z (.lst zs))(h5:xs.length+zs.length<=p6)(h6:Q .non (upd H l (.lst (xs++zs))))
theorem BX:MtM X "list.extend" oh:=by
 intro gd s σ H x vs v us Q I P V h;let(l,b,xs,zs,U,U,K,hB,hz,q):=h;cases P;let(u,U,ru):=V.one;cases ru;let(z,its,n,r,hl,e):=I.BZ K;let(z2,g,n2,r2,aN,e2):=I.BZ hB;have hsz:its.toArray.size+g.toArray.size<=p6:=by rw[ti,ti];lia
 have O0:¬(!its.toArray.isEmpty&&Builtin.List.listTooLong (its.toArray.size+g.toArray.size))=true:=by rw[EV hsz,S1];exact su
 refine call_meets F.slot_list_extend (_,e,U) F.entry_list_extend (F.args_list_extend_2 _ _)
  (AutoSeq1.list_extend_list_list_0 l its.toArray n b g.toArray n2 O0 (by rw[ti];lia) bd) (e,e2,?_)
 refine(.non,_,I.Mt K e ap (r.append r2) ?_,U,q);rw[mS];omega
inductive Dz(x:V)(vs:Ω)(H:Hp)(Q:VK):Prop
 |mk(l xs y:_)(h1:x=.ref l)(h2:vs=[])(h3:H l=Z (.lst xs))(h4:xs[xs.length-1]?=Z y)(h5:Q y (upd H l (.lst xs.dropLast)))
theorem zj:MtM X "list.pop" Dz:=by
 intro gd s σ H x vs v us Q I V rv h;let(l,xs,y,U,U,P,hy,q):=h;cases V;have K:=rv.zero;subst K;let(z,its,n,r,hl,e):=I.BZ P;let(u,hu,ru):=r.get hy;have g:=by show its.toArray[its.length-1]?=Z u;rw[<- SW,<- hl];exact hu
 refine call_meets F.slot_list_pop (_,e,U) F.entry_list_pop (F.args_list_pop_1 _) (MeetsSeq.list_pop_last l its.toArray n u g (by rw[ti];lia)) (e,?_);refine(y,_,I.Mt P e ?_ r.dropLast ?_,ru,q)
 ·rw[ti,List.eraseIdxIfInBounds_toArray,zC]
 rw[List.length_dropLast];lia
inductive N6(x:V)(y:V)(H:Hp)(Q:VK):Prop
 |mk(l b xs zs:_)(h1:x=.ref l)(h2:y=.ref b)(h3:H l=Z (.lst xs))(h4:H b=Z (.lst zs))(h5:xs.length+zs.length<=p6)(h6:∀p,H p=Y->Q (.ref p) (upd H p (.lst (xs++zs))))
def Mh:OpR X (binaryOp .Add) N6:=by
 intro gd s σ H x y v u Q I V K h;let(l,b,xs,zs,U,U,hH,hB,hz,q):=h;cases V;cases K;let(z,its,n,r,hl,e):=I.BZ hH;let(z2,g,n2,r2,aN,e2):=I.BZ hB;refine PySem.P.add_list e e2 ?_ (by rw[ti,ti];omega);have ea:its.toArray++g.toArray=(its++g).toArray:=by simp
 rw[ea];exact(.ref _,_,I.Qb (r.append r2) (by rw[mS];omega),U,q _ I.fresh)
end
end L2
namespace Att
open PySem PySem.W PySem.Calls PyProof.Rows
def nT{P:Params}{h:Dd}:∀(ns:Ψ)(vs:Δ),WellAll P h vs (ns.map WData.int)->IntsAre vs ns:=by
 intro ns;induction ns with
 |nil =>
  intro vs w;cases w;exact .nil
 |cons n ns g =>intro vs w;cases w with|cons a b =>cases a;exact .cons _ _ (g _ b)
def Bt{l:OpenLaw}{n:Nat}(hn:l.most=Z n){P:Params}{h:Dd}{args:List WData}{vals:Δ}
  (hpre:l.row.toRowW.claim.pre args=O) (g:WellAll P h vals args):
  ∃a vs ns,vals=[B.ref a]/\args=[WData.list (ns.map WData.int)]/\h.get? a=Z (~~~vs.toArray)/\IntsAre vs ns/\ns.length<=n:=by
 have q:WShape.hasAll [] args [.list .int]=true:=(pre_splitW hpre).1;have z:l.pre.holds [] {args:=args}=true:=(pre_splitW hpre).2;let(d,r,U,h1,h2):=hasAllW_cons q;obtain rfl:=hasAllW_nil h2;let(xs,U,h3):=hasW_list h1;let(ns,U):=items_int h3;have hlen:=by
  have h4:=by have h4:=(holds_andW z).1;rw[hn]at h4;exact h4
  have h5:=condW_of h4 (w_not (w_lt w_lit (w_len_list (w_arg U))));first
   | (exact absurd h5 am)| (simp at h5;omega)
 cases g with|cons w1 w2 =>cases w2;cases w1 with|list ho K=>exact(_,_,ns,U,U,ho,nT ns _ K,hlen)
def BH(l:OpenLaw)(args:List WData):l.row.toRowW.claim.post args (.bool O) args=true:=
 postW_of
  be
  (w_eq_bool (w_res U) w_lit) U
def xR{l:OpenLaw}{n:Nat}{q:Da}{loose:Γ}{XP:(Υ)->Dd->Prop}{YP:Cl->Dd->Prop}{d:DefRec}
  (hn:l.most=Z n) (P:d.params.defaults=[])
  (call:∀(w:Cl)(s₀ g:ϋ)(mg mb:Υ)(z:J)(o:Obj)(pm cd doc:B)(a:J)(vs:Δ)(ns:Ψ),
Ground q loose [] XP w s₀ mg mb g.heap->YP w g.heap ->
g.heap.get? z=Z o->o.data=.func (docDef d.name d.params d.body d.scope pm cd doc)->g.heap.CodeRec cd d.name->mg d.name=Z (.ref z) ->
g.heap.get? a=Z (~~~vs.toArray)->IntsAre vs ns->ns.length<=n->g.gens=#[] ->
codeAny (model l.prog w) callerA (.call (.ref z) ([.ref a],[])) (λr s'=>r=.ok (.ret (.bool O))/\OldK g.heap s'.heap/\s'.os=g.os/\AllBare s'.gens) g):
  WalkO q loose XP YP l.row.toRowW d [] (λf vs=>PySem.call f vs):=by
 intro w s₀ g mg mb G TK z o pm cd doc dV kV ho hd Q V hmg hg args vals as hpre Rh aN K aP;obtain rfl:=Dflts.none V P;obtain rfl:=Dflts.noKw V;let(a,vs,ns,U,U,MX,hints,hlen):=Bt hn hpre K;refine enter_call (codeAny_mono (call w s₀ g mg mb z o pm cd doc a vs ns G TK ho (fd_plain hd) Q hmg MX hints hlen hg) λr s' hq=>?_);let(U,h2,h3,h4):=hq;exact(.inl (.bool O,.bool O,[],U,λ_=>rfl,.bool O,BH l _,λ_=>(List.Pairwise.nil,λ_ hm=>(nomatch hm))),h2,h3,h4)
section
def ledger(h:Dd)(L d:J):Ξ:=(Fq h.objs.size).filterMap λa=>if a=L\/a=d then Y else(h.get? a).map λo=>(a,o)
end
end Att
namespace L2
open PySem PySem.Spec PyProof.Rows
def Bl{vs:Δ}{ns:Ψ}(h:IntsAre vs ns):Vals (ns.map V.int) vs:=by induction h with|nil=>exact .nil|cons n t _ g=>exact .cons (t,U) g
def JU(H:Hp):Prop:=∀b,H b=Y\/∃o xs,H b=Z (.frz o (.lst xs))
variable{mg:Υ}{a:J}{x:Str}
theorem E9{P:Da}{w:Cl}{K:BT}{mb:Υ}{CX:CXT}{k:Nat}{fa:J}{fd:Ch}{sp:Sp}{g:ϋ}{vs:Δ}{ns:Ψ}
  (KX:K.In g.heap) (aP:g.heap.Ns mainGlobals mg) (Q:g.heap.Ns builtinsNs mb) (a5:∀x:Str,x ≠ "__name__"->mb x=bootBuiltins x) (Qs:g.heap.NoLimit) (hg:g.gens=#[])
  (ha:g.heap.get? a=Z (~~~vs.toArray)) (hi:IntsAre vs ns) (hl:ns.length<=p6) (hr:cn k callerA)
  (F:∀base:Dd,K.In base->base.Ns mainGlobals mg->aS P w K mg base CX k fa fd [x] sp) (O8:∀(s:ϋ)(u:B),BindsTo s fd ([u],[]) [(x,u)])
  (a3:∀H:Hp,JU H->SqL K H a (ns.map V.int)->sp [.ref a] H (λv _=>v=.bl O) λ_ _ _=>False)
  (bc:∀H e s',CX [] H g (λ_ _ _=>False) e s'->False):
  codeAny (model P w) callerA (.call (.ref fa) ([.ref a],[])) (λr s'=>r=.ok (.ret (.bool O))/\OldK g.heap s'.heap/\s'.os=g.os/\AllBare s'.gens) g:=by
 have rv:=Bl hi;have Qd:=hi.length;have core:∀H,JU H->SqL K H a (ns.map V.int)->HOk P w H g.heap->(∀b,H b≠Y->b=a)->(H a≠Y->K.lookup a=Y) ->
   codeAny (model P w) callerA (.call (.ref fa) ([.ref a],[])) (λr s'=>r=.ok (.ret (.bool O))/\OldK g.heap s'.heap/\s'.os=g.os/\AllBare s'.gens) g:=by
  intro H hO hS hok hA hK;have AY:∀{b:J}{o:Obj},g.heap.get? b=Z o->H b=Y->(xx g.heap H).get? b=Z o:=λe n=>Fv e n;have a0:∀{b:J}{o:Obj}{es:Array DictEntry}{ep:Nat},g.heap.get? b=Z o->o.data=.dict es ep->H b=none:=λ{b o es ep} e d=>by
   cases q:H b with|none=>rfl|some u =>have e':=hA b (by rw[q];simp);subst e';rw[ha]at e;cases e;have d':=d;cases d'
  have aN:∀{b:J}{m:Υ},g.heap.Ns b m->(xx g.heap H).Ns b m:=λ{b m} (o,es,ep,e,d,r)=>(o,es,ep,AY e (a0 e d),d,r);have aT:=λb o e=>AY (KX b o e) (by
   cases q:H b with
   |none=>rfl|some u =>
    have e':=hA b (by rw[q];simp);subst e';rw[hK (by rw[q];simp)]at e;cases e)
  have hM:Mod K mg (xx g.heap H):=(aT,aN aP,(mb,aN Q,a5),let(mc,h1,h2):=Qs;(mc,aN h1,h2));have e0:zO P w K mg (xx g.heap H) callerA [] g H:=(U,hM,λb o e=>IT e,Sr (Cb _ _),trivial,λb Q=>absurd (show b∈([])from Q) ap,hok,.of_eq hg);refine codeAny_mono ((F _ aT (aN aP)).run callerA [] g H ([.ref a],[]) [.ref a] [.ref a] _ _ hr e0 (O8 g (.ref a)) (.cons U .nil) (a3 H hO hS)) λr s' h=>?_;cases r with
  |error e=>exact(bc H e s' h).elim|ok fl =>
   cases fl with
   |next=>exact False.elim h|brk=>exact False.elim h|cont=>exact False.elim h|ret u =>
    let(v,H',os,bare,un,Qo,r',q):=h;have q':=q;subst q';obtain rfl:=r';refine(U,OldK.of_keep λb o e=>?_,os,bare);cases q:H b with
    |none=>exact un.keep b o e q (by intro z;exact absurd (show b∈([])from z) ap) ap|some u =>
     obtain z |⟨ob,xs,z⟩:=hO b
     ·rw[q]at z;cases z
     have z2:=un.iO b ob _ z;let(e1,_):=hok b _ z;let(e2,_):=Qo b _ z2;rw[e]at e1;cases e1;exact e2
 cases hk:K.lookup a with
 |some o =>
  have e:=KX a o hk;rw[ha]at e;cases e;refine core (λ_=>Y) (λ_=>.inl U) (.inr (_,vs.toArray,_,hk,U,U,U,by rw[ti,Qd];exact hl,(rv:))) (λb u z=>by have z':=z;cases z') (λb z=>absurd U z) λz=>absurd U z
 |none =>
  refine core (λb=>if b=a then Z (.frz (~~~vs.toArray) (.lst (ns.map V.int)))else Y) (λb=>?_) (.inl (.inr ((~~~vs.toArray),if_pos U))) (λb u z=>?_) (λb z=>?_) λ_=>hk
  ·by_cases Q:b=a
   ·exact .inr (_,_,if_pos Q)
   exact .inl (if_neg Q)
  ·by_cases Q:b=a
   ·have z':=(if_pos Q).symm.trans z;cases z';subst Q;exact(ha,by rw[e7];exact hl,vs,_,rv,ha)
   have z':=(if_neg Q).symm.trans z;cases z'
  by_cases Q:b=a
  ·exact Q
  exact absurd (if_neg Q) z
variable{n:Nat}
theorem G5{l:W.OpenLaw}{k:Nat}{q:Da}{loose:Γ}{XP:(Υ)->Dd->Prop}{YP:Cl->Dd->Prop}{d:DefRec}{K:Params->BT}{CX:Cl->CXT}{sp:Cl->Sp}
  (hn:l.most=Z n) (aN:n<=p6) (aP:d.params.defaults=[]) (hr:cn k callerA)
  (hY:∀(w:Cl)(h:Dd),YP w h->(K w.params).In h)
  (F:∀(w:Cl)(mg:Υ)(P:J)(h:Dd),(K w.params).In h->h.Ns mainGlobals mg->mg d.name=Z (.ref P) ->
∃fd:Ch,(∀(s:ϋ)(u:B),BindsTo s fd ([u],[]) [(x,u)]) /\
∀base:Dd,(K w.params).In base->base.Ns mainGlobals mg->aS l.prog w (K w.params) mg base (CX w) k P fd [x] (sp w))
  (Q:∀(w:Cl)(H:Hp)(a:J)(ns:Ψ),ns.length<=n->JU H->SqL (K w.params) H a (ns.map V.int)->sp w [.ref a] H (λv _=>v=.bl O) λ_ _ _=>False)
  (aT:∀(w:Cl)(H:Hp)(s:ϋ)(e:B)(s':ϋ),CX w [] H s (λ_ _ _=>False) e s'->False):
  W.WalkO q loose XP YP l.row.toRowW d [] (λf vs=>PySem.call f vs):=by
 refine Att.xR hn aP λw s₀ z mg mb P o pm cd doc a vs ns G TK ho hd a0 hmg MX hints hlen hg=>?_;have KX:=hY w _ TK;let(fd,hb,hF):=F w mg P _ KX G.T.g hmg;exact E9 KX G.T.g G.T.b G.T.builtins G.T.nolimit hg MX hints (vN hlen aN) hr hF hb (λH hO hS=>Q w H a ns hlen hO hS) λH e s'=>aT w H z e s'
def inClass(s:Ev)(j:Nat):Ev:=match s with|.ClassDef _ _ _ body _ _ _ _ _ _ _=>body.getD j (.Pass (0,0,0,0))|_=>.Pass (0,0,0,0)
def di(s:Ev):Arguments:=match s with|.FunctionDef _ a _ _ _ _ _ _ _ _=>a|_=>{posonlyargs:=[],args:=[],vararg:=Y,kwonlyargs:=[],kw_defaults:=[],kwarg:=Y,defaults:=[]}
def bD(s:Ev):List Ev:=match s with|.FunctionDef _ _ b _ _ _ _ _ _ _=>b|_=>[]
def aq(s:Ev):Scope:=match s with|.FunctionDef _ _ _ _ _ _ sc _ _ _=>sc|_=>{kind:=.function,names:=[],isGenerator:=ϊ,isCoroutine:=ϊ}
abbrev CX0:CXT:=λ_ _ _ _ _ _=>False
abbrev E0:XK:=λ_ _ _=>False
variable{X:Cx}
def wU:Passes CX0 X E0:=λ_ _ _ _ _ _ _ h=>h.elim
structure Fun(K:BT)(x qual:Str)(st:Ev)(f:J)(fd:Ch):Prop where
 ex:∃(oc:B)(od:Option J)(kV doc pm:B)(an:Option J)(cdv ct:B)(osl:Array (Option B)),
  fd=W.fnOf x qual (di st) (bD st) (aq st) .none kV doc pm an cdv ct/\K.lookup f=Z (oc,od,.func fd,osl)/\W.codeIn K cdv qual=O
 kp:W.keepIn K (.ref f)=O
variable{qual:Str}{fd:Ch}{N:Γ}{ps:Γ}{sp:Sp}{oc:B}{od:Option J}{an:Option J}{pm:B}{ct:B}
section
variable{P:Da}{w:Cl}{K:BT}{base:Dd}
theorem Fun.ok{st:Ev}{f:J}{k:Nat}(F:Fun K x qual st f fd)(S:az N ps (aq st))(len:∀vs H Q E,sp vs H Q E->vs.length=ps.length)
  (gc:∀(cdv:B)(A:Db)(outer:List Env)(s:ϋ)(H:Hp)(vs:Ω)(Q:VK)(E:XK),cn k (A.deeper (envOfC qual (aq st) s.heap.objs.size f cdv))->sp vs H Q E ->
∃t,PSs (kX CX0 P w K mg base N qual (aq st) f cdv A outer s H E).nox (bD st) t/\t {nx:=λ_ H'=>Q .non H',rt:=Q} (start N vs) H):aS P w K mg base CX0 (k+1) f fd ps sp:=by
 let(oc,od,kV,doc,pm,an,cdv,ct,osl,U,lk,z):=F.ex;refine Kx lk z S len λA outer s H vs Q E hr g=>?_;let(t,h,q):=gc cdv A outer s H vs Q E hr g;exact(t,h.nox,q)
theorem Fun.binds{st:Ev}{f:J}(F:Fun K x qual st f fd)
  (h:∀(kV doc pm:B)(an:Option J)(cdv ct:B)(us:Δ),us.length=ps.length->bindArgs (W.fnOf x qual (di st) (bD st) (aq st) .none kV doc pm an cdv ct) (us,[])=pure (ps.zip us)):Binds K fd ps []:=by
 let(oc,od,kV,doc,pm,an,cdv,ct,osl,U,lk,g):=F.ex;exact .all (h kV doc pm an cdv ct)
theorem vh{st:Ev}{f:J}{osl:Array (Option B)}{kV doc cdv:B}(l:K.lookup f=Z (oc,od,.func (W.fnOf x qual (di st) (bD st) (aq st) .none kV doc pm an cdv ct),osl))
  (c:W.codeIn K cdv qual=O) (k:W.keepIn K (.ref f)=O):Fun K x qual st f (W.fnOf x qual (di st) (bD st) (aq st) .none kV doc pm an cdv ct):=((oc,od,kV,doc,pm,an,cdv,ct,osl,U,l,c),k)
end
variable{A:Db}
def a7{k:Nat}(hr:cn k A):A.units+1<cLine:=Rq (So am _) hr.units
def aE(h:n<=1000):n<p6:=Rq h am
section
def pv(i:Nat){pos:Pos}(q:‹X.N[i]?=Z x›)(hv:Vis X.env.scope x:=by first|exact Or.inl rfl|exact Or.inr (Or.inl U)|exact Or.inr (Or.inr U))(hd:autoParam (AS x) zdc._auto_1)
  (g:autoParam ((x ==("__classdict__":Str))=false) zdc._auto_1):PE X (.Name x pos) (bN i):=Et q hv hd g
end
def Qi{A TL:Prop}(h:TL):if ϊ=O then A else TL:=by exact h
def aC{c A TL:Prop}[Decidable c](h1:c->A)(h2:¬ c->TL):if c then A else TL:=by
 by_cases h:c
 ·rw[if_pos h];exact h1 h
 rw[if_neg h];exact h2 h
def aa{c A Zg:Prop}[Decidable c](h2:Zg)(h:¬ c:=by decide +kernel):if c then A else Zg:=aC (λz=>absurd z h) λ_=>h2
def jY(H H':Hp):Prop:=∀b o,H b=Z o->H' b=Z o
def jY.refl(H:Hp):jY H H:=λ_ _ h=>h
variable{H:Hp}{H':Hp}
def jY.free(e:jY H H'){l:J}(h:H' l=Option.none):H l=Option.none:=by cases q:H l with|none=>rfl|some o =>rw[e l o q]at h;cases h
variable{y:V}{u:B}
section
variable{κ:Type}[DecidableEq κ]
def e9(kvs:List (κ×V))(k:κ):Option V:=(kvs.find? λkv=>decide (kv.1=k)).map (·.2)
def putK(kvs:List (κ×V))(k:κ)(v:V):List (κ×V):=
 if(kvs.any λkv=>decide (kv.1=k))=O then kvs.map (λkv=>if kv.1=k then(kv.1,v)else kv)else kvs++[(k,v)]
def oS{p:κ×V}{r:List (κ×V)}{k:κ}(e:p.1=k):e9 (p::r) k=Z p.2:=by simp[e9,e]
def oU{p:κ×V}{r:List (κ×V)}{k:κ}(e:¬ p.1=k):e9 (p::r) k=e9 r k:=by simp[e9,e]
theorem vV(k:κ):∀kvs:List (κ×V),(kvs.any λkv=>decide (kv.1=k))=(e9 kvs k).isSome
 |[]=>rfl|p::r=>by
  rw[RH];by_cases e:p.1=k
  ·simp only[oS e,decide_eq_true e,Bool.true_or,Option.isSome_some]
  rw[oU e,decide_eq_false e];exact vV k r
def iL(kvs:List (κ×V))(k:κ)(v:V):(putK kvs k v).length<=kvs.length+1:=by
 unfold putK;split
 ·rw[e7];lia
 rw[mS,p7,Sk];lia
def jn.gb{o:Option V}{u:Option B}(r:jn o u):o.isSome=u.isSome:=by
 cases o with
 |none=>cases u with|none=>rfl|some _=>exact(r).elim
 |some _=>cases u with|none=>exact(r).elim|some _=>rfl
theorem jn.getD{o:Option V}{u:Option B}{d:V}{g:B}(r:jn o u)(rd:RelV d g):RelV (o.getD d) (u.getD g):=by
 cases o with
 |none=>cases u with|none=>exact rd|some _=>exact(r).elim
 |some _=>cases u with|none=>exact(r).elim|some _=>exact r
def KV.val{kvs:List (κ×V)}{vs:List (κ×B)}(r:KV kvs vs)(k:κ):jn (e9 kvs k) (valueAt vs k):=by
 induction r with
 |nil=>exact True.intro|@cons p q ps qs h t K =>
  let(h1,h2):=h;by_cases e:p.1=k
  ·have g:=h1.symm.trans e;have b:valueAt (q::qs) k=Z q.2:=by simp[valueAt,g]
   rw[oS e,b];exact h2
  have g:¬ q.1=k:=λz=>e (h1.trans z);have b:valueAt (q::qs) k=valueAt qs k:=by simp[valueAt,g]
  rw[oU e,b];exact K
theorem KV.any{kvs:List (κ×V)}{vs:List (κ×B)}(r:KV kvs vs)(k:κ):(kvs.any λkv=>decide (kv.1=k))=vs.any λkv=>decide (kv.1=k):=by induction r with|nil=>rfl|cons h t g=>rw[RH,RH,g,h.1]
def KV.Li{kvs:List (κ×V)}{vs:List (κ×B)}(r:KV kvs vs)(k:κ)(g:RelV y u):
  KV (kvs.map λkv=>if kv.1=k then(kv.1,y)else kv) (vs.map λkv=>if kv.1=k then(kv.1,u)else kv):=by
 induction r with
 |nil=>exact .nil|@cons p q ps qs h t K =>
  rw[E3,E3];refine .cons ?_ K;let(h1,h2):=h;by_cases e:p.1=k
  ·rw[if_pos e,if_pos (h1.symm.trans e)];exact(h1,g)
  rw[if_neg e,if_neg (λz=>e (h1.trans z))];exact(h1,h2)
def KV.put{kvs:List (κ×V)}{vs:List (κ×B)}(r:KV kvs vs)(k:κ)(g:RelV y u):KV (putK kvs k y) (stored vs k u):=by
 unfold putK stored;rw[r.any k];by_cases e:(vs.any λkv=>decide (kv.1=k))=O
 ·rw[if_pos e,if_pos e];exact r.Li k g
 rw[if_neg e,if_neg e];exact Paired.snoc r (U,g)
theorem KV.length{kvs:List (κ×V)}{vs:List (κ×B)}(r:KV kvs vs):kvs.length=vs.length:=Paired.length r
end
variable{P:Da}
def kK{w:Cl}{k:Key}(r:RelV (kV k) u):(bp P w).is k u=true:=by cases k with|inl i=>let(t,e):=(r);subst e;exact xa P w i t|inr x=>let(t,e):=(r);subst e;exact w6 P w x t
theorem sP{P:Da}{w:Cl}:∀{ks:List Key}{us:Δ},Vals (ks.map kV) us->ItemsAre (bp P w) ks us
 |[],_,r=>by cases r;exact .nil
 |k::ks,_,r=>by
  cases r with|cons h t=>exact .cons (kK h) (sP t)
abbrev KT(H:Hp):ύ->List (List Key×J×B)->Prop:=Paired λp q=>p.1=q.1/\H q.2.1=Z (.tup (p.1.map kV))/\RelV p.2 q.2.2
def KT.val{kvs:ύ}{xs:List (List Key×J×B)}(r:KT H kvs xs)(k:List Key):jn (e9 kvs k) ((atKey xs k).map (·.2)):=by
 induction r with
 |nil=>exact True.intro|@cons p q ps qs h t K =>
  let(h1,_,h2):=h;by_cases e:p.1=k
  ·have g:=h1.symm.trans e;have b:atKey (q::qs) k=Z q.2:=by simp[atKey,g]
   rw[oS e,b];exact h2
  have g:¬ q.1=k:=λz=>e (h1.trans z);have b:atKey (q::qs) k=atKey qs k:=by simp[atKey,g]
  rw[oU e,b];exact K
def KT.Li{kvs:ύ}{xs:List (List Key×J×B)}(r:KT H kvs xs)(k:List Key)(g:RelV y u):
  KT H (kvs.map λkv=>if kv.1=k then(kv.1,y)else kv) (xs.map (putAt k u)):=by
 induction r with
 |nil=>exact .nil|@cons p q ps qs h t K =>
  rw[E3];refine .cons ?_ K;let(h1,h2,h3):=h;unfold putAt;by_cases e:p.1=k
  ·rw[if_pos e,if_pos (h1.symm.trans e)];exact(h1,h2,g)
  rw[if_neg e,if_neg (λz=>e (h1.trans z))];exact(h1,h2,h3)
def KT.put{kvs:ύ}{xs:List (List Key×J×B)}(r:KT H kvs xs)(k:List Key){b:J}(z:H b=Z (.tup (k.map kV)))(g:RelV y u):
  KT H (putK kvs k y) (storedH xs k b u):=by
 have e:(kvs.any λkv=>decide (kv.1=k))=(atKey xs k).isSome:=by rw[vV,(r.val k).gb,SF]
 unfold putK storedH;rw[e];by_cases q:(atKey xs k).isSome=O
 ·rw[if_pos q,if_pos q];exact r.Li k g
 rw[if_neg q,if_neg q];exact Paired.snoc r (U,z,g)
def KT.keeps{kvs:ύ}{xs:List (List Key×J×B)}(r:KT H kvs xs)(g:∀b ys,H b=Z (.tup ys)->H' b=Z (.tup ys)):KT H' kvs xs:=
 Paired.OH r λ_ _ z=>(z.1,g _ _ z.2.1,z.2.2)
variable{kvs:ό}
section
variable{w:Cl}{h:Dd}
def Kb{u:HO}(ok:HOk P w H h)(e:Rd H a u):bZ P w H h a u:=e.ok ok
def ju(ok:HOk P w H h)(e:Rd H a (.dK kvs)):kvs.length<=p6/\(a==sysModules)=ϊ/\∃vs,KV kvs vs/\h.DictOf (bp P w) a vs:=
 Kb ok e
def Ky(ok:HOk P w H h)(e:H a=Z (.dK kvs)):kvs.length<=p6/\(a==sysModules)=ϊ/\∃vs,KV kvs vs/\h.DictOf (bp P w) a vs:=ju ok (.inl e)
def mI{ks:List Key}(ok:HOk P w H h)(e:H a=Z (.tup (ks.map kV))):(tupleKind (bp P w)).is h ks a:=by let(_,its,r,(o,h1,h2,n,h3),_):=(ok a _ e);exact(o,its.toArray,n,h1,h2,h3,(sP r:))
def qL{kvs:ύ}(ok:HOk P w H h)(e:Rd H a (.dT kvs)):kvs.length<=p6/\(a==sysModules)=ϊ /\
  ∃xs,KT H kvs xs/\h.DictOfH (tupleKind (bp P w)) a xs:=by
 let(z,y,xs,r,o,es,K,h1,h2,h3,h4,h5):=(Kb ok e);refine(z,y,xs,r,o,es,K,h1,h2,h3,h4,λx hx=>?_,h5);have all:∀{l:ύ}{m:List (List Key×J×B)},KT H l m->∀x∈m,(tupleKind (bp P w)).is h x.1 x.2.1:=by
  intro l m q;induction q with
  |nil=>intro x hx;exact nomatch hx
  |@cons p q ps qs hq t g =>
   intro x hx;obtain e|hx:=ot.mp hx
   ·subst e;exact mI ok (by rw[<- hq.1];exact hq.2.1)
   exact g x hx
 exact all r x hx
def Pe{kvs:ύ}(ok:HOk P w H h)(e:H a=Z (.dT kvs)):kvs.length<=p6/\(a==sysModules)=ϊ /\
  ∃xs,KT H kvs xs/\h.DictOfH (tupleKind (bp P w)) a xs:=qL ok (.inl e)
end
def gp(H:Hp)(a:J)(y:V)(r:Option V):Prop:=
 (∃kvs k,Rd H a (.dK kvs)/\y=kV k/\r=e9 kvs k)\/∃kvs k b,Rd H a (.dT kvs)/\y=.ref b/\H b=Z (.tup (k.map kV))/\r=e9 kvs k
def vQ(H:Hp)(a:J)(y v:V)(H':Hp):Prop:=
 (∃kvs k,H a=Z (.dK kvs)/\y=kV k/\kvs.length<p6/\H'=upd H a (.dK (putK kvs k v))) \/
 ∃kvs k b,H a=Z (.dT kvs)/\y=.ref b/\H b=Z (.tup (k.map kV))/\kvs.length<p6/\H'=upd H a (.dT (putK kvs k v))
theorem gp.k{H:Hp}{a:J}{kvs:ό}{k:Key}(e:H a=Z (.dK kvs)):gp H a (kV k) (e9 kvs k):=.inl (kvs,k,.inl e,U,U)
theorem vQ.k{H:Hp}{a:J}{kvs:ό}{k:Key}{v:V}(e:H a=Z (.dK kvs))(hl:kvs.length<p6):vQ H a (kV k) v (upd H a (.dK (putK kvs k v))):=.inl (kvs,k,e,U,hl,U)
variable{Q:Φ}{h':Dd}{t':Nat}
section
variable{gd:Ξ}{σ:St}{s:ϋ}{v:V}{r:B}{o:Option V}{E:Φ}
def Inv.big(I:Inv X gd σ H s):sysModules<s.heap.objs.size:=by have h:=(I.mod.glob.keeps I.bk).lt;exact R3 am h
def Co(hu:A.units+1<cLine)(I:Inv X gd σ H s)(g:gp H a y (Z v))(ry:RelV y u)(h:∀K s',Inv X gd σ H s'->RelV v K->Q K s'):
  wpAny (model X.prog X.w) A (getItem (.ref a) u) Q E s:=by
 obtain⟨kvs,k,e,V,l⟩|⟨kvs,k,b,e,V,eb,l⟩:=g
 ·subst V;let(z,hd,vs,rel,dd):=ju I.hok e;let(K,hw,q):=jn.some_of (by rw[l];exact rel.val k);exact wpAny_getItem_of (kK ry) dd.mapOf hw (h K _ (I.tok _) q)
 subst V;cases(ry);let(z,hd,xs,rel,dd):=qL I.hok e;let(K,hw,q):=jn.some_of (by rw[l];exact rel.val k);let(p,hp,P):=mU.mp hw;refine wpAny_getItem_heap (tupleKind_room_in1 hu) (mI I.hok eb) dd hp ?_;rw[P];exact h K _ (I.tok _) q
def QM(V:A.units+1<cLine)(I:Inv X gd σ H s)(g:gp H a y o)(P:RelV y u)(h:∀s',Inv X gd σ H s'->Q (.bool o.isSome) s'):
  wpAny (model X.prog X.w) A (compareOp .In u (.ref a)) Q E s:=by
 obtain⟨kvs,k,e,K,l⟩|⟨kvs,k,b,e,K,eb,l⟩:=g
 ·subst K;let(z,hd,vs,rel,dd):=ju I.hok e;refine wpAny_in_of (kK P) hd dd.mapOf ?_;rw[<- (rel.val k).gb,<- l];exact h _ (I.tok _)
 subst K;cases(P);let(z,hd,xs,rel,dd):=qL I.hok e;refine wpAny_in_heap (tupleKind_room_in1 V) (mI I.hok eb) hd dd ?_;have q:=(rel.val k).gb;rw[SF]at q;rw[<- q,<- l];exact h _ (I.tok _)
def JC(V:A.units+1<cLine)(I:Inv X gd σ H s)(g:gp H a y o)(P:RelV y u)(h:∀s',Inv X gd σ H s'->Q (.bool (!o.isSome)) s'):
  wpAny (model X.prog X.w) A (compareOp .NotIn u (.ref a)) Q E s:=by
 obtain⟨kvs,k,e,K,l⟩|⟨kvs,k,b,e,K,eb,l⟩:=g
 ·subst K;let(z,hd,vs,rel,dd):=ju I.hok e;refine wpAny_notIn_of (kK P) hd dd.mapOf ?_;rw[<- (rel.val k).gb,<- l];exact h _ (I.tok _)
 subst K;cases(P);let(z,hd,xs,rel,dd):=qL I.hok e;refine wpAny_notIn_heap (tupleKind_room_in1 V) (mI I.hok eb) hd dd ?_;have q:=(rel.val k).gb;rw[SF]at q;rw[<- q,<- l];exact h _ (I.tok _)
def vB{ob:HO}(I:Inv X gd σ H s)(g:Mut (H a))(hs:R0 a s.heap h')(he:∃q,h'.get? a=Z q)(new:bZ X.prog X.w (upd H a ob) h' a ob):
  Inv X gd σ (upd H a ob) {s with heap:=h',toks:=t'}:=
 I.write g (.inl U) (λb q K z=>(hs.2 b K).trans z) he new
def vy{w:Cl}{vs:List (Key×B)}(z:kvs.length<=p6)(hd:(a==sysModules)=ϊ)(rel:KV kvs vs)(dd:h'.DictOf (bp P w) a vs):
  bZ P w H' h' a (.dK kvs):=(z,hd,vs,rel,dd)
def Cn{Q:Unit->ϋ->Prop}(hu:A.units+1<cLine)(I:Inv X gd σ H s)(g:vQ H a y v H')(V:RelV y u)(rv:RelV v r)(h:∀s',Inv X gd σ H' s'->Q () s'):
  wpAny (model X.prog X.w) A (setItem (.ref a) u r) Q E s:=by
 obtain⟨kvs,k,e,K,l,P⟩|⟨kvs,k,b,e,K,eb,l,P⟩:=g
 ·subst K P;let(z,hd,vs,rel,dd):=Ky I.hok e;have hz:vs.length<=p6:=by rw[<- rel.length];exact z
  have hl:(putK kvs k v).length<=p6:=by have:=iL kvs k v;omega
  refine wpAny_setItem_pairs (kK V) dd λh' dd' hs=>h _ ?_;have he:∃q,h'.get? a=Z q:=let(q,_,_,hq,_):=dd';(q,hq);exact vB I (by rw[e];exact True.intro) hs he (vy hl hd (rel.put k rv) dd')
 subst K P;cases(V);let(z,hd,xs,rel,dd):=Pe I.hok e;have hz:xs.length<=p6:=by rw[<- Paired.length rel];exact z
 have hl:(putK kvs k v).length<=p6:=by have:=iL kvs k v;lia
 refine wpAny_setItem_heap (hsz:=hz) (tupleKind_room_in1 hu) (mI I.hok eb) dd λh' dd' hs=>h _ ?_;let(q,es,ep,hq,h2,h3,h4,_,h5):=dd';refine vB I (by rw[e];exact True.intro) hs (q,hq) (hl,hd,_,(rel.put k eb rv).keeps λc ys ec=>?_,q,es,ep,hq,h2,h3,h4,h5);rw[ak (iI ec e (λz=>nomatch z))];exact ec
end
section
variable{gd:Ξ}{σ:St}{s:ϋ}{E:Φ}
def Ph(I:Inv X gd σ H s)(e:Rd H a (.dK kvs))(h:∀t s',Inv X gd σ H s'->Q (.int kvs.length t) s'):wpAny (model X.prog X.w) A (call (.builtin "len") [.ref a]) Q E s:=by let(z,hd,vs,rel,dd):=ju I.hok e;refine call_len_dict hd dd (by rw[<- rel.length];rw[RY]at z;lia) ?_;rw[<- rel.length];exact h _ _ (I.tok _)
end
def PD(i:Do):Prop:=∀g iv,subscripted i ϊ g iv=operate [g,iv] (getItem g iv)
variable{prog:Da}{E:Φ}{env:Env}{value:Do}
def Hb{w:Cl}{s:ϋ}{slice:Do}{pos:Pos}{T id:String}
  (hl:typeLookup (.type T) "__getitem__"=pure (Z (.builtin id))) (hs:PD slice)
  (h:wpAny (model prog w) A (eval value env) (λo z=>wpAny (model prog w) A (eval slice env) (λi s₂=>s₂.TypeIs o T/\wpAny (model prog w) A (getItem o i) Q E s₂) E z) E s):
  wpAny (model prog w) A (eval (.Subscript value slice pos) env) Q E s:=by
 refine Subscript_ (JZ h (λo z P=>JZ P (λi s₂ g=>?_) λ_ _ x=>x) λ_ _ x=>x);let(hT,g):=g;refine gV ?_;refine gV (Sm hT hl ?_);have fin:wpAny (model prog w) A (subscripted slice ϊ o i) (λr q=>wpAny (model prog w) A (letTemporaryGo value o r >>= λ_=>pure r) Q E q) E s₂:=by rw[hs o i];exact wpAny_operating (JZ g (λr q K=>gV (wpAny_letTemporaryGo (sr K))) λ_ _ x=>x)
 exact sr (gV fin)
variable{gd:Ξ}
def xH{σ:St}{s:ϋ}{o:Option V}(I:Inv X gd σ H s)(g:gp H a y o):s.TypeIs (.ref a) "dict":=by
 obtain⟨kvs,k,e,_,_⟩|⟨kvs,k,b,e,_,_,_⟩:=g
 ·let(_,_,vs,_,dd):=ju I.hok e;exact dd.typeIs
 let(_,_,xs,_,dd):=qL I.hok e;exact dd.typeIs
def NQ(td ty:TE):TE:=λσ H Q=>td σ H λx H1=>ty σ H1 λy g=>∃a v,x=.ref a/\gp g a y (Z v)/\Q v g
def Dt(td ty tv:TE):TS:=λD σ H=>tv σ H λv H1=>td σ H1 λx z=>ty σ z λy q=>∃a g,x=.ref a/\vQ q a y v g/\D.nx σ g
section
variable{o i:Do}{pos pos':Pos}{td ty tv:TE}
def gG(hu:X.A.units+1<cLine)(ho:PE X o td)(hi:PE X i ty)(hs:PD i):PE X (.Subscript o i pos) (NQ td ty):=by left;refine Hb PySem.F.slot_dict_getitem.lookup hs (thn (ho gd s σ H _ I h) λu s1 (x,H1,I1,V,q1)=>thn (hi gd s1 σ H1 _ I1 q1) λiv s2 z=>?_);let(y,H2,K,P,a,v,ex,g,q2):=z;subst ex;obtain rfl:=V;exact(xH K g,Co hu K g P λw' s3 I3 q=>(v,H2,I3,q,q2))
def ou(hu:X.A.units+1<cLine)(ho:PE X o td)(hi:PE X i ty)(hv:PE X value tv)(hs:swapsWith value (Z (.Subscript o i pos')) pos.line X.env=pure ϊ):
  PS X (.Assign [.Subscript o i pos'] value pos) (Dt td ty tv):=by
 right;refine wpAny_Assign_Subscript (thn (hv gd s σ H _ I h) λr s1 (v,H1,I1,P,q1)=>thn (ho gd s1 σ H1 _ I1 q1) λu s2 (x,H2,I2,K,V)=>thn (hi gd s2 σ H2 _ I2 V) λiv s3 q=>?_) hs;let(y,H3,I3,z,a,H4,ex,g,Q):=q;subst ex;obtain rfl:=K;exact Cn hu I3 g z P λs4 I4=>(σ,H4,I4,Q)
end
def xG{w:Cl}(h:Dd)(g:sysModules<h.objs.size):bZ P w H (h.push {cls:=.type "dict",data:=.dict #[]}) h.objs.size (.dK []):=
 (Rm _,beq_eq_false_iff_ne.mpr (Ne.symm (x8 g)),[],.nil,Heap.DictOf.new h)
def CZ:TE:=λ_ H Q=>∀p,H p=Y->Q (.ref p) (upd H p (.dK []))
section
variable{pos:Pos}
def Ey:PE X (.Dict [] [] pos) CZ:=λgd s σ H Q I h =>
 wpAny_Dict_empty (.ref s.heap.objs.size,_,I.laid (λ_ _ q=>jo _ q) (oQ _) (xG s.heap I.big),U,h _ (I.hok.fresh (oQ _)))
end
def t8:List (TE×TE)->St->Hp->(List (V×V)->Hp->Prop)->Prop
 |[],_,H,Q=>Q [] H| (tk,tv)::r,σ,H,Q=>tk σ H λx H1=>tv σ H1 λy q=>t8 r σ q λps g=>Q ((x,y)::ps) g
abbrev VV:List (V×V)->List (B×B)->Prop:=Paired λp q=>RelV p.1 q.1/\RelV p.2 q.2
def PPs(X:Cx)(pos:Pos)(keys:List (Option Do))(values:List Do)(trs:List (TE×TE)):Prop:=
 ∀(gd:Ξ)(s:ϋ)(σ:St)(H:Hp)(Q:List (V×V)->Hp->Prop),Inv X gd σ H s->t8 trs σ H Q ->
  Zc X (evalPairs (pairTrees keys values X.env pos)) (λvs s'=>∃ps H',Inv X gd σ H' s'/\VV ps vs/\Q ps H') X.xe s
def Ak{pos:Pos}:PPs X pos [] [] []:=λgd s σ H Q I h=>pairTrees_nil_walk ([],H,I,.nil,h)
variable{tk:TE}{tv:TE}{trs:List (TE×TE)}
def ky{pos:Pos}{k v:Do}{ks:List (Option Do)}{vs:List Do}(V:PE X k tk)(hv:PE X v tv)(hr:PPs X pos ks vs trs):
  PPs X pos (Z k::ks) (v::vs) ((tk,tv)::trs):=λgd s σ H Q I h =>
 pairTrees_cons_walk (thn (V gd s σ H _ I h) λu s1 (x,H1,I1,q,P)=>thn (hv gd s1 σ H1 _ I1 P) λw2 s2 (y,H2,I2,g,K) =>
thn (hr gd s2 σ H2 _ I2 K) λws s3 (ps,H3,I3,rel,z)=>((x,y)::ps,H3,I3,.cons (q,g) rel,z))
def fQ(kvs more:ό):ό:=more.foldl (λacc kv=>putK acc kv.1 kv.2) kvs
def KV.merge:∀{more:ό}{rs:List (Key×B)}{kvs:ό}{vs:List (Key×B)},KV more rs->KV kvs vs->KV (fQ kvs more) (merged vs rs):=by
 intro more rs kvs vs r;induction r generalizing kvs vs with
 |nil=>intro q;exact q
 |@cons p q ps qs h t z =>
  intro g;have e:KV (putK kvs p.1 p.2) (stored vs q.1 q.2):=by have:=g.put p.1 h.2;rw[<- h.1];exact this
  exact z e
theorem fR:∀(more kvs:ό),(fQ kvs more).length<=kvs.length+more.length
 |[],kvs=>by show kvs.length<=kvs.length+0;lia|p::r,kvs=>by
  have h1:=fR r (putK kvs p.1 p.2);have h2:=iL kvs p.1 p.2;show(fQ (putK kvs p.1 p.2) r).length<=_;rw[p7];lia
theorem qQ{P:Da}{w:Cl}:∀{kvs:ό}{ws:List (B×B)},VV (kvs.map λkv=>(kV kv.1,kv.2)) ws->∃rs,Carries (bp P w) ws rs/\KV kvs rs
 |[],_,r=>by cases r;exact([],True.intro,.nil)
 |p::kvs,_,r=>by
  cases r with|@cons a b as bs h t =>let(rs,c,q):=qQ t;let(b1,b2):=b;exact((p.1,b2)::rs,(kK h.1,U,c),.cons (U,h.2) q)
def J9(trs:List (TE×TE)):TE:=λσ H Q=>∀p,H p=Y->t8 trs σ (upd H p (.dK [])) λps g=>g p=Z (.dK [])/\∃kvs:ό,ps=kvs.map (λkv=>(kV kv.1,kv.2))/\kvs.length<=15/\Q (.ref p) (upd g p (.dK (fQ [] kvs)))
def Al{pos:Pos}{keys:List (Option Do)}{values:List Do}(h:PPs X pos keys values trs)(Fy:keys.all (·.isSome)=O)(hl:keys.length=values.length)(h0:keys ≠ [])
  (K:keys.length<=15):PE X (.Dict keys values pos) (J9 trs):=by
 intro gd s σ H Q I q;have hn:=I.hok.fresh (oQ s.heap.objs.size);have I1:=I.laid (t':=s.toks) (λ_ _ q=>jo _ q) (oQ _) (xG s.heap I.big);refine wpAny_Dict_walk (knd:=bp X.prog X.w) Fy hl h0 K (thn (h gd _ σ _ _ I1 (q _ hn)) λws s2 g=>?_);let(ps,H2,P,rel,e,kvs,ep,lk,q2):=g;subst ep;let(rs,c,rk):=qQ rel;let(z,hd,V,r0,dd):=Ky P.hok e;cases r0;refine(rs,c,dd,λh' dd' hs=>(.ref s.heap.objs.size,_,?_,U,q2));have hz:(fQ [] kvs).length<=p6:=by have h1:=fR kvs [];rw[Sk]at h1;rw[RY];lia
 have he:∃q,h'.get? s.heap.objs.size=Z q:=let(q,_,_,hq,_):=dd';(q,hq);exact vB P (by rw[e];exact True.intro) hs he (vy hz hd (rk.merge .nil) dd')
structure M2(X:Cx)(o:Do)(m:Str)(apos:Pos)(e f:Do)(aN:Pos):Prop where
 base:attributeBase o m X.env (eval o X.env)=eval o X.env
 few:((backTo aN (nY [e,f] X.env)).all (λx=>!x.1)&&(backToKw aN (keywordEach [] X.env)).all (λx=>x.1.isSome)
&& decide (([e,f]:List Do).length+([]:List Keyword).length+(if([]:List Keyword).isEmpty then 0 else 1)<30))=O
 line:(apos.endLine==aN.line)=O
 trees:backTo aN (nY [e,f] X.env)=[(ϊ,eval e X.env),(ϊ,eval f X.env)]
def IsD(H:Hp)(a:J):Prop:=(∃kvs,Rd H a (.dK kvs))\/∃kvs,Rd H a (.dT kvs)
def MQ{σ:St}{s:ϋ}(I:Inv X gd σ H s)(d:IsD H a):
  s.TypeIs (.ref a) "dict" /\ (∀b,B.ref a=.ref b->∃ob,s.heap.get? b=Z ob/\ob.dict=Y)/\(a==sysModules)=false:=by
 obtain⟨kvs,e⟩|⟨kvs,e⟩:=d
 ·let(_,hd,vs,_,dd):=ju I.hok e;refine(dd.typeIs,λb q=>?_,hd);cases q;let(ob,_,_,h1,h2,_):=dd;exact(ob,h1,h2.2.1)
 let(_,hd,xs,_,dd):=qL I.hok e;refine(dd.typeIs,λb q=>?_,hd);cases q;let(ob,_,_,h1,h2,_):=dd;exact(ob,h1,h2.2.1)
section
variable{σ:St}{s:ϋ}{d:V}{r:B}{o:Option V}
def M7(V:A.units+1<cLine)(I:Inv X gd σ H s)(g:gp H a y o)(P:RelV y u)(rd:RelV d r)(h:∀K s',Inv X gd σ H s'->RelV (o.getD d) K->Q K s'):
  wpAny (model X.prog X.w) A (call (.builtin "dict.get") [.ref a,u,r]) Q E s:=by
 obtain⟨kvs,k,e,q,l⟩|⟨kvs,k,b,e,q,eb,l⟩:=g
 ·subst q;let(z,hd,vs,rel,dd):=ju I.hok e;refine call_meetsIn PySem.F.slot_dict_get dd.typeIs PySem.F.entry_dict_get (PySem.F.args_dict_get_3 _ _ _) (meets_dict_get_default (bp X.prog X.w) a (kK P) hd r) (_,dd.mapOf,h _ _ (I.tok _) ?_);rw[l];exact(rel.val k).getD rd
 subst q;cases(P);let(z,hd,xs,rel,dd):=qL I.hok e;refine call_meetsIn PySem.F.slot_dict_get dd.typeIs PySem.F.entry_dict_get (PySem.F.args_dict_get_3 _ _ _) (meetsH_dict_get_default (tupleKind (bp X.prog X.w)) a b hd r) (tupleKind_room_in1 V,k,xs,mI I.hok eb,dd,h _ _ (I.tok _) ?_);rw[l];exact(rel.val k).getD rd
end
def C0(td ty tx:TE):TE:=λσ H Q=>td σ H λx H1=>∃a,x=.ref a/\IsD H1 a/\ty σ H1 λy q=>tx σ q λz g=>∃o,gp g a y o/\Q (o.getD z) g
section
variable{o e f:Do}{apos aN:Pos}{td ty tx:TE}
def Ez(hu:X.A.units+1<cLine)(ho:PE X o td)(he:PE X e ty)(hf:PE X f tx)(m:M2 X o "get" apos e f aN):PE X (.Call (.Attribute o "get" apos) [e,f] [] aN) (C0 td ty tx):=by
 left;refine wpAny_Call_method m.base m.few m.line PySem.F.plainAttrs_dict PySem.F.slot_dict_get PySem.F.type_dict_get (thn (ho gd s σ H _ I h) λu s1 K=>?_);let(x,H1,P,rx,a,ex,d,q1):=K;subst ex;obtain rfl:=rx;let(t1,t2,_):=MQ P d;refine(t1,t2,?_);rw[m.trees];refine Calls.callWith_builtin U (Calls.evalArgs_plain (Calls.spliced_cons (thn (he gd s1 σ H1 _ P q1) λiv s2 (y,H2,I2,ry,q2) =>
Calls.spliced_cons (thn (hf gd s2 σ H2 _ I2 q2) λfv s3 (z,H3,I3,V,ov,g,q3)=>Calls.spliced_nil ?_))))
 exact M7 hu I3 g ry V λw' s4 I4 q=>(_,H3,I4,q,q3)
end
section
def Cs:cY X (.builtin "len") (λxs H Q=>∃a kvs,xs=[V.ref a]/\H a=Z (.dK kvs)/\Q (.int kvs.length) H):=by intro gd s σ H xs us Q I r h;let(a,kvs,U,g,q):=h;let(u,U,ru):=vals1 r;cases ru;exact Ph I (.inl g) λt s' z=>(.int kvs.length,H,z,(t,U),q)
end
end L2
set_option maxHeartbeats 4000000
namespace L2
open PySem PySem.Spec PyProof.Rows
def Kl{h:Dd}{a:Nat}{o:Obj}(e:h.get? a=Z o):@LT.lt Nat _ a h.objs.size:=rg e
def AW{h:Dd}{a:Nat}{v:Option B}(e:h.IsCell a v):@LT.lt Nat _ a h.objs.size:=e.lt
def kH{a b:Nat}(h:a<b):@Ne J a b:=x8 h
def OG{a b:Nat}(h:b<a):@Ne J a b:=Rl h
variable{env:Env}
def xN{body:Str×NameKind->List (Str×J)->Sem (ForInStep (List (Str×J)))}
  (hb:∀n k c,body (n,k) c=if(k==NameKind.free)=O then(cellOf env n >>= λa=>pure (.yield ((n,a)::c)))else pure (.yield c))
  (l:List (Str×NameKind)):∀(cs:List (Str×J)),(∀p∈l,p.2=NameKind.free->∃c,env.cells.lookup p.1=Z c) ->
   ∃cl,forIn l cs body=pure cl/\(∀x c,cl.lookup x=Z c->env.cells.lookup x=Z c\/cs.lookup x=Z c)/\(∀x,(x,NameKind.free)∈l->∃c,cl.lookup x=Z c)/\∀x c,cs.lookup x=Z c->∃q,cl.lookup x=Z q:=by
 induction l with
 |nil=>exact λcs _=>(cs,U,λ_ _ h=>.inr h,λ_ h=>(nomatch h),λ_ c h=>(c,h))|cons p r Q =>
  let(n,k):=p;intro cs h;have hr:=λp hp=>h p (mm _ hp);rw[SS,hb];by_cases K:(k==NameKind.free)=O
  ·rw[if_pos K];have P:=(K:);let(c,V):=h (n,k) iY P;have e1:cellOf env n=pure c:=by unfold cellOf;rw[V]
   rw[e1];let(cl,e,h1,h2,h3):=Q ((n,c)::cs) hr;refine(cl,e,λx q hx=>?_,λx hx=>?_,λx q hx=>?_)
   ·obtain z|z:=h1 x q hx
    ·exact .inl z
    by_cases g:(x==n)=O
    ·have e3:=(g:);subst e3;rw[x6,g]at z;cases z;exact .inl V
    rw[x6,RK.mpr g]at z;exact .inr z
   ·obtain z|z:=ot.mp hx
    ·have g:x=n:=congrArg Prod.fst z;exact h3 x c (by rw[x6,g,beq_self_eq_true])
    exact h2 x z
   by_cases g:(x==n)=O
   ·exact h3 x c (by rw[x6,g])
   exact h3 x q (by rw[x6,RK.mpr g];exact hx)
  rw[if_neg K];let(cl,e,h1,h2,h3):=Q cs hr;refine(cl,e,h1,λx hx=>?_,h3);obtain z|z:=ot.mp hx
  ·cases z;exact absurd U K
  exact h2 x z
variable{scope:Scope}
def zE(h:∀p∈scope.names,p.2=NameKind.free->∃c,env.cells.lookup p.1=Z c):
  ∃cl:List (Str×J),closureFor scope env=pure cl/\(∀x c,cl.lookup x=Z c->env.cells.lookup x=Z c)/\∀x,(x,NameKind.free)∈scope.names->∃c,cl.lookup x=Z c:=by
 let(cl,e,h1,h2,_):=xN (body:=λx c=>if(x.2==NameKind.free)=O then(cellOf env x.1 >>= λa=>pure (.yield ((x.1,a)::c)))else pure (.yield c)) (λ_ _ _=>rfl) scope.names [] h;refine(cl,?_,λx c hx=>(h1 x c hx).elim id λz=>by simp at z,h2);have g:closureFor scope env=(forIn scope.names ([]) (λx c=>if(x.2==NameKind.free)=O then(cellOf env x.1 >>= λa=>pure (.yield ((x.1,a)::c)))else pure (.yield c)) >>= λr=>pure r):=by simp only[closureFor]
 rw[g,e];rfl
theorem fK{env:Env}:∀{names:List (Str×NameKind)}{x:Str}{k:NameKind},
  (names.map λ(n,k)=>if(k==NameKind.free&&env.scope.kind == .function&&env.kindOf n==Z .cell)then(n,NameKind.cell)else(n,k)).lookup x=Z k ->
   names.lookup x=Z k\/(names.lookup x=Z .free/\k=.cell)
 |[],_,_,h=>by simp at h| (n,k0)::r,x,k,h=>by
  have q:=@fK env r x k;replace h:Rx x ((if(k0==NameKind.free&&env.scope.kind == .function&&env.kindOf n==Z .cell)=O then(n,NameKind.cell)else(n,k0)) ::(r.map λ(n,k)=>if(k==NameKind.free&&env.scope.kind == .function&&env.kindOf n==Z .cell)then(n,NameKind.cell)else(n,k)))=Z k:=h;cases hx:x==n with
  |true =>
   by_cases g:(k0==NameKind.free&&env.scope.kind == .function&&env.kindOf n==Z .cell)=O
   ·rw[if_pos g]at h;simp only[x6,hx]at h;cases h;have:=by simp only[ri]at g;simpa using g.1.1
    subst this;exact .inr (by simp only[x6,hx],U)
   rw[if_neg g]at h;simp only[x6,hx]at h;exact .inl (by simp only[x6,hx];exact h)
  |false =>
   have h':(r.map λ(n,k)=>if(k==NameKind.free&&env.scope.kind == .function&&env.kindOf n==Z .cell)then(n,NameKind.cell)else(n,k)).lookup x=Z k:=by
    by_cases g:(k0==NameKind.free&&env.scope.kind == .function&&env.kindOf n==Z .cell)=O
    ·rw[if_pos g]at h;simpa only[x6,hx]using h
    rw[if_neg g]at h;simpa only[x6,hx]using h
   obtain z|z:=q h'
   ·exact .inl (by simp only[x6,hx];exact z)
   exact .inr (by simp only[x6,hx];exact z)
theorem kl{env:Env}:∀{names:List (Str×NameKind)}{x:Str},names.lookup x=Z .free ->
  (names.map λ(n,k)=>if(k==NameKind.free&&env.scope.kind == .function&&env.kindOf n==Z .cell)then(n,NameKind.cell)else(n,k)).lookup x=Z .free \/
  (names.map λ(n,k)=>if(k==NameKind.free&&env.scope.kind == .function&&env.kindOf n==Z .cell)then(n,NameKind.cell)else(n,k)).lookup x=Z .cell
 |[],_,h=>by simp at h| (n,k0)::r,x,h=>by
  have q:=@kl env r x;show Rx x ((if(k0==NameKind.free&&env.scope.kind == .function&&env.kindOf n==Z .cell)=O then(n,NameKind.cell)else(n,k0))::_)=_\/Rx x ((if(k0==NameKind.free&&env.scope.kind == .function&&env.kindOf n==Z .cell)=O then(n,NameKind.cell)else(n,k0))::_)=_;cases hx:x==n with
  |true =>
   simp only[x6,hx]at h;cases h;by_cases g:(NameKind.free==NameKind.free&&env.scope.kind == .function&&env.kindOf n==Z .cell)=O
   ·rw[if_pos g];simp only[x6,hx];exact .inr trivial
   rw[if_neg g];simp only[x6,hx];exact .inl trivial
  |false =>
   simp only[x6,hx]at h;by_cases g:(k0==NameKind.free&&env.scope.kind == .function&&env.kindOf n==Z .cell)=O
   ·rw[if_pos g];simp only[x6,hx];exact q h
   rw[if_neg g];simp only[x6,hx];exact q h
inductive j6(X:Cx)(sc:Scope):Γ->List (Option Nat)->Prop
 |nil:j6 X sc [] []|own{x:Str}{N:Γ}{c:List (Option Nat)}:sc.names.lookup x=Z .local->j6 X sc N c->j6 X sc (x::N) (Y::c)|got{x:Str}{i:Nat}{N:Γ}{c:List (Option Nat)}:X.N[i]?=Z x->sc.names.lookup x=Z .free->(X.env.kindOf x=Z .cell\/X.env.kindOf x=Z .free)->j6 X sc N c->j6 X sc (x::N) (Z i::c)
def jW(c:List (Option Nat))(σ:St):St:=c.map λo=>o.bind λ(i:Nat)=>(σ[i]?).join
variable{X:Cx}{sc:Scope}{N:Γ}
def j6.len{c:List (Option Nat)}{σ:St}(h:j6 X sc N c):(jW c σ).length=N.length:=by unfold jW;rw[e7];induction h with|nil=>rfl|own _ _ g=>simp[g]|got _ _ _ _ g=>simp[g]
theorem j6.at{X:Cx}{sc:Scope}{N:Γ}{c:List (Option Nat)}{σ:St}(h:j6 X sc N c):∀{j:Nat}{x:Str}{v:V},N[j]?=Z x->(jW c σ)[j]?=Z (Z v) ->
  ∃i:Nat,X.N[i]?=Z x/\σ[i]?=Z (Z v)/\sc.names.lookup x=Z .free/\(X.env.kindOf x=Z .cell\/X.env.kindOf x=Z .free):=by
 induction h with
 |nil=>intro j x v h1;simp at h1
 |own _ _ z =>
  intro j x v h1 h2;cases j with|zero=>simp[jW]at h2|succ j=>exact z (h1:) (by simpa [jW]using h2)
 |@got y i N c g1 g2 g3 _ z =>
  intro j x v h1 h2;cases j with
  |zero =>
   have e:=(h1:);subst e;refine(i,g1,?_,g2,g3);have g:=by simpa [jW]using h2
   cases q:σ[i]? with
   |none=>rw[q]at g;cases g
   |some o =>rw[q]at g;have:o=Z v:=g;rw[this]
  |succ j=>exact z (h1:) (by simpa [jW]using h2)
def blk(X:Cx)(N':Γ)(sc:Scope)(cl:List (Str×J))(C:J)(s₂:ϋ)(H₂:Hp)(fp:Θ):Cx:=
 {X with N:=N',s₀:=s₂,bi:=H₂,env:=compEnvC sc cl C X.env,outer:=X.stack,ex:=fp,fn:=λ_=>ϊ,pn:=[],xe:=λ_ _=>False}
def PTs(X:Cx)(ifs:List Do)(t:TT):Prop:=
 ∀(gd:Ξ)(s:ϋ)(σ:St)(H:Hp)(Q:Bool->Hp->Prop),Inv X gd σ H s->t σ H Q ->
  Zc X (forIn ifs O λc r=>if r=O then do let ok <- isTrue c X.env (eval c X.env);pure (ForInStep.yield ok)else pure (ForInStep.yield r)) (TP X gd σ Q) X.xe s
def sD:TT:=λ_ H Q=>Q O H
def uE:PTs X [] sD:=λ_ _ _ H _ I h=>wpAny_tests_nil (H,I,h)
def Ai{c:Do}{t:TT}(h:PT X c t):PTs X [c] t:=λgd s σ H Q I q=>wpAny_tests_one (h gd s σ H Q I q)
def KL(g:TG)(tst:TT)(te:TE)(aN:St)(Q:VK)(TN:It)(H1:Hp):Prop:=
 ∃W:Nat->Nat->Ω->St->Hp->Prop,(∃m,W 0 m [] aN H1)/\∀i m ys z H',W i m ys z H' ->
  (TN.stop i H'/\ys.length<=p6/\∀D,H' D=Y->Q (.ref D) (upd H' D (.lst ys))) \/
  (TN.go i H'/\ys.length<p6/\∃N:Ω->St->Hp->Prop,(∀K q P,N K q P->∃m',m'<m/\W (i+1) m' K q P)/\∀x P,TN.yld i H' x P->g x z P λq H3=>tst q H3 λb H4 =>
if b=O then te q H4 λy H5=>N (ys++[y]) q H5 else N ys q H4)
def mX(cap:List (Option Nat))(wi:TI)(g:TG)(tst:TT)(te:TE):TE:=λσ H Q=>wi σ H (KL g tst te (jW cap σ) Q)
variable{prog:Da}{A:Db}{R:Result->ϋ->Prop}{elt:Do}{iter:Do}{ifs:List Do}
def Cq{w:Cl}{s:ϋ}{target:Do}{pos:Pos}{it acc:B}(I:Nat->ϋ->Prop)
  (turn:∀n s,I n s->wpAny (model prog w) A (pyNext it) (λr z=>match r with
|none=>R (.ok .next) z
|some v=>wpAny (model prog w) A (letOwnedTupleGo target it v) (λ_ q=>wpAny (model prog w) A (assign target env v) (λ_ s₂ =>
wpAny (model prog w) A (forIn ifs O λc r=>if r=O then do let ok <- isTrue c env (eval c env);pure (ForInStep.yield ok)else pure (ForInStep.yield r)) (λok g =>
if ok=O then wpAny (model prog w) A (eval elt env) (λx P =>
wpAny (model prog w) A (call (.builtin "list.append") [acc,x]) (λ_ K=>∃m,m<n/\I m K) (λ_ _=>False) P) (λ_ _=>False) g
else ∃m,m<n/\I m g) (λ_ _=>False) s₂) (λ_ _=>False) q) (λ_ _=>False) z) (λ_ _=>False) s)
  (n:Nat) (h:I n s):
  codeAny (model prog w) A (.compLoop (.ListComp elt [(target,iter,ifs,0)] scope pos) 0 it acc env) R s:=by
 refine codeAny_loop U I (λn s hI=>?_) n h;show wpAny _ A ((compTurn (.ListComp elt [(target,iter,ifs,0)] scope pos) 0 it acc env).onRaise (λx=>do noteFrame x env;theTreesLotGoes x)) _ _ s;refine wpAny_noted ?_;rw[compTurn_list];refine gV (wpAny_standAt (gV (JZ (turn n s hI) (λr z V=>?_) λ_ _ h'=>h'.elim)));cases r with|none=>exact sr V|some v =>refine gV (JZ V (λ_ q aN=>(gV (JZ aN (λ_ s₂ a0=>gV (JZ a0 (λok g Q=>?_) λ_ _ h'=>h'.elim)) λ_ _ h'=>h'.elim))) λ_ _ h'=>h'.elim);cases ok with|false=>exact sr (U,Q)|true =>exact gV (gV (JZ Q (λx P aT=>gV (JZ aT (λ_ K aP=>sr (sr (U,aP))) λ_ _ h'=>h'.elim)) λ_ _ h'=>h'.elim))
variable{gd:Ξ}{H:Hp}{tg:Do}{N':Γ}{cap:List (Option Nat)}{tst:TT}{te:TE}
def xM{σ:St}{s:ϋ}{Q:VK}{p pos:Pos}{wi:TI}{g:TG}{use:Option (B->Sem Unit)}{Q':Φ}
  (hc:X.calm=O) (hi:PI X tg iter wi) (eV:sc.kind=.function) (dJ:∀y∈sc.names,y.2 ≠ .cell) (eU:∀y∈sc.names,y.2=.local->sc.names.lookup y.1=Z .local)
  (ff:∀y∈sc.names,y.2=.free->X.env.kindOf y.1=Z .cell\/X.env.kindOf y.1=Z .free) (nU:j6 X sc N' cap)
  (P:∀cl C s₂ H₂ fp,PG (blk X N' sc cl C s₂ H₂ fp) tg g/\PTs (blk X N' sc cl C s₂ H₂ fp) ifs tst/\PE (blk X N' sc cl C s₂ H₂ fp) elt te)
  (I:Inv X gd σ H s) (h:mX cap wi g tst te σ H Q)
  (fin:∀D C m H' s',Inv X gd σ H' s'->rj X gd H' C->s'.heap.Ns C m->Q (.ref D) H'->compPost (model X.prog X.w) X.A X.xe use Q' (.ref D) C (.ok .next) s')
  (hs:∀x,foldedSetIterable iter X.env x=pure x):
  Zc X (comprehension (.ListComp elt [(tg,iter,ifs,0)] sc pos) sc X.env p (newList []) ϊ (eval iter X.env) use) Q' X.xe s:=by
 let(cl,O6,xB,O7):=zE (scope:=sc) (env:=X.env) λq hq e=>I.ok.has q.1 (ff q hq e);refine wpAny_comprehension_free U hs O6 eV eU (thn (hi gd s σ H _ I h) λv s1 h1=>thn h1 λdE s2 h2=>?_);let(it,fp,tn,TN,H2,e,I2,T,bc,f2,W,(m0,w0),turn):=h2;subst e;refine RM (wpAny_newFunctionEnv dJ (by intro y hy;simp at hy) (λa0 Jp Fo=>?_) eV);dsimp only at Jp Fo ⊢;generalize cj:s2.heap.push {cls:=.type "list",dict:=Y,data:=.seq ([]:Δ).toArray}=HP at Jp Fo ⊢;have hC:HP.objs.size=s2.heap.objs.size+1:=by rw[<- cj,Gm]
 obtain⟨D,aN⟩:∃D:Nat,s2.heap.objs.size=D:=(_,U);obtain⟨C,dx⟩:∃C:Nat,HP.objs.size=C:=(_,U);rw[aN]at hC;rw[dx]at hC Jp Fo ⊢;rw[aN];have DC:D<C:=hC▸Rn D;have bg:∀{b:Nat}{o:Obj},s2.heap.get? b=Z o->b<D:=λe=>aN▸Kl e;have b0:∀{b:Nat}{o:Obj},s2.heap.get? b=Z o->b<C:=λe=>R3 (bg e) DC;have br:@Ne J D C:=kH DC;have old:∀b o,s2.heap.get? b=Z o->a0.get? b=Z o:=λb o e =>
  Fo.extBut b o (kH (b0 e)) (jo _ (cj▸jo _ e))
 have zA:a0.get? D=Z (([]:Δ).toArray^^^0):=
  Fo.extBut _ _ br (jo _ (by rw[<- cj,<- aN];exact qg _ U))
 have cN:(blk X N' sc cl C s2 H2 fp).Ok:=by
  refine(I.ok.mod,eV,I.ok.glob,I.ok.blt,(by show s2.heap.objs.size<=C;rw[aN];exact x9 DC),λx y c h1 h2=>I.ok.inj x y c (xB x c h1) (xB y c h2),λx hx=>?_,λx c hx=>(nomatch hx),I.ok.hd,I.ok.frames,.inl U,λb P=>?_,
λb o e=>I2.bs b o e,vN I2.ok.bsz I2.sz,λb o e P=>?_,λb P=>?_,I2.stack,I2.i7)
  ·have dd:sc.names.lookup x=Z .free:=by
    obtain hx|hx:=hx
    ·obtain z|z:=fK hx
     ·exact absurd U (dJ _ (PySem.mem_of_lookup z))
     exact z.1
    obtain z|z:=fK hx
    ·exact z
    exact z.1
   exact O7 x (PySem.mem_of_lookup dd)
  ·let(o,ho,_):=T.obj _ _ bc b P;refine(?_,λx c e=>(f2 b P).2.2.2.2.1 x c (xB x c e));show @Ne J b C;exact kH (b0 ho)
  ·let(_,_,_,z,_):=f2 b P;obtain z|z:=z
   ·exact I2.ok.zh b o e z
   exact absurd (u4 (Kl (show X.base.get? b=Z o from e)) (vN I2.ok.bsz z)) (Gj _)
  intro dr;obtain z|z:=ot.mp (I2.lV b dr)
  ·exact(f2 b P).2.1 z
  exact(f2 b P).2.2.1 z
 have nD:H2 D=none:=I2.hok.fresh (by rw[aN];exact oQ _);have c2:=P cl C s2 H2 fp;generalize V:blk X N' sc cl C s2 H2 fp=XB at cN c2;have eP:XB.prog=X.prog:=by rw[<- V];rfl
 have eW:XB.w=X.w:=by rw[<- V];rfl
 have eK:XB.K=X.K:=by rw[<- V];rfl
 have eA:XB.A=X.A:=by rw[<- V];rfl
 have eE:XB.env=compEnvC sc cl C X.env:=by rw[<- V];rfl
 have eX:XB.xe=λ_ _=>False:=by rw[<- V];rfl
 have bz:XB.fs=frs X.stack:=by rw[<- V];rfl
 have cE:XB.ex=fp:=by rw[<- V];rfl
 have eS:XB.s₀=s2:=by rw[<- V];rfl
 have eH:XB.bi=H2:=by rw[<- V];rfl
 have cC:XB.pn=[]:=by rw[<- V];rfl
 have c9:XB.calm=true:=by rw[<- V];exact hc
 have eN:XB.N=N':=by rw[<- V];rfl
 have eL:XB.env.locals=C:=by rw[eE];rfl
 have a3:XB.env.cells=cl:=by rw[eE];rfl
 have QP:∀(x:Str)(c:Nat),cl.lookup x=Z c->c<D:=λx c e=>by
  let(v,z):=I2.cell x c (xB x c e);exact aN▸AW z
 have da:∀(b:Nat),D<=b->b ∉ XB.fs:=λb P z=>by
  rw[bz]at z;let(_,o,ho,_):=I2.stack.mem z;exact Gj _ (u4 (bg ho) P)
 have ct:∀(b:Nat),b∈fp->b<D:=λb P=>by
  let(o,ho,_):=T.obj _ _ bc b P;exact bg ho
 have loop:∀s3:ϋ,s3={s2 with heap:=a0,toks:=s2.toks+([]:List (Str×B)).length} ->
   codeAny (model X.prog X.w) X.A (.compLoop (.ListComp elt [(tg,iter,ifs,0)] sc pos) 0 (.ref it) (.ref D) (compEnvC sc cl C X.env)) (compPost (model X.prog X.w) X.A X.xe use Q' (.ref D) C) s3:=by
  rintro s3 rfl;refine Cq (λn s'=>∃i ys cH H' its k,Inv XB [] cH H' s'/\tn i s'.heap/\(∀b∈fp,H' b=Y)/\H' D=Y/\s'.heap.get? D=Z ((its:Δ).toArray^^^k)/\Vals ys its/\W i n ys cH H') ?_ m0
   (0,[],jW cap σ,H2,[],0,?_,T.keep _ _ _ bc λb P o e=>old b o e,λb P=>(f2 b P).1,nD,zA,.nil,w0)
  ·rintro n s4 ⟨i,ys,aT,H4,its,k,I4,cL,c4,d4,o4,v4,w4⟩;have ck:∀{H':Hp}{pl:Ξ},(∀b∈fp,H' b=Y)->(∀q∈pl,q.1 ∉ fp)->∀b∈fp,rj XB pl H' b:=λ{H' pl} hn dj b P=>by
    refine(hn b P,?_,?_,.inl (by rw[cE];exact P),λx c e=>?_,λq hq=>?_)
    ·rw[eL];exact kH (R3 (ct b P) DC)
    ·rw[bz];intro z;obtain z|z:=ot.mp (I2.lV b z)
     ·exact(f2 b P).2.1 z
     exact(f2 b P).2.2.1 z
    ·rw[a3]at e;exact(f2 b P).2.2.2.2.1 x c (xB x c e)
    rw[cC]at hq;intro z;exact dj q (hq:) (z▸P)
   have pD:∀q ∈ [(Prod.mk D ((its.toArray^^^k):Obj))],q.1 ∉ fp:=λq hq=>by
    have e:q=_:=fy.mp hq;subst e;intro z;exact Gj _ (ct _ z)
   have cF:Inv XB [(D,(its.toArray^^^k))] aT H4 s4:=I4.kz λq hq=>by
    have e:q=_:=fy.mp hq;subst e;refine(o4,d4,?_,da _ (oQ _),λv=>ap);rw[eL];exact br
   have Rj:=cF;rw[<- eA,<- eP,<- eW];obtain⟨stop,hz,qn⟩|⟨go,hz,N,hN,step⟩:=turn i n ys aT H4 w4
   ·rw[<- eP,<- eW,<- eK]at T;refine JZ (T.done XB U U U c9 i _ s4 aT H4 (λ_ _=>False) cF (ck c4 pD) cL stop) (λr s5 (hr,I5)=>?_) λ_ _ z=>z;subst hr;rw[eP,eW,eA];let(o5,n5,_):=I5.pin (D,(its.toArray^^^k)) (rz _ (fy.mpr U));have u5:Un (frs X.stack) fp H2 H4 s2.heap s5.heap:=by have z:=I5.base;rw[bz,cE,eH,eS]at z;exact z
    have dc:∀b o,s2.heap.get? b=Z o->@Ne J b D:=λb o e=>kH (bg e);have ne5:∀b u,H4 b=Z u->b≠D:=λb u e z=>by rw[z,d4]at e;cases e
    have dm:HOk X.prog X.w H4 s5.heap:=by have z:=I5.hok;rw[eP,eW]at z;exact z
    have QD:=fin D C;let(mC,c3,_):=id I5.loc;rw[eL]at c3;have IX:Inv X gd σ (upd H4 D (.lst ys)) s5:=by
     refine I2.xP (s':=s5) (ch:=fp) ?_ (u5.keep,u5.slot,λb o e n hx=>?_,u5.there,λb xs e=>?_,λb o u e=>?_,λb ps e=>?_) ?_ I5.bare λb P=>((f2 b P).2.2.2.1,(f2 b P).2.1,(f2 b P).2.2.2.2.1,(f2 b P).2.2.2.2.2)
     ·have z:=I5.os;rw[eS]at z;exact z
     ·rw[ak (dc b o e)];exact u5.free b o e n hx
     ·have z:=u5.lQ b xs e;rw[ak (ne5 b _ z)];exact z
     ·have z:=u5.iO b o u e;rw[ak (ne5 b _ z)];exact z
     ·let(more,z):=u5.lT b ps e;exact(more,by rw[ak (ne5 b _ z)];exact z)
     intro a o e;by_cases ha:a=D
     ·subst ha;rw[au]at e;cases e;exact(hz,its,k,v4,o5)
     rw[ak ha]at e;exact(dm a o e).cJ (λ_ _ _ q=>q) (λb q=>by rw[ak (ne5 b _ q)];exact q) λb xs q=>by rw[ak (ne5 b _ q)];exact q
    refine QD mC _ s5 IX ?_ c3 (qn D d4);have dz:H4 C=none:=by have z:=I5.free;rw[eL]at z;exact z
    refine(by rw[ak (Ne.symm br)];exact dz,?_,?_,.inr ?_,λx c e=>?_,λq hq=>?_)
    ·have:@LT.lt Nat _ X.env.locals s2.heap.objs.size:=I2.lt;exact OG (R3 (aN▸this) DC)
    ·exact I2.OE (by rw[aN];exact x9 DC)
    ·exact vN I2.sz (by rw[aN];exact x9 DC)
    ·let(v,z):=I2.cell x c e;exact kH (R3 (aN▸AW z) DC)
    exact kH (b0 (I2.pin q hq).1)
   have T':=T;rw[<- eP,<- eW,<- eK]at T';refine JZ (T'.item XB U U U c9 i _ s4 aT H4 (λ_ _=>False) cF (ck c4 pD) cL go) (λr s5 (u,hr,h5)=>?_) λ_ _ z=>z;subst hr;refine thn h5 λ_ s6 aP=>?_;let(x,H6,I6,r6,y6,bR,dA):=aP;have dD:=I6.pinned (ck dA pD) (T.obj _ _ bR);let(dn,dg,dp):=c2;rw[<- eE];have c0:=dn _ s6 aT H6 x u _ dD r6 (step x H6 y6);rw[eX]at c0;refine thn c0 λ_ s7 aP=>?_;let(a5,H7,I7,q7):=aP;have cR:=dg _ s7 a5 H7 _ I7 q7;rw[eX]at cR;refine thn cR λb s8 aP=>?_;let(H8,I8,q8):=aP;have back:∀{cG:St}{H9:Hp}{s9:ϋ},Inv XB ([(D,(its.toArray^^^k))]++pQ fp s6.heap) cG H9 s9->tn (i+1) s9.heap/\(∀b∈fp,H9 b=Y)/\H9 D=Y/\s9.heap.get? D=Z (its.toArray^^^k):=λ{cG H9 s9} I9=>by
    have z:=I9.pin (D,(its.toArray^^^k)) (rz _ (vr _ (fy.mpr U)));refine(T.keep _ _ _ bR λb P o e=>(I9.pin (b,o) (rz _ (rz _ (eI P e)))).1,λb P=>?_,z.2.1,z.1);let(o,e,_):=T.obj _ _ bR b P;exact(I9.pin (b,o) (rz _ (rz _ (eI P e)))).2.1
   cases b with
   |false =>rw[if_neg su]at q8 ⊢;let(m',hm,w8):=hN _ _ _ q8;let(t1,t2,t3,t4):=back I8;exact(m',hm,i+1,ys,a5,H8,its,k,I8.kz (λq hq=>nomatch hq),t1,t2,t3,t4,v4,w8)|true =>
    rw[if_pos rfl]at q8 ⊢;have c1:=dp _ s8 a5 H8 _ I8 q8;rw[eX]at c1;refine thn c1 λyv s9 aP=>?_;let(y,H9,I9,r9,n9):=aP;let(m',hm,w9):=hN _ _ _ n9;let(t1,t2,t3,t4):=back I9;have hsz:its.toArray.size<=p6:=by
     have e:=v4.length;have e2:its.toArray.size=its.length:=by simp
     omega
    refine append_at (hsz:=hsz) t4 λh' cV dt=>?_;refine(m',hm,i+1,ys++[y],a5,H9,its++[yv],k+1,?_,T.keep _ _ _ t1 λb P o e=>cV.extBut b o (kH (ct b P)) e,t2,t3,?_,v4.append (.cons r9 .nil),w9)
    ·refine(I9.kz (pins':=[]) (λq hq=>nomatch hq)).turned (t':=s9.toks) (it:=D) (λb o P e=>cV.extBut b o P e) t3 ?_ (.inr ?_) (λx c e=>?_) λq hq=>?_
     ·rw[eL];exact br
     ·rw[eS,aN];exact oQ _
     ·rw[a3]at e;exact kH (QP x c e)
     rw[cC]at hq;exact nomatch hq
    rw[dt];simp
  
  refine(cN,by rw[eS],I2.bare,by rw[bz,cE,eH,eS];exact Un.kept old,(_,by rw[eL];exact Jp,λj x v h1 h2 h3=>?_),λx c e=>?_,?_,λx c e=>?_,λq hq=>?_,by rw[eP,eW];exact I2.hok.kept old,by rw[eN];exact nU.len)
  ·rw[eN]at h1;let(i,g1,g2,g3,g4):=nU.at h1 h2;let(m,hn,hl):=I2.loc;have hv:Vis X.env.scope x:=by
    obtain z|z:=g4
    ·exact .inr (.inl z)
    exact .inr (.inr z)
   let(u,r,l):=hl i x v g1 g2 hv;refine(u,r,.inr (?_,?_))
   ·rw[eE];exact(kl g3).symm
   obtain⟨hk,_⟩|⟨_,c,e,z⟩:=l
   ·obtain y|y:=g4
    ·rw[y]at hk;cases hk
    rw[y]at hk;cases hk
   let(c',e'):=O7 x (PySem.mem_of_lookup g3);have:=xB x c' e';rw[e]at this;cases this;let(o,ho,hd):=z;exact(c,by rw[a3];exact e',o,old c o ho,hd)
  ·rw[a3]at e;let(v,o,ho,hd):=I2.cell x c (xB x c e);exact(v,o,old c o ho,hd)
  ·rw[eL];exact I2.hok.fresh (by rw[aN];exact x9 DC)
  ·rw[a3]at e;exact I2.df x c (xB x c e)
  rw[cC]at hq;exact nomatch hq
 exact codeAny_compStart_list (loop _ U) (T.self X.A 0 _ _ _ (T.keep _ _ _ bc λb P o e=>old b o e) (loop _ U))
def AG(h:(sc.names.all λy=>y.2 != .free ||(X.env.kindOf y.1==Z .cell||X.env.kindOf y.1==Z .free))=O):
  ∀y∈sc.names,y.2=.free->X.env.kindOf y.1=Z .cell\/X.env.kindOf y.1=Z .free:=λy g e=>by
 have z:=JW.mp h y g;rw[e]at z;simpa using z
def Am{pos:Pos}{wi:TI}{g:TG}
  (hc:X.calm=O) (hi:PI X tg iter wi) (V:j6 X sc N' cap)
  (P:∀cl C s₂ H₂ fp,PG (blk X N' sc cl C s₂ H₂ fp) tg g/\PTs (blk X N' sc cl C s₂ H₂ fp) ifs tst/\PE (blk X N' sc cl C s₂ H₂ fp) elt te)
  (eV:‹sc.kind=.function›) (dJ:autoParam (∀y∈sc.names,y.2 ≠ .cell) zdc._auto_1) (eU:autoParam (∀y∈sc.names,y.2=.local->sc.names.lookup y.1=Z .local) zdc._auto_1)
  (ff:‹(sc.names.all λy=>y.2 != .free ||(X.env.kindOf y.1==Z .cell||X.env.kindOf y.1==Z .free))=true›)
  (hs:∀x,foldedSetIterable iter X.env x=pure x:=by intro _;rfl):PE X (.ListComp elt [(tg,iter,ifs,0)] sc pos) (mX cap wi g tst te):=by
 left;exact xM hc hi eV dJ eU (AG ff) V P I h (λD C m H' s' I' z hn q=>((m,hn,λh' K=>(.ref D,H',(I'.turned (λb o P e=>K.extBut b o P e) z.1 z.2.1.symm.symm z.2.2.2.1 z.2.2.2.2.1 z.2.2.2.2.2),U,q)))) hs
variable{dF:Pos}{py:Pos}
def uF{i:Nat}{y:Str}{pos:Pos}{wi:TI}{g:TG}
  (hN:X.N.Nodup) (aN:X.N[i]?=Z y) (hy:Loc X.env.scope y)
  (hc:X.calm=O) (hi:PI X tg iter wi) (nU:j6 X sc N' cap)
  (K:∀cl C s₂ H₂ fp,PG (blk X N' sc cl C s₂ H₂ fp) tg g/\PTs (blk X N' sc cl C s₂ H₂ fp) ifs tst/\PE (blk X N' sc cl C s₂ H₂ fp) elt te)
  (Q:‹swapsWith (.ListComp elt [(tg,iter,ifs,0)] sc pos) (Z (.Name y py)) dF.line X.env=pure true›)
  (hf:AT X y:=by first|exact .inl rfl|exact .inr rfl|assumption)
  (eV:‹sc.kind=.function›) (dJ:autoParam (∀y∈sc.names,y.2 ≠ .cell) zdc._auto_1) (eU:autoParam (∀y∈sc.names,y.2=.local->sc.names.lookup y.1=Z .local) zdc._auto_1)
  (ff:‹(sc.names.all λy=>y.2 != .free ||(X.env.kindOf y.1==Z .cell||X.env.kindOf y.1==Z .free))=true›)
  (hs:∀x,foldedSetIterable iter X.env x=pure x:=by intro _;rfl):PS X (.Assign [.Name y py] (.ListComp elt [(tg,iter,ifs,0)] sc pos) dF) (fV (mX cap wi g tst te) (cU i)):=by
 intro gd s σ H Dn I h;rw[exec_Assign_Name_used _ _ _ _ Q];refine gV (wpAny_standAt (gV ?_));refine gV (JZ (xM hc hi eV dJ eU (AG ff) nU K I h (λD C m H' s' I' P hn q=>?_) hs)
(λ_ s' hq=>sr (sr hq)) λ_ _ e=>e)
 let(o,es,ep,ho,hd,hr):=id hn;have I2:=I'.pinned (λb K=>by rw[fy.mp K];exact P) λb K=>by
  rw[fy.mp K];exact(o,ho,λv=>by rw[hd];simp)
 refine wpAny_assign_Name (fW I2 hN aN hy (v:=.ref D) U (λs2 I3=>?_) hf);have z:=(I3.pin (C,o) (rz _ (rz _ (eI (fy.mpr U) ho)))).1;exact(m,(o,es,ep,z,hd,hr),λh' V=>(_,H',(I3.j8.turned (λb o K e=>V.extBut b o K e) P.1 P.2.1 P.2.2.2.1 P.2.2.2.2.1 P.2.2.2.2.2),q))
variable{a:J}{xs:Ω}
section
theorem sZ{K:BT}{g:TG}{σ:St}{Q:VK}(Pv:Nat->Ω->St->Hp->Prop)(h0:Pv 0 [] σ H)
  (hl:∀i ys σ H,i<=xs.length->Pv i ys σ H->SqL K H a xs/\ys.length<p6)
  (hs:∀i x ys σ H,xs[i]?=Z x->Pv i ys σ H->g x σ H λz H3=>tst z H3 λb H4=>if b=O then te z H4 λy H5=>Pv (i+1) (ys++[y]) z H5 else Pv (i+1) ys z H4)
  (hd:∀ys σ H,Pv xs.length ys σ H->∀D,H D=Y->Q (.ref D) (upd H D (.lst ys))):
  KL g tst te σ Q (Itl K a) H:=by
 refine(λi m ys σ H=>m=xs.length-i/\i<=xs.length/\Pv i ys σ H,(xs.length,ap,Rm _,h0),?_);rintro i m ys σ H ⟨rfl,hi,p⟩;let(q,hz):=hl i ys σ H hi p;by_cases P:i<xs.length
 ·refine .inr ((xs,xs[i],q,by simp[P]),hz,Pv (i+1),λaP aN H' p'=>(xs.length-(i+1),bd,U,P,p'),λx H' y=>?_);let(e,y):=y;subst e;exact hs i x ys σ _ (y xs q) p
 have e:i=xs.length:=bd;subst e;exact .inl ((xs,q,oQ _),x9 hz,hd ys σ H p)
inductive NW(x:V)(lo:Option Int)(hi:Option Int)(H:Hp)(Q:VK):Prop
 |mk(z:_)(h1:x=.str z)(h2:z.length<=p6)(h3:Q (.str (Txt.slice z lo hi)) H)
def Lb:SlR X NW:=by
 intro gd s σ H x v vl vu lo hi sl Q I V hs pl pu h;let(z,U,g,q):=h;let(t,U):=V;refine("str",_,PySem.F.slot_str_getitem.lookup,typeIs_str s z t,?_);let(o,h1,h2,h3):=hs;have fin:∀y t' k,y=Txt.slice z lo hi->EP X gd σ Q (.str y t') {s with toks:=k}:=λy t' k e=>by subst e;exact(.str _,H,I.tok k,(_,U),q)
 cases pl with
 |none =>
  cases pu with|none=>exact wpAny_getItem_str_slice (l:=Y) (u:=Y) (st:=Y) (o,h1,h2,h3) U (post_val_or_str (vN (Txt.slice_le z _ _) g,λt' k=>fin _ t' k U))|int j K=>exact wpAny_getItem_str_slice (l:=Y) (u:=Z (j,K)) (st:=Y) (o,h1,h2,h3) U (post_val_or_str (vN (Txt.slice_le z _ _) g,λt' k=>fin _ t' k U))
 |int i P =>cases pu with|none=>exact wpAny_getItem_str_slice (l:=Z (i,P)) (u:=Y) (st:=Y) (o,h1,h2,h3) U (post_val_or_str (vN (Txt.slice_le z _ _) g,λt' k=>fin _ t' k U))|int j K=>exact wpAny_getItem_str_slice (l:=Z (i,P)) (u:=Z (j,K)) (st:=Y) (o,h1,h2,h3) U (post_val_or_str (vN (Txt.slice_le z _ _) g,λt' k=>fin _ t' k U))
def yr{ys:Γ}:∀{us:Δ},Vals (ys.map V.str) us->StrsAre us ys:=by
 induction ys with
 |nil=>intro us r;cases r;exact .nil
 |cons n ns z =>intro us r;cases r with|cons q g =>let(t,e):=q;subst e;exact .cons n t (z g)
inductive rJoin(K:BT)(x:V)(xs:Ω)(H:Hp)(Q:VK):Prop
 |mk(sep l ys:_)(h1:x=.str sep)(h2:xs=[.ref l])(h3:SqL K H l (ys.map V.str))(h4:(ys.map (·.length)).sum+ys.length*sep.length<=16777216)(h5:Q (.str (Txt.join sep ys)) H)
def IV:MtR X "str.join" (rJoin X.K):=by intro gd s σ H x xs v us Q I g rs h;let(sep,l,ys,U,U,hl,hw,q):=h;let(t,U):=g;let(u,U,ru):=Vals.one rs;cases ru;let(its,r,pl,z):=I.list hl;exact join_list pl.isList (yr r:) hw λt' k=>(.str _,H,I.tok k,(_,U),q)
end
variable{I:J}{fp:Θ}{n:Nat}{ty:String}{Q:Φ}
section
variable{w:Cl}{E:Φ}{s:ϋ}
def BV:typeLookup (.type "list_reverseiterator") "__len__"=pure none:=bv
def Ft:typeLookup (.type "list_reverseiterator") "__length_hint__"=pure (Z (.builtin "list_reverseiterator.__length_hint__")):=bv
def E8{Q:Bool->ϋ->Prop}(hT:s.TypeIs (.ref I) "list_reverseiterator")(z:∀b tk,s.toks<=tk->Q b {s with toks:=tk}):wpAny (model prog w) A (Builtin.List.listLengthHint (.ref I)) Q E s:=by
 refine gV (Sm hT BV (gV (Sm hT Ft ?_)));generalize g:("list_reverseiterator.__length_hint__")=q
 wp_delta
 rw[show splitId q=Z ("list_reverseiterator","__length_hint__")from by subst g;decide +kernel];subst g;exact gV (Se (b:=O) hT bv (sr (z _ _ (oQ _))))
theorem xE{R:Result->ϋ->Prop}{wr:Θ}{P:Nat->B->Prop}{St:Nat->Dd->Prop}(W:Walks prog w A.in1 I fp wr n P St)(hT:∀i (s:ϋ),St i s.heap->s.TypeIs (.ref I) ty)
  (a3:(B.type ty == .type "list" || Value.type ty == .type "tuple")=ϊ) (a0:∀x ∈ ["set","frozenset","dict","dict_keys","dict_values","dict_items"],(B.type ty == .type x)=ϊ)
  (hint:∀(s:ϋ)(Q:Bool->ϋ->Prop)(E:Φ),St 0 s.heap->(∀b tk,s.toks<=tk->Q b {s with toks:=tk})->wpAny (model prog w) A.in1 (Builtin.List.listLengthHint (.ref I)) Q E s)
  (S:J) (res:B) (c₀:Nat) (q:St 0 s.heap) (aN:S ∉ fp) (hI:I∈fp) (hS:s.heap.get? S=Z (#[]^^^c₀))
  (hR:∀s' nV K,Moved (S::wr) (λg g'=>g'=g) s s'->s'.heap.get? S=Z {cls:=.type "list",dict:=Y,data:=.seq nV K,slots:=#[]}->ItemsOf P nV n->R (.ok (.ret res)) s') (hn:n<=p6):
  wpAny (model prog w) A.in1 (Builtin.List.listExtendWith (.ref S) (.ref I) res)
   (λfin s'=>match fin with|.done f=>R (.ok f) s' |.again K=>K.quiet=O/\codeAny (model prog w) A K R s') (λe s'=>R (.error e) s') s:=by
 have a5:S≠I:=λe=>aN (e▸hI);have h1:Builtin.List.listSameRef (.ref S) (.ref I)=false:=by simp[Builtin.List.listSameRef,a5]
 refine gV (RF (hT 0 _ q) ?_);rw[if_neg (by rw[Bool.or_assoc,h1,a3];decide)];refine gV (W.self 0 _ _ _ q (gV (RA (hint _ _ _ q λb tk aP=>?_))));have tail:∀h' V c,s.toks<=V->(∀b o,b≠S->s.heap.get? b=Z o->h'.get? b=Z o)->h'.get? S=Z {cls:=.type "list",dict:=Y,data:=.seq #[] c,slots:=#[]} ->
   wpAny (model prog w) A.in1 (again (.builtin "list.extend.loop" ([.ref S,.ref I,res],[]))) (λfin s'=>match fin with|.done f=>R (.ok f) s' |.again K=>K.quiet=O/\codeAny (model prog w) A K R s') (λe s'=>R (.error e) s') {s with heap:=h',toks:=V}:=by
  intro h' V c ht hk bg;exact sr (SJ F.plain_extend_loop _,codeAny_extend_loopS W.toS hn _ aN _ n 0 _ _ _ U (Rm _) (W.frame 0 s.heap _ q λb hb o e=>hk b o (λz=>aN (z▸hb)) e) bg (ItemsOf.nil P) λs' nV K hm Jt zA=>hR s' nV K (λb o hb e=>hm.heap b o hb (hk b o (λz=>hb (by rw[z];exact iY)) e),hm.gens,hm.drawn,hm.os,vN ht hm.toks) Jt zA)
 cases b with
 |false =>
  rw[if_neg ?_]
  ·exact tail _ _ _ aP (λ_ _ _ e=>e) hS
  intro z;rw[S5,RB]at z;let(x,hx,hz):=z;rw[a0 x hx]at hz;cases hz
 |true =>refine gV (RP (gV ?_));refine gV (SV hS U ?_);have aT:=JX (RV (·.push B.none)) hS U;refine SV aT U ?_;have bc:=JX (RV (·.pop)) aT U;exact tail _ _ _ aP (λb o hb e=>(Fs _ _ (Ne.symm hb)).trans ((Fs _ _ (Ne.symm hb)).trans e)) bc
theorem qR{wr:Θ}{P:Nat->B->Prop}{St:Nat->Dd->Prop}(W:Walks prog w A.in1.in1 I fp wr n P St)(hT:∀i (s:ϋ),St i s.heap->s.TypeIs (.ref I) ty)
  (aT:(B.type ty == .type "list" || Value.type ty == .type "tuple")=ϊ) (aP:∀x ∈ ["set","frozenset","dict","dict_keys","dict_values","dict_items"],(B.type ty == .type x)=ϊ)
  (hint:∀(s:ϋ)(Q:Bool->ϋ->Prop)(E:Φ),St 0 s.heap->(∀b tk,s.toks<=tk->Q b {s with toks:=tk})->wpAny (model prog w) A.in1.in1 (Builtin.List.listLengthHint (.ref I)) Q E s)
  (a0:St 0 s.heap) (a3:∀b∈fp,b<s.heap.objs.size) (hI:I∈fp)
  (hQ:∀s' nV c',Moved (s.heap.objs.size::wr) (λg g'=>g'=g) {s with heap:=s.heap.push (~~~#[])} s' ->
s'.heap.get? s.heap.objs.size=Z {cls:=.type "list",dict:=Y,data:=.seq nV c',slots:=#[]}->ItemsOf P nV n->Q (.ref s.heap.objs.size) s') (hn:n<=p6):
  wpAny (model prog w) A (call (.type "list") [.ref I]) Q E s:=by
 have aN:=λhm=>Gj _ (a3 _ hm);refine callType_codes (Q₁:=λobj q=>obj=.ref s.heap.objs.size/\q={s with heap:=s.heap.push (~~~#[])}) F.called_list (F.typeCall_list_1 _) F.entry_list_init (code_list_new _ (U,U)) λobj q V=>?_;let(U,U):=V;have hS:(s.heap.push (~~~#[])).get? s.heap.objs.size=Z (~~~#[]):=qg _ U;refine((_,hS,U),F.args_list_init_2 _ _,(gV (gV (wpAny_seqItems hS U (sr (gV (SV hS U ?_)))))));have a5:=JX (RV (λ_=>(#[]))) hS U;have oth:∀b o,b≠s.heap.objs.size->(s.heap.push (~~~#[])).get? b=Z o->((s.heap.push (~~~#[])).update s.heap.objs.size (RV (λ_=>(#[])))).get? b=Z o:=
  λb o K e=>(Fs _ _ (Ne.symm K)).trans e
 exact xE (hn:=hn) W hT aT aP hint s.heap.objs.size .none _ (W.frame 0 s.heap _ a0 λb K o e=>oth b o (λz=>aN (z▸K)) (jo _ e)) aN hI a5 λs' nV c' hm bc zA=>((U,hQ s' nV c' (λb o K e=>hm.heap b o K (oth b o (λz=>K (by rw[z];exact iY)) e),hm.gens,hm.drawn,hm.os,hm.toks) bc zA))
end
def oV(K:BT)(te:TE):TE:=λσ H Q=>te σ H λx H1=>∃l ys,x=.ref l/\SqL K H1 l ys/\∀q,H1 q=Y->Q (.ref q) (upd H1 q (.lst ys.reverse))
variable{ys:Ω}
def CM{its:Array B}{acc:Array B}(r:Vals ys its.toList)(h:ItemsOf (λi v=>its[its.size-1-i]?=Z v) acc its.size):Vals ys.reverse acc.toList:=by
 have e:acc.toList=its.toList.reverse:=by
  apply SG;intro i;by_cases hi:i<its.size
  ·have h1:i<acc.size:=by rw[h.1];exact hi
   have h2:=h.2 i acc[i] (by simp[h1]);rw[R8 (hi:)];simp only[RQ,SW];rw[h2];simp[h1]
  have h1:¬ i<acc.size:=by rw[h.1];exact hi
  rw[Rt (h1:),Rt (hi:)]
 rw[e];exact Vals.reverse r
def B1{σ:St}{s:ϋ}{Q:VK}{ob:Obj}{l:J}{tk:Nat}{P:Nat->B->Prop}{St:Nat->Dd->Prop}{ys:Ω}(I:Inv X gd σ H s)(aT:l<s.heap.objs.size)(W:Walks X.prog X.w X.A.in1.in1 s.heap.objs.size [s.heap.objs.size,l] [s.heap.objs.size] n P St)(hT:∀i (s':ϋ),St i s'.heap->s'.TypeIs (.ref s.heap.objs.size) ty)
  (aN:(B.type ty == .type "list" || Value.type ty == .type "tuple")=ϊ) (K:∀x ∈ ["set","frozenset","dict","dict_keys","dict_values","dict_items"],(B.type ty == .type x)=ϊ)
  (hint:∀(s':ϋ)(Q:Bool->ϋ->Prop)(E:Φ),St 0 s'.heap->(∀b tk,s'.toks<=tk->Q b {s' with toks:=tk})->wpAny (model X.prog X.w) X.A.in1.in1 (Builtin.List.listLengthHint (.ref s.heap.objs.size)) Q E s')
  (aP:St 0 (s.heap.push ob)) (hv:∀acc,ItemsOf P acc n->Vals ys acc.toList) (hz:ys.length<=p6) (hn:n<=p6) (q:∀p,H p=Y->Q (.ref p) (upd H p (.lst ys))):
  Zc X (call (.type "list") [.ref s.heap.objs.size]) (EP X gd σ Q) X.xe {s with heap:=s.heap.push ob,toks:=tk}:=by
 refine qR W hT aN K hint aP (λb g=>?_) ap (λs' nV c' hm a0 zA=>?_) hn
 ·rw[Gm];obtain z|z:=ot.mp g
  ·rw[z];exact Rn _
  rw[fy.mp z];exact Nat.lt_succ_of_lt aT
 rw[Moved.eq_with hm];have kp:=λb o e=>hm.heap b o (λz=>by
  have g:=rg e;obtain z|z:=ot.mp z
  ·rw[z]at g;simp only[Gm]at g;lia
  rw[fy.mp z]at g;lia) (jo _ (jo _ e))
 have hf:H ((s.heap.push ob).objs.size)=none:=I.hok.fresh (by rw[Gm];lia);exact(.ref _,_,I.laid (o:=.lst ys) kp (by rw[Gm];lia) (hz,nV.toList,c',hv nV zA,(a0:)),U,q _ hf)
variable{e:Do}
def pT{p1 p2 f7 pos:Pos}(hc:X.calm=O)(aT:Gl X "list")(aN:X.mg "list"=Y)(aP:Gl X "reversed")(V:X.mg "reversed"=Y)(he:PE X e te)
  (g:‹AD X e›) (P:‹nY [.Call (.Name "reversed" p2) [e] [] f7] X.env=[(ϊ,eval (.Call (.Name "reversed" p2) [e] [] f7) X.env)]›):
  PE X (.Call (.Name "list" p1) [.Call (.Name "reversed" p2) [e] [] f7] [] pos) (oV X.K te):=by
 left;refine KY (gN I aT aN boot_list (PyProof.Rows.callWith_type1 ?_ P U));show wpAny _ _ (spliced ((ϊ,eval (.Call (.Name "reversed" p2) [e] [] f7) X.env)::backTo pos (nY [] X.env))) _ _ s;refine Calls.spliced_cons (KY (gN I aP V boot_reversed (PyProof.Rows.callWith_type1 ?_ g U)));rw[g];refine Calls.spliced_cons (thn (he gd s σ H _ I h) λu s1 a0=>?_);let(x,H1,I1,r1,l,ys,ex,hl,q):=a0;subst ex;cases r1;refine Calls.spliced_nil ?_;let(its,rv,pl,hz):=I1.list hl;have z:l<s1.heap.objs.size:=by let(_,e,_):=pl.isList;exact rg e
 refine call_reversed_list pl.isList (Calls.spliced_nil ?_);have W:=Walks.listRev (prog:=X.prog) (w:=X.w) (A:=X.A.in1.in1) (I.ok.hd hc) s1.heap.objs.size l (x8 z) its.toArray;exact B1 I1 z W (λi s' st=>st.2.1.typeIs) am am (λs' Q' E' st hq=>E8 st.2.1.typeIs hq) (Rm _,(_,qg _ U,U,by simp[revObj]),pl.isList.push _) (λacc h=>CM (rv:) h) (by rw[Fx];exact hz) (by rw[ti,<- rv.length];exact hz) q
section
def GG(_ j:Int):Prop:=0<j/\j<18446744073709551616
def wW:OpR X (binaryOp .FloorDiv) (rI GG λi j=>.int (i / j)):=opI λi j _ _ _ _ _ g q=>by
 let(h1,h2):=g;have e:i.fdiv j=i / j:=Int.fdiv_eq_ediv_of_nonneg _ bd;refine floordiv_int bd (by rw[e];exact q) (.inl (PyProof.noPylong_of_log2 ?_));have h3:j.natAbs<2 ^ 64:=bd;have h4:j.natAbs≠0:=bd;exact R3 ((Nat.log2_lt h4).mpr h3) am
end
def dk(s n:Int)(l:J):ό:=[(.inr "seed",.int s),(.inr "number",.int n),(.inr "left",.ref l)]
def Ck{s n:Int}{l:J}:e9 (dk s n l) (.inr "number":Key)=Z (.int n):=bv
def Jy{s n:Int}{l:J}:e9 (dk s n l) (.inr "left":Key)=Z (.ref l):=bv
variable{m:Int}
def yU{s n:Int}{l:J}:putK (dk s n l) (.inr "number":Key) (.int m)=dk s m l:=bv
def Eb{s n:Int}{l:J}:putK (dk s n l) (.inr "seed":Key) (.int m)=dk m n l:=bv
structure cx(H:Hp)(d l:J)(s n:Int)(ls:Ψ):Prop where
 hd:H d=Z (.dK (dk s n l))
 hl:H l=Z (.lst (ls.map V.int))
 s0:0<=s
 s1:s<2147483647
 n0:0<=n
 l0:∀x∈ls,0<=x
def lI(H:Hp)(d l:J):Prop:=∃s n ls,cx H d l s n ls
def Kp(d l:J)(H H':Hp):Prop:=∀b o,H b=Z o->b≠d->b≠l->H' b=Z o
variable{d:J}
def Kp.refl{l:J}:Kp d l H H:=λ_ _ h _ _=>h
variable{ls:Ψ}
def cx.ne{l:J}{s n:Int}(D:cx H d l s n ls):d≠l:=iI D.hd D.hl (by intro z;cases z)
def cx.num{l:J}{s n:Int}(D:cx H d l s n ls)(h:0<=m):cx (upd H d (.dK (putK (dk s n l) (.inr "number":Key) (.int m)))) d l s m ls:=
 (by rw[au,yU],by rw[ak D.ne.symm];exact D.hl,D.s0,D.s1,h,D.l0)
def cx.PR{l:J}{s n:Int}(D:cx H d l s n ls)(h:0<=m)(h2:m<2147483647):cx (upd H d (.dK (putK (dk s n l) (.inr "seed":Key) (.int m)))) d l m n ls:=
 (by rw[au,Eb],by rw[ak D.ne.symm];exact D.hl,h,h2,D.n0,D.l0)
def cx.list{l:J}{s n:Int}{ls':Ψ}(D:cx H d l s n ls)(h:∀x∈ls',0<=x):cx (upd H l (.lst (ls'.map V.int))) d l s n ls':=
 (by rw[ak D.ne];exact D.hd,au,D.s0,D.s1,D.n0,h)
variable{H1:Hp}
def Kp.KQ{l:J}{o:HO}(a:Kp d l H H1):Kp d l H (upd H1 d o):=λc u h h1 h2=>by rw[ak h1];exact a c u h h1 h2
def Kp.PK{l:J}{o:HO}(a:Kp d l H H1):Kp d l H (upd H1 l o):=λc u h h1 h2=>by rw[ak h2];exact a c u h h1 h2
def jY.new{p:J}{o:HO}(a:jY H H1)(hp:H1 p=Y):jY H (upd H1 p o):=λc u h=>by
 have z:=a c u h;rw[ak (aI z hp)];exact z
def lI.new{l p:J}{o:HO}(D:lI H d l)(hp:H p=Y):lI (upd H p o) d l:=by let(s,n,ls,D):=D;exact(s,n,ls,by rw[ak (aI D.hd hp)];exact D.hd,by rw[ak (aI D.hl hp)];exact D.hl,D.s0,D.s1,D.n0,D.l0)
inductive C3(vs:Ω)(H:Hp)(Q:VK)(_:XK):Prop
 |mk(d l:J)(m:Int)(h1:vs=[.ref d,.int m])(h2:lI H d l)(h3:0<m)(h4:m<18446744073709551616)(h5:∀(r:Int)(H':Hp),0<=r->r<m->lI H' d l->Kp d l H H'->Q (.int r) H')
inductive K9(K:BT)(vs:Ω)(H:Hp)(Q:VK)(_:XK):Prop
 |mk(a:J)(ns:Ψ)(b:Int)(h1:vs=[.ref a,.int b])(h2:SqL K H a (ns.map V.int))(h3:ns.length<=63)(h4:0<=b)(h5:b<=63)(h6:∀(d l:J)(H':Hp),H d=Y->H l=Y->lI H' d l->jY H H'->Q (.ref d) H')
variable{D:Ends}
def Bj{c:TT}{tb:TS}{σ:St}(I:Nat->St->Hp->Prop){m:Nat}(h0:I m σ H)(q:∀m σ H,I m σ H->D.nx σ H)
  (hs:∀m σ H,I m σ H->D.nx σ H->c σ H λb H1=>if b=O then ∃N:St->Hp->Prop,(∀g H',N g H'->∃m',m'<m/\I m' g H')/\tb {D with nx:=N,ct:=N,bk:=D.nx} σ H1 else D.nx σ H1):yo c tb D σ H:=
 (I,(m,h0),λm σ H h=>hs m σ H h (q m σ H h))
def cx.FC{l:J}{s n:Int}(D:cx H d l s n ls):gp H d (.str "seed") (Z (.int s)):=by have z:=gp.k (k:=(Sum.inr "seed")) D.hd;exact z
def cx.Pc{l:J}{s n:Int}(D:cx H d l s n ls):gp H d (.str "number") (Z (.int n)):=by have z:=gp.k (k:=(Sum.inr "number")) D.hd;rw[Ck]at z;exact z
def cx.Kw{l:J}{s n:Int}(D:cx H d l s n ls):gp H d (.str "left") (Z (.ref l)):=by have z:=gp.k (k:=(Sum.inr "left")) D.hd;rw[Jy]at z;exact z
def cx.Ou{l:J}{s n:Int}(D:cx H d l s n ls):vQ H d (.str "number") (.int m) (upd H d (.dK (putK (dk s n l) (.inr "number":Key) (.int m)))):=
 vQ.k (k:=(Sum.inr "number")) D.hd (aE (by show 3<=1000;decide))
def cx.Oq{l:J}{s n:Int}(D:cx H d l s n ls):vQ H d (.str "seed") (.int m) (upd H d (.dK (putK (dk s n l) (.inr "seed":Key) (.int m)))):=
 vQ.k (k:=(Sum.inr "seed")) D.hd (aE (by show 3<=1000;decide))
def mod_lt{x:Int}(h:0<m):0<=x % m/\x % m<m:=(Int.emod_nonneg _ bd,Int.emod_lt_of_pos _ h)
end L2
namespace L2
def F5(ns:Ψ)(lo hi:Option Int):∃cs:Ψ,k6 (ns.map V.int) lo hi=cs.map V.int/\cs.length<=ns.length:=by
 refine((ns.drop (HT.sIx ns.length 0 lo)).take (HT.sIx ns.length ns.length hi-HT.sIx ns.length 0 lo),?_,?_)
 ·unfold k6;rw[e7,<- RI,<- Lh]
 rw[vM,yb];exact vN (SM _ _) (Tz _ _)
def int_at{ns:Ψ}{i:Nat}{x:V}(h:(ns.map V.int)[i]?=Z x):∃z,x=.int z:=by
 rw[kf]at h;cases e:ns[i]? with
 |none=>rw[e]at h;cases h
 |some z=>rw[e]at h;exact(z,(Option.some.inj h).symm)
def Jl{ns:Ψ}{i:Nat}{x:V}(h:(ns.map V.int)[i]?=Z x):∃z,x=.int z/\z∈ns:=by
 rw[kf]at h;cases e:ns[i]? with
 |none=>rw[e]at h;cases h
 |some z=>rw[e]at h;exact(z,(Option.some.inj h).symm,nZ e)
open PySem
def Nb{α:Type}{xs:List α}{i:Int}(h0:0<=i)(h1:i<xs.length):∃v,atI xs i=Z v/\v∈xs:=by obtain⟨n,rfl⟩:∃n:Nat,i=n:=(i.toNat,bd);have h2:n<xs.length:=bd;refine(xs[n],?_,Qj h2);unfold atI ixN;simp[h2]
variable{n:Nat}
def bw(h:n<=10000):n<=p6:=by have:(10000)<=p6:=am;lia
end L2
namespace L2
open PySem PySem.Spec PyProof.Rows
def strOf:Do->Option Str
 |.Constant (.str x) _ _=>Z x|_=>Y
def strsOf:List Do->Option (Γ)
 |[]=>Z []|e::r=>(strOf e).bind λx=>(strsOf r).map (x :: ·)
variable{e:Do}{x:Str}
def Bp(h:strOf e=Z x):∃j p,e=.Constant (.str x) j p:=by
 cases e with
 |Constant c j p=>cases c with
  |str y=>cases h;exact(j,p,U)
  |_=>cases h
 |_=>cases h
variable{X:Cx}{es:List Do}
def Iu:∀{ws:Γ},strsOf es=Z ws->PA X es (λ_ H Q=>Q (ws.map V.str) H):=by
 induction es with
 |nil=>intro ws h;cases h;exact fO
 |cons e es q =>intro ws h;let(x,h1,h2):=SN.mp h;let(g,h3,U):=mU.mp h2;let(j,p,U):=Bp h1;exact bM cQ (q h3)
end L2
namespace L2
variable{H:Hp}
def Ju{i:Nat}{x:V}{σ:St}{A TL:St->Hp->Prop}(h:A (σ.set i (Z x)) H):cU i x σ H λg z=>sD g z λb q=>if b=O then A g q else TL g q:=by exact h
end L2
namespace L2
open PySem PySem.Spec PyProof.Rows
section
variable{X:Cx}
def ia(z:Str)(n:Nat):Str:=⟨(CB n z.cps).foldl (·++·) #[]⟩
theorem wj(c:Array Nat):∀(n:Nat)(acc:Array Nat),((CB n c).foldl (·++·) acc).size=acc.size+n*c.size
 | 0,acc=>by simp|n+1,acc=>by
  rw[List.replicate_succ,List.foldl_cons,wj c n,Array.size_append,Nat.add_mul];lia
def f9(z:Str)(n:Nat):(ia z n).length=n*z.length:=by have h:=wj z.cps n #[];simpa [ia,Str.length]using h
def zb:OpR X (binaryOp .Mult) (λx y H Q=>∃ z n,x=.str z/\y=.int n/\0<=n/\n<=1000/\z.length<=1000/\Q (.str (ia z n.toNat)) H):=by
 intro gd s σ H x y v u Q I V K h;let(z,n,U,U,n0,n1,hz,q):=h;let(t,U):=V;let(t',U):=K;have fin:∀(y:Str)(t' k:Nat),y=ia z n.toNat->EP X gd σ Q (.str y t') {s with toks:=k}:=λy t' k e=>by subst e;exact(.str _,H,I.tok k,(_,U),q)
 have hp:=by have h1:(z.length:Int)*n<=1000*n:=Int.mul_le_mul_of_nonneg_right bd n0;omega
 refine P.mul_str ?_ (λh1 _=>?_) (λh1 _=>?_) ?_
 ·rw[decide_eq_false bd,decide_eq_false bd];rfl
 ·have h2:(1000:Int) <=(2 ^ 63-1) / n:=by rw[Int.le_ediv_iff_mul_le bd];omega
  omega
 ·have h2:=by
   have e:((z.length*n.toNat:Nat):Int)=(z.length:Int)*n:=by rw[Int.natCast_mul,Rg n0]
   omega
  have:=RY;exact decide_eq_false bd
 by_cases h1:n<1
 ·rw[if_pos h1];have e:n.toNat=0:=bd;exact(am,fin _ _ _ (by rw[e];rfl))
 rw[if_neg h1];by_cases h2:(n==1||z.length==0)=O
 ·rw[if_pos h2];refine fin z t s.toks ?_;have h3:=(h2:);obtain h3|h3:=h3
  ·subst h3;show z=⟨#[]++z.cps⟩;simp
  have e1:z.cps=#[]:=by simpa [Str.length]using h3
  have g:=f9 z n.toNat;rw[h3]at g;have e3:=by simpa [Str.length]using g
  exact Str.ext' (by rw[e1,e3])
 rw[if_neg h2];refine(?_,fin _ _ _ U);have e:=f9 z n.toNat;have h3:=by
  have e:((n.toNat*z.length:Nat):Int)=(z.length:Int)*n:=by rw[Int.natCast_mul,Rg n0,Int.mul_comm]
  omega
 have:=RY;show(ia z n.toNat).length<=p6;omega
end
end L2
namespace L2
open PySem
def nN(n:Nat):Nat:=97+n % 26
def cW(c1 c2:Str)(turn k:Nat):Str:=c1++⟨#[nN (turn+7*k)]⟩++c2++ia "x" (k % 2)++ia "y" (k / 26)
def qT(c1 c2:Str)(turn k:Nat):(cW c1 c2 turn k).cps.toList=c1.cps.toList++nN (turn+7*k) ::(c2.cps.toList++(ia "x" (k % 2)).cps.toList++(ia "y" (k / 26)).cps.toList):=by simp[cW,Str.cps_append]
theorem tE(c1 c2:Str)(turn k:Nat):(cW c1 c2 turn k).length=c1.length+1+c2.length+k % 2+k / 26:=by unfold cW;rw[Str.length_append,Str.length_append,Str.length_append,Str.length_append,f9,f9,show(⟨#[nN (turn+7*k)]⟩:Str).length=1 from U,show(Str.ofString "x").length=1 from by decide +kernel,show(Str.ofString "y").length=1 from by decide +kernel];lia
def Po{a:List Nat}{x y:Nat}{b c:List Nat}(h:a++x::b=a++y::c):x=y:=by have:=RC h;exact(List.cons.inj this).1
variable{turn:Nat}{j:Nat}
def B2{k:Nat}(g:k<52)(q:j<52)(h:nN (turn+7*k)=nN (turn+7*j)):k % 26=j % 26:=by
 have h':∀a:Fin 26,∀b:Fin 26,∀c:Fin 26,(a.val+7*b.val) % 26=(a.val+7*c.val) % 26->b=c:=bn;have e:∀k,(turn % 26+7*(k % 26)) % 26=(turn+7*k) % 26:=λk=>by rw[Nat.add_mod,Nat.mod_mod,Nat.mul_mod_mod,<- Nat.add_mod]
 have h:=Nat.add_left_cancel h;rw[<- e,<- e j]at h;exact congrArg Fin.val (h' (turn % 26,S9 _ am) (k % 26,S9 _ am) (j % 26,S9 _ am) h)
def zY:(ia "y" 1).cps.toList=[121]:=bn
def wg(z:Str):(ia z 0).cps.toList=[]:=by simp[ia]
variable{c1:Str}{c2:Str}
def t6{k:Nat}(V:k<52)(hj:j<52)(P:k≠j){e f:Str}(he:e=Str.empty\/e="q")(hf:f=Str.empty\/f="q"):cW c1 c2 turn k++e≠cW c1 c2 turn j++f:=by
 intro h;have K:=by have:=congrArg (λz=>z.cps.toList) h;simpa [Str.cps_append]using this
 rw[qT,qT]at K;simp only[wh,List.cons_append]at K;have hm:=B2 V hj (Po K);have h1:k % 2=j % 2:=by rw[<- Ta k (by decide:2∣26),hm,Ta j (by decide:2∣26)]
 have hd:=(by decide +kernel:∀a b:Fin 52,a≠b->a.val % 26=b.val % 26->(a.val / 26=0/\b.val / 26=1)\/(a.val / 26=1/\b.val / 26=0)) (k,V) (j,hj) (λz=>P (congrArg Fin.val z)) hm;have tail:=(List.cons.inj (RC K)).2;rw[h1]at tail;have g:=RC (RC tail);have eq:(Str.ofString "q").cps.toList=[113]:=bn;have ee:Str.empty.cps.toList=[]:=rfl;obtain⟨d1,Q⟩|⟨d1,Q⟩:=hd
 ·rw[d1,Q,wg,zY]at g;obtain rfl|rfl:=he
  ·rw[ee]at g;simp at g
  rw[eq]at g;have:=congrArg List.head? g;simp at this
 rw[d1,Q,wg,zY]at g;obtain rfl|rfl:=hf
 ·rw[ee]at g;simp at g
 rw[eq]at g;have:=congrArg List.head? g;simp at this
def nodup_range{f:Nat->Str}{n:Nat}(h:∀i j,i<n->j<n->i≠j->f i≠f j):((Fq n).map f).Nodup:=by rw[Sw,R4];refine List.Pairwise.imp_of_mem ?_ (Sw.mp Tp);intro i j hi q g;exact h i j (Ro.mp hi) (Ro.mp q) g
variable{ws:Γ}
def BW{i:Nat}{w:Str}(h:ws.Nodup)(hw:w ∉ ws):(ws.set i w).Nodup:=by
 induction ws generalizing i with
 |nil=>simp|cons a r K =>
  let(h1,h2):=yd.mp h;have q:w≠a:=λz=>hw (by simp[z]);have g:=λz=>hw (mm _ z);cases i with
  |zero=>exact yd.mpr (g,h2)|succ i =>
   refine yd.mpr (λz=>?_,K h2 g);obtain z|z:=Nz z
   ·exact h1 z
   exact q z.symm
end L2
namespace L2
open PySem
variable{ws:Γ}
def Jm{w:Str}(h:inV (.str w) (ws.map V.str)=ϊ):w ∉ ws:=λhm=>by
 unfold inV at h;rw[Tc]at h;exact h (.str w) (sd.mpr (w,hm,U)) (show(w==w)=O from beq_self_eq_true w)
def wordOf(kept:Γ)(c1 c2:Str)(turn k:Nat):Str:=cW c1 c2 turn k++(if inV (.str (cW c1 c2 turn k)) (kept.map V.str)=O then("q":Str)else Str.empty)
variable{c1:Str}{c2:Str}{turn:Nat}{j:Nat}
def Bi{kept:Γ}{k:Nat}(q:k<52)(z:j<52)(g:k≠j):wordOf kept c1 c2 turn k≠wordOf kept c1 c2 turn j:=by
 refine t6 q z g ?_ ?_
 ·split
  ·exact .inr U
  exact .inl U
 split
 ·exact .inr U
 exact .inl U
def yl{kept:Γ}{k:Nat}(h1:c1.length<=5)(h2:c2.length<=5)(z:k<52):1 <=(wordOf kept c1 c2 turn k).length/\(wordOf kept c1 c2 turn k).length<=20:=by unfold wordOf;rw[Str.length_append,tE];have l0:Str.empty.length=0:=rfl;have g:(Str.ofString "q").length=1:=bn;split <;> lia
end L2
namespace L2
open PySem PySem.Spec PyProof.Rows
inductive Tr where
 |s(x:Str)|i (n:Int)|b (v:Bool)|n|t (xs:List Tr)
abbrev Mk1:=Str×Γ
abbrev Kd:=Str×List Mk1
abbrev ϑ:=List Kd
def E5(ks:List Kd)(k:Str):List Mk1:=match ks.find? (λx=>decide (x.1=k))with|some x=>x.2|none=>[]
variable{it:J}{items:Array B}{Q:Φ}{h':Dd}{tp:Bool}{l2:J}{t1:Bool}{t2:Bool}
section
variable{prog:Da}{w:Cl}{A:Db}{E:Φ}{s:ϋ}
theorem rS{t:J}{i:Nat}{x:B}(hit:s.heap.IsTupleIter it t i)(z:s.heap.IsTuple t items)(hx:items[i]?=Z x)
  (P:∀h',h'.IsTupleIter it t (i+1)->R0 it s.heap h'->Q x {s with heap:=h'}):wpAny (model prog w) A (Builtin.SmallTypes.nextOf (.ref it)) Q E s:=by
 let(o,ho,K,hd):=id hit;let(ol,g,_,nl,q):=z;refine gV (wpAny_callSpecial?_slot hit.typeIs F.slot_tuple_iterator_next
(Qm F.slot_tuple_iterator_next hit.typeIs F.entry_tuple_iterator_next ?_ (F.args_tuple_iterator_next_1 _)))
 show wpAny _ _ (field (.ref it) 0 >>= _) _ _ s;refine gV (wpAny_field ho hd U (gV (wpAny_field ho hd U (gV (wpAny_seqItems g q ?_)))));simp only[SE,hx];refine gV (R7 ho hd ap (sr (x,U,sr (P _ ?_ (Heap.SameBut.update ..)))));exact(_,JX _ ho (RJ (Rr hd _)),(Te ..).trans K,by
  rw[Rr hd];simp[rawInt])
theorem uX{t:J}{i:Nat}(K:A.handled=Y)(hit:s.heap.IsTupleIter it t i)(z:s.heap.IsTuple t items)(hx:items[i]?=Y)
  (hE:∀h' e,Tx it s.heap h'->(∃o,h'.get? e=Z o/\o.cls=.type "StopIteration")->E (.ref e) {s with heap:=h'}):wpAny (model prog w) A (Builtin.SmallTypes.nextOf (.ref it)) Q E s:=by
 let(o,ho,P,hd):=id hit;let(ol,g,_,nl,q):=z;refine gV (wpAny_callSpecial?_slot hit.typeIs F.slot_tuple_iterator_next
(Qm F.slot_tuple_iterator_next hit.typeIs F.entry_tuple_iterator_next ?_ (F.args_tuple_iterator_next_1 _)))
 show wpAny _ _ (field (.ref it) 0 >>= _) _ _ s;refine gV (wpAny_field ho hd U (gV (wpAny_field ho hd U (gV (wpAny_seqItems g q ?_)))));simp only[SE,hx];refine gV (RP (gV (R7 ho hd ap (gV (gV (m:=firstArgMember _ _) (wpAny_of_eq be (RM (gV (wpAny_handled ?_)) (by size_fits))))))));rw[K];exact gV (sr (wpAny_throw (hE _ _ (((Heap.SameBut.update ..).extBut.push _).push _) (_,qg _ U,U))))
def a8(h:Dd)(tp:Bool)(it l:J)(k:Nat):Prop:=if tp=O then h.IsTupleIter it l k else h.IsListIter it l k
def bQ(h:Dd)(tp:Bool)(l:J)(items:Array B):Prop:=if tp=O then h.IsTuple l items else h.IsList l items
def a8.at{h:Dd}{l:J}{k:Nat}(x:a8 h tp it l k)(e:∀o,h.get? it=Z o->h'.get? it=Z o):a8 h' tp it l k:=by cases tp with|true=>let(o,ho,r):=(x);exact((o,e o ho,r))|false=>let(o,ho,r):=(x);exact((o,e o ho,r))
def bQ.at{h:Dd}{l:J}(x:bQ h tp l items)(e:∀o,h.get? l=Z o->h'.get? l=Z o):bQ h' tp l items:=by cases tp with|true=>let(o,ho,r):=(x);exact((o,e o ho,r))|false=>let(o,ho,r):=(x);exact((o,e o ho,r))
def a8.obj{h:Dd}{l:J}{k:Nat}(x:a8 h tp it l k):∃o,h.get? it=Z o/\∀v,o.data ≠ .cell v:=by cases tp with|true=>let(o,ho,_,hd):=(x);exact(o,ho,λv=>by rw[hd];simp)|false=>let(o,ho,_,hd):=(x);exact(o,ho,λv=>by rw[hd];simp)
def next_item{l:J}{i:Nat}{x:B}(hit:a8 s.heap tp it l i)(hl:bQ s.heap tp l items)(hx:items[i]?=Z x)
  (g:∀h',a8 h' tp it l (i+1)->R0 it s.heap h'->Q x {s with heap:=h'}):wpAny (model prog w) A (Builtin.SmallTypes.nextOf (.ref it)) Q E s:=by
 cases tp with|true=>exact rS hit hl hx g|false=>exact wpAny_nextOf_list_item hit hl hx g
def next_end{l:J}{i:Nat}(g:A.handled=Y)(hit:a8 s.heap tp it l i)(hl:bQ s.heap tp l items)(hx:items[i]?=Y)
  (hE:∀h' e,Tx it s.heap h'->(∃o,h'.get? e=Z o/\o.cls=.type "StopIteration")->E (.ref e) {s with heap:=h'}):wpAny (model prog w) A (Builtin.SmallTypes.nextOf (.ref it)) Q E s:=by
 cases tp with|true=>exact uX g hit hl hx hE|false=>exact wpAny_nextOf_list_end g hit hl hx hE
theorem CD{z TI TO i1 i2 l1:J}{k1 k2:Nat}{xs ys:Array B}{x y a b:B}{Q:Option B->ϋ->Prop}(D:ZipApart z TI TO i1 i2 l1 l2)
  (hz:IsZip s.heap z TI TO .none) (cN:IsPair s.heap TI (.ref i1) (.ref i2)) (cL:IsPair s.heap TO a b)
  (h1:a8 s.heap t1 i1 l1 k1) (h2:a8 s.heap t2 i2 l2 k2) (cH:bQ s.heap t1 l1 xs) (cG:bQ s.heap t2 l2 ys) (hx:xs[k1]?=Z x) (hy:ys[k2]?=Z y)
  (hQ:∀h',IsZip h' z TI TO (rawInt s.heap.objs.size)->IsPair h' TO x y->a8 h' t1 i1 l1 (k1+1)->a8 h' t2 i2 l2 (k2+1)->IsPair h' s.heap.objs.size x y->h'.objs.size=s.heap.objs.size+1 ->
(∀c o,c≠z->c≠TO->c≠i1->c≠i2->s.heap.get? c=Z o->h'.get? c=Z o)->Q (Z (.ref s.heap.objs.size)) {s with heap:=h'}):
  wpAny (model prog w) A (pyNext (.ref z)) Q E s:=by
 have hT:s.TypeIs (.ref z) "zip":=(_,hz,U);unfold pyNext;refine gV (SK (wpAny_callSpecial?_slot hT F.slot_zip_next
(Qm F.slot_zip_next hT F.entry_zip_next ?_ (F.args_zip_next_1 _))))
 show wpAny _ _ (field (.ref z) 2 >>= _) _ _ _;refine gV (wpAny_field hz U (x:=.bool ϊ) U ?_);refine gV (wpAny_field hz U (x:=.ref TI) U ?_);refine gV (wpAny_seqItems cN U ?_);refine gV ?_;refine gV (wpAny_field hz U (x:=.none) U (sr ?_));simp only[if_true];refine gV (RP ?_);refine gV (wpAny_field hz U (x:=.ref TO) U ?_);refine gV (wpAny_setField_rec hz ap λc0 bz g=>?_);refine gV ?_;simp only[Tq,List.zipIdx_nil,SS,List.forIn_nil];refine gV (gV (wpAny_onRaise ?_));refine gV (next_item (h1.at λo e=>g.extBut _ o D.i1z e) (cH.at λo e=>g.extBut _ o D.l1z e) hx λcE ct P=>sr ?_);have Fz:IsPair cE TO a b:=P.extBut _ _ D.TOi1 (g.extBut _ _ D.TOz cL);refine gV (wpAny_seqItems Fz U ?_);refine gV (wpAny_updateSeq_pair Fz λcV Pa K=>?_);refine gV (wpAny_letGo (sr ?_));refine gV (gV (wpAny_onRaise ?_));refine gV (next_item (h2.at λo e=>K.extBut _ o D.TOi2.symm (P.extBut _ o D.i12.symm (g.extBut _ o D.i2z e)))
(cG.at λo e=>K.extBut _ o D.l2TO (P.extBut _ o D.l2i1 (g.extBut _ o D.l2z e))) hy λcC cj aN=>sr ?_)
 have O9:IsPair cC TO x b:=aN.extBut _ _ D.TOi2 Pa;refine gV (wpAny_seqItems O9 U ?_);refine gV (wpAny_updateSeq_pair O9 λq Js V=>?_);replace Js:IsPair q TO x y:=Js;refine gV (wpAny_letGo (sr (sr ?_)));refine gV (wpAny_seqItems Js U ?_);refine gV (wpAny_newTuple ?_);have hsz:q.objs.size=s.heap.objs.size:=by rw[V.1,aN.1,K.1,P.1,g.1]
 have a5:IsZip q z TI TO .ellipsis:=V.extBut _ _ D.TOz.symm (aN.extBut _ _ D.i2z.symm (K.extBut _ _ D.TOz.symm (P.extBut _ _ D.i1z.symm bz)));have bR:∀c o,c≠z->c≠TO->c≠i1->c≠i2->s.heap.get? c=Z o->q.get? c=Z o:=λc o c1 c2 c3 c4 e =>
  V.extBut _ _ c2 (aN.extBut _ _ c4 (K.extBut _ _ c2 (P.extBut _ _ c3 (g.extBut _ _ c1 e))))
 have ck:=ct.at λo e=>V.extBut _ o D.TOi1.symm (aN.extBut _ o D.i12 (K.extBut _ o D.TOi1.symm e));have b0:=cj.at λo e=>V.extBut _ o D.TOi2.symm e;have OX:z<q.objs.size:=rg a5;refine gV ?_;have br:IsZip (q.push {cls:=.type "tuple",data:=.seq #[x,y]}) z TI TO .ellipsis:=jo _ a5;refine gV (wpAny_setField_rec br ap λcR bg aT=>?_);refine wpAny_setField_rec bg ap λa0 a3 aP=>?_;have up:∀c o,c≠z->q.get? c=Z o->a0.get? c=Z o:=λc o c1 e=>aP.extBut _ _ c1 (aT.extBut _ _ c1 (jo _ e));have bc:IsPair a0 q.objs.size x y:=aP.extBut _ _ (Rl OX) (aT.extBut _ _ (Rl OX) (qg _ U));have cF:a0.objs.size=q.objs.size+1:=by rw[aP.1,aT.1,Gm]
 rw[hsz]at a3 bc cF;refine sr (_,U,sr ?_);rw[hsz];exact hQ a0 a3 (up _ _ D.TOz Js) (ck.at λo e=>up _ o D.i1z e) (b0.at λo e=>up _ o D.i2z e) bc cF λc o c1 c2 c3 c4 e=>up c o c1 (bR c o c1 c2 c3 c4 e)
theorem GU{z TI TO i1 i2 l1:J}{k1 k2:Nat}{xs ys:Array B}{a b:B}{Q:Option B->ϋ->Prop}(hh:A.handled=Y)(D:ZipApart z TI TO i1 i2 l1 l2)
  (hz:IsZip s.heap z TI TO .none) (cj:IsPair s.heap TI (.ref i1) (.ref i2)) (b0:IsPair s.heap TO a b)
  (h1:a8 s.heap t1 i1 l1 k1) (h2:a8 s.heap t2 i2 l2 k2) (bz:bQ s.heap t1 l1 xs) (bR:bQ s.heap t2 l2 ys) (Cc:xs[k1]?=Y\/ys[k2]?=Y)
  (hQ:∀h',(∀c o,c≠z->c≠TO->c≠i1->c≠i2->s.heap.get? c=Z o->h'.get? c=Z o)->Q Y {s with heap:=h'}):wpAny (model prog w) A (pyNext (.ref z)) Q E s:=by
 have hT:s.TypeIs (.ref z) "zip":=(_,hz,U);have fin:∀h' e,(∀c o,c≠z->c≠TO->c≠i1->c≠i2->s.heap.get? c=Z o->h'.get? c=Z o)->(∃ o,h'.get? e=Z o/\o.cls=.type "StopIteration") ->
   wpAny (model prog w) A (do if <- isInstance (.ref e) (.type "StopIteration")then pure Y else throw (.ref e)) Q E {s with heap:=h'}:=λh' e hk he=>by
  let(o,ho,hc):=he;refine gV (Se (o,ho,hc) isSubtype_stop ?_);exact sr (hQ _ hk)
 refine gV (SK (wpAny_callSpecial?_slot hT F.slot_zip_next
(Qm F.slot_zip_next hT F.entry_zip_next ?_ (F.args_zip_next_1 _))))
 show wpAny _ _ (field (.ref z) 2 >>= _) _ _ _;refine gV (wpAny_field hz U (x:=.bool ϊ) U (gV (wpAny_field hz U U (gV (wpAny_seqItems cj U (gV (gV (wpAny_field hz U U (sr (gV (RP (gV (wpAny_field hz U (x:=.ref TO) U (gV (wpAny_setField_rec hz ap λcC aP g=>(gV ?_))))))))))))))));simp only[Tq,List.zipIdx_nil,SS,List.forIn_nil];refine gV (gV (wpAny_onRaise ?_));cases hx:xs[k1]? with
 |none =>
  refine gV (next_end hh (h1.at λo e=>g.extBut _ o D.i1z e) (bz.at λo e=>g.extBut _ o D.l1z e) hx λbr e q he=>?_);let(oe,P,a3):=he;have aN:=q _ _ D.i1z.symm aP;have bc:e≠z:=λx=>by subst x;rw[aN]at P;cases P;simp at a3
  refine wpAny_setField_rec aN ap λa5 _ K=>fin a5 e (λc o c1 _ c3 _ x=>K.extBut _ _ c1 (q _ _ c3 (g.extBut _ _ c1 x))) (oe,K.extBut _ _ bc P,a3)
 |some x =>
  have hy:ys[k2]?=none:=by obtain h|h:=Cc;rw[hx]at h;cases h;exact h
  refine gV (next_item (h1.at λo e=>g.extBut _ o D.i1z e) (bz.at λo e=>g.extBut _ o D.l1z e) hx λbr ck q=>sr ?_);have Fz:=q.extBut _ _ D.TOi1 (g.extBut _ _ D.TOz b0);refine gV (wpAny_seqItems Fz U (gV (wpAny_updateSeq_pair Fz λa5 Pa K=>(gV (wpAny_letGo (sr (gV (gV (wpAny_onRaise ?_)))))))));refine gV (next_end hh (h2.at λo e=>K.extBut _ o D.TOi2.symm (q.extBut _ o D.i12.symm (g.extBut _ o D.i2z e)))
(bR.at λo e=>K.extBut _ o D.l2TO (q.extBut _ o D.l2i1 (g.extBut _ o D.l2z e))) hy λct e a0 he=>?_)
  let(oe,P,a3):=he;have V:=a0 _ _ D.i2z.symm (K.extBut _ _ D.TOz.symm (q.extBut _ _ D.i1z.symm aP));have bc:e≠z:=λx=>by subst x;rw[V]at P;cases P;simp at a3
  refine wpAny_setField_rec V ap λbg _ aT=>fin bg e (λc o c1 c2 c3 c4 x=>aT.extBut _ _ c1 (a0 _ _ c4 (K.extBut _ _ c2 (q.extBut _ _ c3 (g.extBut _ _ c1 x))))) (oe,aT.extBut _ _ bc P,a3)
end
variable{ws:Γ}
def de{w:Str}:inV (.str w) (ws.map V.str)=O ↔ w∈ws:=by
 constructor
 ·intro h;by_cases hm:w∈ws
  ·exact hm
  exfalso;unfold inV at h;rw[RB]at h;let(x,hx,e):=h;let(z,g,U):=sd.mp hx;have:=eq_of_beq (e);exact hm (this▸g)
 intro h;unfold inV;rw[RB];exact(.str w,sd.mpr (w,h,U),beq_self_eq_true w)
def marks(rs:Γ):ό:=rs.map λs=>(.inr s,.bl O)
variable{X:Cx}{gd:Ξ}{H:Hp}{t':Nat}{fp:Θ}
def Inv.n4{σ:St}{s:ϋ}(I:Inv X gd σ H s)(k:∀b o,b ∉ fp->s.heap.get? b=Z o->h'.get? b=Z o)(hf:∀b∈fp,rj X gd H b):
  Inv X gd σ H {s with heap:=h',toks:=t'}:=by
 have K:∀b u,H b=Z u->b ∉ fp:=λb u e z=>by
  have:=(hf b z).1;rw[e]at this;cases this
 refine I.step (λb P=>?_) (λb o _ _ g e _=>k b o g e) (λb o _ _ g e _=>(o.slots,k b o g e)) (λ_ _ _ _ n=>n)
  (λb o g e=>(o,k b o g e)) (λ_ _ e=>e) (λ_ _ _ e=>e) (λb ps e=>(#[],by rw[e];simp)) (λm hm=>?_) (λb u e=>?_) I.bare
 ·let(f0,f1,f2,V,f4,Q):=hf b P;exact(V,f1,f4,Q)
 ·let(o,es,ep,ho,r):=hm;exact(o,es,ep,k _ o (λz=>(hf _ z).2.1 U) ho,r)
 refine(I.hok b u e).cJ (λc v g q=>k c v ?_ q) (λ_ q=>q) λ_ _ q=>q;obtain z|z:=g
 ·rw[z];exact K b u e
 exact K c _ z
def SqB(K:BT)(tp:Bool)(H:Hp)(a:J)(xs:Ω):Prop:=if tp=O then SqT K H a xs else SqL K H a xs
variable{a:J}{xs:Ω}
def Inv.ug{σ:St}{s:ϋ}(I:Inv X gd σ H s)(h:SqB X.K tp H a xs):∃its:Δ,Vals xs its/\bQ s.heap tp a its.toArray/\xs.length<=p6:=by cases tp with|true =>let(its,r,p,z):=I.tuple (h);exact(its,r,(p),z)|false =>let(its,r,p,z):=I.list (h);exact(its,r,p.isList,z)
variable{ys:Ω}
def Inv.pe{σ:St}{s:ϋ}(I:Inv X gd σ H s)(h:SqB X.K tp H a xs)(h2:SqB X.K tp H a ys):xs=ys:=by cases tp with|true=>exact I.sC (h) (h2)|false=>exact I.qj (h) (h2)
def Itz(K:BT)(t1 t2:Bool)(l1 l2:J):It:=
 (λi H=>∃xs ys x y,SqB K t1 H l1 xs/\SqB K t2 H l2 ys/\xs[i]?=Z x/\ys[i]?=Z y,
λi H v H'=>∃(p:J)(x y:V),H p=Y/\v=.ref p/\H'=upd H p (.tup [x,y])/\(∀xs,SqB K t1 H l1 xs->xs[i]?=Z x)/\∀ys,SqB K t2 H l2 ys->ys[i]?=Z y,
λi H=>∃xs ys,SqB K t1 H l1 xs/\SqB K t2 H l2 ys/\(xs.length<=i\/ys.length<=i))
variable{P:Da}{elts:List Do}
theorem CP{w:Cl}{K:BT}{x1}{pos:Pos}(z TI TO i1 V l1 l2:J)(D:ZipApart z TI TO i1 V l1 l2):
  Turn P w K (.Tuple elts x1 pos) (Itz K t1 t2 l1 l2) [z,TI,TO,i1,V] z (λi h=>IsZip h z TI TO .none/\IsPair h TI (.ref i1) (.ref V)/\(∃a b,IsPair h TO a b)/\a8 h t1 i1 l1 i/\a8 h t2 V l2 i) where
 mem:=by simp
 obj:=by
  rintro i h ⟨h1,h2,⟨a,b,h3⟩,h4,h5⟩ c hc;simp only[ot,ya,or_false]at hc;obtain rfl|rfl|rfl|rfl|rfl:=hc
  ·exact(_,h1,λv e=>by cases e)
  ·exact(_,h2,λv e=>by cases e)
  ·exact(_,h3,λv e=>by cases e)
  ·exact h4.obj
  exact h5.obj
 keep:=by rintro i h h' ⟨h1,h2,⟨a,b,h3⟩,h4,h5⟩ k;exact(k z ap _ h1,k TI ap _ h2,(a,b,k TO ap _ h3),h4.at λo e=>k i1 ap o e,h5.at λo e=>k V ap o e)
 item:=by
  intro X hP hw hK hc i gd s σ H E I hf st hg;subst hP hw hK;let(h1,h2,(a,b,h3),h4,h5):=st;let(xs,ys,x,y,q1,q2,e1,e2):=hg;let(OU,Q,o1,z1):=I.ug q1;let(bO,q,o2,z2):=I.ug q2;let(u1,b0,a3):=Q.get e1;let(u2,bR,a0):=q.get e2;refine CD D h1 h2 h3 h4 h5 o1 o2 (x:=u1) (y:=u2) (b0:) (bR:) λh' bz Qx Qv Qu cj Ql aN=>(_,U,(wpAny_letOwnedTupleGo_zip bz λaT Qk MU=>?_));have hn:=I.hok.fresh (oQ s.heap.objs.size);have lz:=rg h1;have br:=rg h2;have bg:=rg h3;let(ct,Qz,_):=h4.obj;let(ck,Qy,_):=h5.obj;have bc:=rg Qz;have a5:=rg Qy;have Mv:∀b ∈ [z,TI,TO,i1,V],b≠s.heap.objs.size:=λb g=>by
   simp only[ot,ya,or_false]at g;obtain rfl|rfl|rfl|rfl|rfl:=g
   ·exact x8 lz
   ·exact x8 br
   ·exact x8 bg
   ·exact x8 bc
   exact x8 a5
  have up:∀c o,c≠z->h'.get? c=Z o->aT.get? c=Z o:=λc o hc e=>MU.extBut _ _ hc e;have I1:Inv X gd σ (upd H s.heap.objs.size (.tup [x,y])) {s with heap:=s.heap.push {cls:=.type "tuple",data:=.seq #[u1,u2]}}:=
   I.laid (λb u e=>jo _ e) (oQ _) (by show 2<=p6;decide,[u1,u2],.cons a3 (.cons a0 .nil),((_,qg _ U,U,_,U),_,qg _ U,U))
  have aP:∀b ∈ [z,TI,TO,i1,V],rj X gd (upd H s.heap.objs.size (.tup [x,y])) b:=λb g=>by
   let(f0,r):=hf b g;exact(by rw[ak (Mv b g)];exact f0,r)
  have I2:=by
   refine I1.n4 (h':=aT) (t':=s.toks) (λb o g e=>?_) aP;simp only[ot,ya,or_false,not_or]at g;let(b1,b2,b3,b4,b5):=g;obtain⟨rfl,rfl⟩|e':=S2 e
   ·exact up _ _ b1 cj
   exact up _ _ b1 (aN b o b1 b3 b4 b5 e')
  exact(.ref s.heap.objs.size,upd H s.heap.objs.size (.tup [x,y]),I2,U,(_,x,y,hn,U,U,λzs hz=>by rw[I.pe hz q1];exact e1,λzs hz=>by rw[I.pe hz q2];exact e2),((Qk,up _ _ D.TIz (aN TI _ D.TIz D.TITO D.TIi1 D.TIi2 h2),(_,_,up _ _ D.TOz Qx),Qv.at λo e=>up _ _ D.i1z e,Qu.at λo e=>up _ _ D.i2z e)),λb g=>(aP b g).1)
 done:=by
  intro X hP hw hK hc i gd s σ H E I hf st hg;subst hP hw hK;let(h1,h2,(a,b,h3),h4,h5):=st;let(xs,ys,q1,q2,Cc):=hg;let(OU,Q,o1,z1):=I.ug q1;let(bO,q,o2,z2):=I.ug q2;have g1:=Q.length;have g2:=q.length;refine GU (I.ok.hd hc) D h1 h2 h3 h4 h5 o1 o2 ?_ λh' k=>(U,I.n4 (λb o g e=>?_) hf)
  ·obtain e|e:=Cc
   ·simp;lia
   simp;lia
  simp only[ot,ya,or_false,not_or]at g;exact k b o g.1 g.2.2.1 g.2.2.2.1 g.2.2.2.2 e
 self:=λ_ _ _ _ _ st h=>wpAny_pyIter_zip st.1 h
def itc(tp:Bool):String:=if tp=O then "tuple_iterator" else "list_iterator"
variable{prog:Da}{A:Db}{E:Φ}
def iM{w:Cl}{s:ϋ}{l:J}{xs:Array B}(h:bQ s.heap tp l xs)
  (g:Q (.ref s.heap.objs.size) {s with heap:=s.heap.push {cls:=.type (itc tp),data:=.fields #[.ref l,.int 0 0]}}):wpAny (model prog w) A (pyIter (.ref l)) Q E s:=by
 cases tp with|true=>exact wpAny_pyIter_tuple (h) g|false=>exact wpAny_pyIter_list (h) g
abbrev zH1(t1:Bool)(h:Dd)(l1:J):Dd:=h.push {cls:=.type (itc t1),data:=.fields #[.ref l1,.int 0 0]}
abbrev zH2(t1 t2:Bool)(h:Dd)(l1 l2:J):Dd:=(zH1 t1 h l1).push {cls:=.type (itc t2),data:=.fields #[.ref l2,.int 0 0]}
abbrev zH3(t1 t2:Bool)(h:Dd)(l1 l2:J):Dd:=(zH2 t1 t2 h l1 l2).push {cls:=.type "tuple",data:=.seq #[.ref h.objs.size,.ref (zH1 t1 h l1).objs.size]}
abbrev zH4(t1 t2:Bool)(h:Dd)(l1 l2:J):Dd:=(zH3 t1 t2 h l1 l2).push {cls:=.type "tuple",data:=.seq #[.none,.none]}
abbrev zH5(t1 t2:Bool)(h:Dd)(l1 l2:J):Dd:=(zH4 t1 t2 h l1 l2).push {cls:=.type "zip",data:=.fields #[.none,.bool ϊ,.bool ϊ,.ref (zH2 t1 t2 h l1 l2).objs.size,.ref (zH3 t1 t2 h l1 l2).objs.size]}
def rW(t1 t2:Bool)(l1 l2:J)(xs ys:Array B):
  Meets (Builtin.«zip.__new__» ([.type "zip",.ref l1,.ref l2],[])) (λ_ R s=>bQ s.heap t1 l1 xs/\bQ s.heap t2 l2 ys /\
R (.ok (.ret (.ref (zH4 t1 t2 s.heap l1 l2).objs.size))) {s with heap:=zH5 t1 t2 s.heap l1 l2}):=
 .of_wp λprog w A R s h=>by
  let(hp,g,d,tk,os):=s;let(z,q,h):=h;have Q:=sub_zip;have P:=z;have K:bQ (ϋ.heap (hp.push {cls:=.type (itc t1),data:=.fields #[.ref l1,.int 0 0]},g,d,tk,os)) t2 l2 ys:=q.at λo e=>jo _ e
  wp_walk using iM P,iM K
  exact(_,U,h)
def ip{h:Dd}{l:J}(e:h.get? it=Z {cls:=.type (itc tp),data:=.fields #[.ref l,.int 0 0]}):a8 h tp it l 0:=by cases tp with|true=>exact((_,e,U,U))|false=>exact((_,e,U,U))
theorem vC{prog:Da}{w:Cl}{A:Db}{E:Φ}{s:ϋ}{l1:J}{xs ys:Array B}(P:bQ s.heap t1 l1 xs)(K:bQ s.heap t2 l2 ys)
  (h:∀h',IsZip h' (s.heap.objs.size+4) (s.heap.objs.size+2) (s.heap.objs.size+3) .none->IsPair h' (s.heap.objs.size+2) (.ref s.heap.objs.size) (.ref (s.heap.objs.size+1)) ->
IsPair h' (s.heap.objs.size+3) .none .none->a8 h' t1 s.heap.objs.size l1 0->a8 h' t2 (s.heap.objs.size+1) l2 0 ->
(∀c o,s.heap.get? c=Z o->h'.get? c=Z o)->Q (.ref (s.heap.objs.size+4)) {s with heap:=h'}):
  wpAny (model prog w) A (call (.type "zip") [.ref l1,.ref l2]) Q E s:=by
 refine callType_new F.called_zip am (F.typeCall_zip_2 _ _) (F.newCall_zip_2 _ _) (λobj=>F.args_object_init_3 obj _ _) F.entry_zip_new
  (rW t1 t2 l1 l2 xs ys) (P,K,?_)
 have z:(zH1 t1 s.heap l1).objs.size=s.heap.objs.size+1:=Gm ..;have q:(zH2 t1 t2 s.heap l1 l2).objs.size=s.heap.objs.size+2:=by rw[Gm,z]
 have g:(zH3 t1 t2 s.heap l1 l2).objs.size=s.heap.objs.size+3:=by rw[Gm,q]
 have z4:(zH4 t1 t2 s.heap l1 l2).objs.size=s.heap.objs.size+4:=by rw[Gm,g]
 have V:(zH5 t1 t2 s.heap l1 l2).get? (zH4 t1 t2 s.heap l1 l2).objs.size=Z _:=qg _ U;have g4:(zH5 t1 t2 s.heap l1 l2).get? (zH3 t1 t2 s.heap l1 l2).objs.size=Z _:=jo _ (qg _ U);have g3:(zH5 t1 t2 s.heap l1 l2).get? (zH2 t1 t2 s.heap l1 l2).objs.size=Z _:=jo _ (jo _ (qg _ U));have g2:(zH5 t1 t2 s.heap l1 l2).get? (zH1 t1 s.heap l1).objs.size=Z _:=jo _ (jo _ (jo _ (qg _ U)));have g1:(zH5 t1 t2 s.heap l1 l2).get? s.heap.objs.size=Z _:=jo _ (jo _ (jo _ (jo _ (qg _ U))));rw[q,g,z4]at V;rw[z,q]at g3;rw[g]at g4;rw[z]at g2;rw[z4];exact((_,V,U),h _ V g3 g4 (ip g1) (ip g2) λc o x =>
jo _ (jo _ (jo _ (jo _ (jo _ x)))))
def Fl(K:BT)(t1 t2:Bool)(ta:TA):TI:=λσ H R=>ta σ H λvs H1=>∃l1 l2,vs=[.ref l1,.ref l2]/\(∃xs,SqB K t1 H1 l1 xs)/\(∃ys,SqB K t2 H1 l2 ys)/\R (Itz K t1 t2 l1 l2) H1
def bQ.obj{h:Dd}{l:J}{xs:Array B}(x:bQ h tp l xs):∃o,h.get? l=Z o:=by cases tp with|true=>let(o,ho,_):=(x);exact(o,ho)|false=>let(o,ho,_):=(x);exact(o,ho)
variable{n:Nat}
def vS{l1 l2:Nat}(h1:l1<n)(h2:l2<n):ZipApart (n+4) (n+2) (n+3) n (n+1) l1 l2:=by constructor <;>(lia)
variable{pos':Pos}{b:Do}
def L1{x1}{a:Do}{ta:TA}{p pos:Pos}(hg:Gl X "zip")(hm:X.mg "zip"=Y)(cL:bootBuiltins "zip"=Z (.type "zip"))(ha:PA X [a,b] ta)(hs:‹nY [a,b] X.env=[(ϊ,eval a X.env),(ϊ,eval b X.env)]›)(g:‹AD X b›):
  PI X (.Tuple elts x1 pos') (.Call (.Name "zip" p) [a,b] [] pos) (Fl X.K t1 t2 ta):=by
 intro gd s σ H R I h;refine Call_ (gN I hg hm cL (PyProof.Rows.callWith_type1 (thn (ha pos gd s σ H _ I h) λus s1 (vs,H1,P,r1,q1)=>?_) (by rw[hs,g]) (by rw[g];rfl)));let(l1,l2,e,(xs,q2),(ys,q3),q):=q1;subst e;let(u1,u2,U,V,Q):=vals2 r1;cases V;cases Q;let(OU,a5,o1,z1):=P.ug q2;let(bO,a3,o2,z2):=P.ug q3;let(bg,e1):=o1.obj;let(bc,e2):=o2.obj;have g1:=rg e1;have g2:=rg e2;refine vC o1 o2 λh' hz a0 aT aP aN hk=>wpAny_pyIter_zip hz ?_;refine(_,[s1.heap.objs.size+4,s1.heap.objs.size+2,s1.heap.objs.size+3,s1.heap.objs.size,s1.heap.objs.size+1],_,_,H1,U,P.kept hk,CP _ _ _ _ _ l1 l2 ?_,(hz,a0,(_,_,aT),aP,aN),λc hc=>?_,q)
 ·exact vS g1 g2
 have z:s1.heap.objs.size<=c:=by simp only[ot,ya,or_false]at hc;obtain rfl|rfl|rfl|rfl|rfl:=hc <;> first|exact Nat.le_add_right _ _|exact oQ _
 exact P.Cf z (P.hok.fresh z)
def Bv{t:Nat}(h:ws.Nodup):(ws.drop t++ws.take t).Nodup:=
 (SX).nodup_iff.mp (by rw[Ru];exact h)
variable{d:J}
def lI.other{l q:J}{o:HO}(D:lI H d l)(h1:q≠d)(h2:q≠l):lI (upd H q o) d l:=by let(s,n,ls,D):=D;exact(s,n,ls,by rw[ak h1.symm];exact D.hd,by rw[ak h2.symm];exact D.hl,D.s0,D.s1,D.n0,D.l0)
def names(ks:List Kd):Γ:=ks.flatMap λk=>k.2.map (·.1)
variable{x:Str}
def take_one{xs:Γ}{i:Nat}(h:xs[i]?=Z x):xs.take i++[x]=xs.take (i+1):=by rw[ui,h];rfl
variable{es:List Do}
theorem oA{K:BT}{k:Nat}{pos:Pos}{t:TGs}(z:X.K=K)(q:X.calm=O)(h:PGs X es t)
  (hn:‹(assignEach es X.env).length=n›) (g:‹(assignEach es X.env).findIdx? (·.1)=none›):PG X (.Tuple es k pos) (Jv K n t):=z▸L6 q h hn g
section
variable{w:Cl}{s:ϋ}
theorem Cj{e l:J}{i:Nat}{x old:B}{Q:Option B->ϋ->Prop}
  (he:IsEnum s.heap e it i old) (hit:a8 s.heap tp it l i) (hl:bQ s.heap tp l items) (hx:items[i]?=Z x) (K:e≠it)
  (hQ:∀h',IsEnumOut h' e it ((i:Int)+1) x s.heap.objs.size->a8 h' tp it l (i+1)->h'.get? s.heap.objs.size=Z {cls:=.type "tuple",data:=.seq #[.int i s.toks,x]}->h'.objs.size=s.heap.objs.size+1 ->
(∀b o,b≠e->b≠it->s.heap.get? b=Z o->h'.get? b=Z o)->Q (Z (.ref s.heap.objs.size)) {s with heap:=h',toks:=s.toks+1}):wpAny (model prog w) A (pyNext (.ref e)) Q E s:=by
 have hT:s.TypeIs (.ref e) "enumerate":=(_,he,U);let(hp,g,d,tk,os):=s;refine gV (SK (wpAny_callSpecial?_slot hT F.slot_enumerate_next (Qm F.slot_enumerate_next hT F.entry_enumerate_next ?_ (F.args_enumerate_next_1 _))));show wpAny _ _ (field (.ref e) 2 >>= _) _ _ _;refine gV (wpAny_field he U U ?_);refine gV (next_item hit hl hx λh1 Qt aP=>?_);have aT:=(aP.2 e K).trans he;refine gV (wpAny_field aT U U (gV (wpAny_field aT U U (gV (wpAny_mkInt (gV (wpAny_setField_rec aT ap λh2 cC aN=>(gV (wpAny_setField_rec cC ap λh3 ct V=>?_)))))))));show wpAny _ _ (newTuple [.int i tk,x] >>= _) _ _ (h3,g,d,tk+1,os);refine gV (wpAny_newTuple ?_);have P:IsEnum (h3.push {cls:=.type "tuple",data:=.seq #[.int i tk,x]}) e it ((i)+1) old:=jo _ ct;have hsz:h3.objs.size=hp.objs.size:=by rw[V.1,aN.1,aP.1]
 have bR:=rg he;have a5:(h3.push {cls:=.type "tuple",data:=.seq #[.int i tk,x]}).get? hp.objs.size=Z {cls:=.type "tuple",data:=.seq #[.int i tk,x]}:=by rw[<- hsz];exact qg _ U
 have a3:(h3.push {cls:=.type "tuple",data:=.seq #[.int i tk,x]}).objs.size=hp.objs.size+1:=by rw[Gm,hsz]
 have bz:∀b o,b≠e->b≠it->hp.get? b=Z o->(h3.push {cls:=.type "tuple",data:=.seq #[.int i tk,x]}).get? b=Z o:=λb o q a0 hb=>jo _ (V.extBut b o q (aN.extBut b o q (aP.extBut b o a0 hb)));have O1:a8 (h3.push {cls:=.type "tuple",data:=.seq #[.int i tk,x]}) tp it l (i+1):=Qt.at λo eo=>jo _ (V.extBut _ o K.symm (aN.extBut _ o K.symm eo));generalize h3.push {cls:=.type "tuple",data:=.seq #[.int i tk,x]}=h4 at P a5 a3 bz O1;rw[hsz];refine gV (gV (wpAny_field P U U (sr (gV (RP (gV (wpAny_field P U (x:=old) U (gV (wpAny_setField_rec P ap λh5 ck br=>(gV (gV (wpAny_setField_rec ck ap λh6 cj bg=>(wpAny_setField_rec cj ap λh7 b0 bc=>?_)))))))))))));have up:∀c o,c≠e->h4.get? c=Z o->h7.get? c=Z o:=λc o hc z=>bc.extBut _ _ hc (bg.extBut _ _ hc (br.extBut _ _ hc z));refine gV (wpAny_letGo (sr (_,U,sr (hQ h7 b0 (O1.at λo eo=>up _ o K.symm eo) (up _ _ (Rl bR) a5) ?_ λb o q a0 hb=>up b o q (bz b o q a0 hb)))));rw[bc.1,bg.1,br.1,a3]
theorem FK{e l:J}{i:Nat}{old:B}{Q:Option B->ϋ->Prop}(z:A.handled=Y)
  (he:IsEnum s.heap e it i old) (hit:a8 s.heap tp it l i) (hl:bQ s.heap tp l items) (hx:items[i]?=Y) (P:∀h',Tx it s.heap h'->Q Y {s with heap:=h'}):wpAny (model prog w) A (pyNext (.ref e)) Q E s:=by
 have hT:s.TypeIs (.ref e) "enumerate":=(_,he,U);refine gV (SK (wpAny_callSpecial?_slot hT F.slot_enumerate_next (Qm F.slot_enumerate_next hT F.entry_enumerate_next ?_ (F.args_enumerate_next_1 _))));show wpAny _ _ (field (.ref e) 2 >>= _) _ _ _;refine gV (wpAny_field he U U (gV (next_end z hit hl hx λh' x q g=>?_)));let(o,ho,K):=g;exact gV (Se (o,ho,K) isSubtype_stop (sr (P _ q)))
abbrev eH1(tp:Bool)(h:Dd)(l:J):Dd:=h.push {cls:=.type (itc tp),data:=.fields #[.ref l,.int 0 0]}
abbrev eH2(tp:Bool)(h:Dd)(l:J):Dd:=(eH1 tp h l).push {cls:=.type "enumerate",data:=.fields #[.none,.bool ϊ,.ref h.objs.size,rawInt 0,.none,.none]}
def qi(tp:Bool)(l:J)(xs:Array B):
  Meets (Builtin.«enumerate.__new__» ([.type "enumerate",.ref l],[])) (λ_ R s=>bQ s.heap tp l xs/\R (.ok (.ret (.ref (eH1 tp s.heap l).objs.size))) {s with heap:=eH2 tp s.heap l}):=
 .of_wp λprog w A R s h=>by
  let(hl,h):=h;have q:=sub_enumerate;have g:=hl
  wp_walk
  refine wpAny_stack_any λst=>sr ?_;split
  ·rename_i c _ _ _ _ _;cases(c==B.type "enumerate")
   ·wp_walk using iM g
    exact(_,U,h)
   wp_walk using iM g
   exact(_,U,h)
  wp_walk using iM g
  exact(_,U,h)
theorem si{l:J}{xs:Array B}(hl:bQ s.heap tp l xs)
  (h:∀h',IsEnum h' (s.heap.objs.size+1) s.heap.objs.size 0 .none->a8 h' tp s.heap.objs.size l 0->(∀b o,s.heap.get? b=Z o->h'.get? b=Z o)->Q (.ref (s.heap.objs.size+1)) {s with heap:=h'}):
  wpAny (model prog w) A (call (.type "enumerate") [.ref l]) Q E s:=by
 refine callType_new F.called_enumerate am (F.typeCall_enumerate_1 _) (F.newCall_enumerate_1 _) (λobj=>F.args_object_init_2 obj _) F.entry_enumerate_new (qi tp l xs) (hl,?_);have g:(eH1 tp s.heap l).objs.size=s.heap.objs.size+1:=Gm ..;have g2:(eH2 tp s.heap l).get? (eH1 tp s.heap l).objs.size=Z _:=qg _ U;have g1:(eH2 tp s.heap l).get? s.heap.objs.size=Z _:=jo _ (qg _ U);rw[g]at g2 ⊢;exact((_,g2,U),h _ g2 (ip g1) λc o x=>jo _ (jo _ x))
end
def Ite(K:BT)(tp:Bool)(l:J):It:=
 (λi H=>∃xs x,SqB K tp H l xs/\xs[i]?=Z x,
λi H v H'=>∃(p:J)(x:V),H p=Y/\v=.ref p/\H'=upd H p (.tup [.int i,x])/\∀xs,SqB K tp H l xs->xs[i]?=Z x,
λi H=>∃xs,SqB K tp H l xs/\xs.length<=i)
theorem Bn{w:Cl}{K:BT}{x1}{pos:Pos}(e it l:J)(Q:e≠it):
  Turn P w K (.Tuple elts x1 pos) (Ite K tp l) [e,it] e (λi h=>(∃old,IsEnum h e it i old)/\a8 h tp it l i) where
 mem:=by simp
 obj:=by
  rintro i h ⟨⟨old,h1⟩,h2⟩ c q;simp only[ot,ya,or_false]at q;obtain rfl|rfl:=q
  ·exact(_,h1,λv e=>by cases e)
  exact h2.obj
 keep:=by rintro i h h' ⟨⟨old,h1⟩,h2⟩ k;exact((old,k e ap _ h1),h2.at λo z=>k it ap o z)
 item:=by
  intro X hP hw hK q i gd s σ H E I hf st hg;subst hP hw hK;let((old,h1),h2):=st;let(xs,x,q1,e1):=hg;let(its,rv,o1,z1):=I.ug q1;let(u1,aT,aP):=rv.get e1;refine Cj h1 h2 o1 (x:=u1) (aT:) Q λh' a0 a5 bc Ql a3=>(_,U,(wpAny_letOwnedTupleGo_enum a0 λaN Qw MU=>?_));have hn:=I.hok.fresh (oQ s.heap.objs.size);have le:=rg h1;let(oi,bg,_):=h2.obj;have li:=rg bg;have Mv:∀b ∈ [e,it],b≠s.heap.objs.size:=λb g=>by
   simp only[ot,ya,or_false]at g;obtain rfl|rfl:=g
   ·exact x8 le
   exact x8 li
  have up:∀c o,c≠e->h'.get? c=Z o->aN.get? c=Z o:=λc o q z=>MU.extBut _ _ q z;have I1:Inv X gd σ (upd H s.heap.objs.size (.tup [.int i,x])) {s with heap:=s.heap.push {cls:=.type "tuple",data:=.seq #[.int i s.toks,u1]},toks:=s.toks+1}:=
   I.laid (λb u z=>jo _ z) (oQ _) (by show 2<=p6;decide,[.int i s.toks,u1],.cons (_,U) (.cons aP .nil),((_,qg _ U,U,_,U),_,qg _ U,U))
  have V:∀b ∈ [e,it],rj X gd (upd H s.heap.objs.size (.tup [.int i,x])) b:=λb g=>by
   let(f0,r):=hf b g;exact(by rw[ak (Mv b g)];exact f0,r)
  have I2:=by
   refine I1.n4 (h':=aN) (t':=s.toks+1) (λb o g z=>?_) V;simp only[ot,ya,or_false,not_or]at g;let(b1,b2):=g;obtain⟨rfl,rfl⟩|z':=S2 z
   ·exact up _ _ b1 bc
   exact up _ _ b1 (a3 b o b1 b2 z')
  exact(.ref s.heap.objs.size,upd H s.heap.objs.size (.tup [.int i,x]),I2,U,(_,x,hn,U,U,λzs hz=>by rw[I.pe hz q1];exact e1),(((_,(Qw:)),a5.at λo z=>up _ _ Q.symm z)),λb g=>(V b g).1)
 done:=by intro X hP hw hK q i gd s σ H E I hf st hg;subst hP hw hK;let((old,h1),h2):=st;let(xs,q1,Cc):=hg;let(its,rv,o1,z1):=I.ug q1;have g1:=rv.length;refine FK (I.ok.hd q) h1 h2 o1 (by simp;lia) λh' k=>(U,I.n4 (λb o g z=>?_) hf);simp only[ot,ya,or_false,not_or]at g;exact k b o g.2 z
 self:=λ_ _ _ _ _ st h=>let((_,z),_):=st;wpAny_pyIter_enum z h
def sQ(K:BT)(tp:Bool)(ta:TA):TI:=λσ H R=>ta σ H λvs H1=>∃l,vs=[.ref l]/\(∃xs,SqB K tp H1 l xs)/\R (Ite K tp l) H1
def Ik{x1}{a:Do}{ta:TA}{p pos:Pos}(hg:Gl X "enumerate")(hm:X.mg "enumerate"=Y)(cL:bootBuiltins "enumerate"=Z (.type "enumerate"))(ha:PA X [a] ta)(hs:‹AD X a›):
  PI X (.Tuple elts x1 pos') (.Call (.Name "enumerate" p) [a] [] pos) (sQ X.K tp ta):=by
 intro gd s σ H R I h;refine Call_ (gN I hg hm cL (PyProof.Rows.callWith_type1 (thn (ha pos gd s σ H _ I h) λus s1 (vs,H1,P,r1,q1)=>?_) hs U));let(l,e,(xs,q2),q):=q1;subst e;let(u1,U,Q):=vals1 r1;cases Q;let(its,rv,o1,z1):=P.ug q2;refine si o1 λh' he hi hk=>wpAny_pyIter_enum he ?_;refine(_,[s1.heap.objs.size+1,s1.heap.objs.size],_,_,H1,U,P.kept hk,Bn _ _ l (λz=>absurd (z) bd),((_,he),hi),λc V=>?_,q);have g:s1.heap.objs.size<=c:=by simp only[ot,ya,or_false]at V;obtain rfl|rfl:=V <;> first|exact Nat.le_add_right _ _|exact oQ _
 exact P.Cf g (P.hok.fresh g)
end L2
namespace L2
open PySem PySem.Spec PyProof.Rows
variable{kvs:ό}
section
variable{X:Cx}{gd:Ξ}{σ:St}{H:Hp}{s:ϋ}{a:J}{u u':HO}
def Inv.zZ(I:Inv X gd σ H s)(g:H a=Z u)(h1:∀xs,u ≠ .tup xs)(h2:∀c,u ≠ .own c)(h3:∀ps,u ≠ .tbl ps)(P:∀o v,X.bi a≠Z (.frz o v))(new:bZ X.prog X.w (upd H a u') s.heap a u'):Inv X gd σ (upd H a u') s:=by
 have ne:∀{b:J},H b=Y->b≠a:=λ{b} e z=>by rw[z,g]at e;cases e
 refine(I.ok,I.os,I.bare,(I.base.keep,I.base.slot,λb o e n hx=>?_,I.base.there,λb xs e=>?_,λb o v e=>?_,λb ps e=>?_),I.loc,I.cell,?_,λx c e=>?_,λp hp=>?_,λb o e=>?_,I.len)
 ·have:=I.base.free b o e n hx;rw[ak (ne this)];exact this
 ·have:=I.base.lQ b xs e;rw[ak λz=>by rw[z,g]at this;exact h1 xs (Option.some.inj this)];exact this
 ·have:=I.base.iO b o v e;rw[ak λz=>by rw[z]at e;exact P o v e];exact this
 ·let(more,this):=I.base.lT b ps e;refine(more,?_);rw[ak λz=>by rw[z,g]at this;exact h3 _ (Option.some.inj this)];exact this
 ·rw[ak (ne I.free)];exact I.free
 ·rw[ak (ne (I.df x c e))];exact I.df x c e
 ·let(p1,p2,p3):=I.pin p hp;exact(p1,by rw[ak (ne p2)];exact p2,p3)
 by_cases K:b=a
 ·subst K;rw[au]at e;cases e;exact new
 rw[ak K]at e;refine(I.hok b o e).cJ (λ_ _ _ q=>q) (λc q=>?_) λc xs q=>?_
 ·rw[ak λz=>by rw[z,g]at q;exact h2 _ (Option.some.inj q)];exact q
 rw[ak λz=>by rw[z,g]at q;exact h1 _ (Option.some.inj q)];exact q
def Inv.freeze(I:Inv X gd σ H s)(g:H a=Z (.dK kvs)):(∀o v,X.bi a≠Z (.frz o v))/\∃o,Inv X gd σ (upd H a (.frz o (.dK kvs))) s:=by
 have q:∀o v,X.bi a≠Z (.frz o v):=λo v e=>by
  have:=I.base.iO a o v e;rw[g]at this;cases this
 let(z,hs,vs,r,o,es,K,e,c):=(I.hok a _ g);exact(q,o,I.zZ g nofun nofun nofun q (e,z,hs,vs,r,o,es,K,e,c))
end
end L2
namespace PySem
open Sem (wp)
open Builtin Builtin.ObjectAttr
inductive jx(h:Dd)(S:Γ)(bmB:Δ):Δ->Prop
 |base:jx h S bmB bmB|own{A:J}{c0:B}{dd:Option J}{cd:ClassData}{sl:Array (Option B)}{mA:Υ}{tl:Δ} :
   h.get? A=Z {cls:=c0,dict:=dd,data:=.cls cd,slots:=sl}->h.Ns cd.ns mA->(∀n∈S,mA n=Y)->jx h S bmB tl->jx h S bmB (.ref A::tl)
def jx.tail{h:Dd}{S:Γ}{bmB tl:Δ}(q:("__init__":Str)∈S)(T:jx h S bmB tl):OwnTail h bmB tl:=by induction T with|base=>exact .base|own K z hn _ g=>exact .own K z (hn _ q) g
def jx.hasType{h:Dd}{S:Γ}{bmB tl:Δ}(T:jx h S bmB tl){X:String}{b:Bool}(q:bmB.contains (.type X)=b):tl.contains (.type X)=b:=by induction T with|base=>exact q|own _ _ _ _ g=>rw[Sx,g];rfl
section
variable{nm q:Str}{C N x:J}{bs bm bmB:Δ}{sn:Γ}{sub:Δ}{ab zz:Bool}{col:Option Bool}{dd:Option J}{k0 k1 k2 k3 k5:Option B}{TL newId sa owner:String}
 {mN mA:Υ} {name:Str} {v:B} {S:Γ}
end
section
variable{nm q:Str}{C N x:J}{bs bm bmB:Δ}{sn:Γ}{sub:Δ}{ab zz:Bool}{col:Option Bool}{dd:Option J}{k0 k1 k2 k3 k5:Option B}{TL newId:String}
 {mN mA:Υ} {name:Str} {v:B} {S:Γ} {o:Obj}
end
end PySem
namespace PySem
open Sem (wp)
def rA(h:Dd)(e:J)(cls:B)(dx:Option J)(y:B):Prop:=
 ∃o vs g,h.get? e=Z o/\o.cls=cls/\o.dict=dx/\o.data=.fields vs/\vs[0]?=Z g/\vs[1]?=Z y
def fD(h:Dd)(e:J)(cls:B)(dx:Option J)(T:J)(fl:B):Prop:=
 T≠e/\rA h e cls dx (.ref T)/\∃g ts,h.get? T=Z g/\g.data=.fields ts/\ts[3]?=Z fl
structure cX(fr ex:Θ)(h h':Dd):Prop where
 keep:∀b o,h.get? b=Z o->b ∉ fr->b ∉ ex->h'.get? b=Z o
 slot:∀b o,h.get? b=Z o->b ∉ ex->∃sl,h'.get? b=Z {o with slots:=sl}
 there:∀b o,h.get? b=Z o->∃o',h'.get? b=Z o'
def cX.trans{fr ex g:Θ}{h h1 h2:Dd}(a:cX fr ex h h1)(b:cX fr g h1 h2)(hs:∀b o,h.get? b=Z o->b∈g->b∈ex):cX fr ex h h2 where
 keep:=λc o e hf hx=>b.keep c o (a.keep c o e hf hx) hf λz=>hx (hs c o e z)
 slot:=λc o e hx=>by
  let(sl,K):=a.slot c o e hx;let(q,P):=b.slot c _ K λz=>hx (hs c o e z);exact(q,P)
 there:=λc o e=>let(o',K):=a.there c o e;b.there c o' K
def cX.mono{fr fr' ex ex':Θ}{h h1:Dd}(a:cX fr ex h h1)(hf:∀b∈fr,b∈fr')(hx:∀b∈ex,b∈ex'):cX fr' ex' h h1:=
 (λb o e n m=>a.keep b o e (λz=>n (hf b z)) λz=>m (hx b z),λb o e m=>a.slot b o e λz=>m (hx b z),a.there)
def cX.jl{fr ex:Θ}{h h1 base:Dd}{l:List Env}(a:cX fr ex h h1)(hx:∀b o,b∈ex->h.get? b=Z o->∃vs,o.data=.fields vs)(hl:h.FunFrames base l):h1.FunFrames base l:=
 hl.of_keeps λb o e hn=>by
  let(sl,q):=a.slot b o e λz=>by let(vs,q):=hx b o z e;exact hn vs q
  exact(_,q,U)
def il{h:Dd}{T i:Nat}{x:B}{K:Obj}{ts:Array B}(hT:h.get? T=Z K)(hd:K.data=.fields ts):cX [] [T] h (h.update T (Sf (·.setIfInBounds i x))):=by
 have q:∀b,b≠T->(h.update T (Sf (·.setIfInBounds i x))).get? b=h.get? b:=λb g=>Fs _ _ (Ne.symm g);refine(λb o e _ n=>(q b λz=>n (by simp[z])).trans e,λb o e n=>(o.slots,(q b λz=>n (by simp[z])).trans e),λb o e=>?_);by_cases g:b=T
 ·rw[g];exact(_,JX _ hT (RJ (Rr hd _)))
 exact(o,(q b g).trans e)
section
variable{M:Model}{A:Db}{E:Φ}{s:ϋ}
variable{base:Dd}{env:Env}{outer:List Env}{L e T:J}{cls:B}{dx:Option J}{Q:Unit->ϋ->Prop}
def FL{y head:B}{Jr:Bool}(aP:A.frames=Z (env::outer))(hl:s.heap.FunFrames base (env::outer))(hf:env.frame=Z L)(hx:rA s.heap e cls dx y)
  (hq:∀h' T',s.heap.objs.size<=T'->fD h' e cls dx T' (rawInt L)->cX ((env::outer).filterMap (·.frame)) [e] s.heap h'->Q () {s with heap:=h'}):
  wpAny M A (do let a <- frameOf env;let pl <- entryPlaceOf L Jr;let b <- EntryCells.newEntry head a .none (rawInt L) .none pl;setField (.ref e) 1 b) Q E s:=by
 let(o,vs,a0,ho,hc,aT,hd,h0,h1):=hx;have hsz:1<vs.size:=(RN.mp h1).1;have aN:e ∉ (env::outer).filterMap (·.frame):=λz=>by
  let(_,o',P,hn):=hl.mem z;rw[ho]at P;cases P;exact hn vs hd
 refine gV (wpAny_frameOf_fun aP hl hf λg hg=>?_);refine gV (wpAny_entryPlaceOf λpl K=>?_);unfold EntryCells.newEntry newFields;refine gV (RM ?_ (K.sizeOk5 _ _ _ _ _));have e1:g.get? e=Z o:=(hg.2.1 e aN).trans ho;have e2:=jo (h:=g) {cls:=.type "traceback",dict:=Y,data:=.fields ([head,.ref L,.none,rawInt L,.none]++(if pl.isEmpty then CB 6 B.none else pl)).toArray} e1;have V:g.objs.size≠e:=Rl (rg e1);have d3:=Rr hd (·.setIfInBounds 1 (B.ref g.objs.size));have e3:=JX (Sf (·.setIfInBounds 1 (B.ref g.objs.size))) e2 (RJ d3);refine R7 e2 hd hsz (hq _ g.objs.size (Sr hg.1.symm) (V,(_,_,a0,e3,(Te _ _).trans hc,?_,d3,by rw[Array.getElem?_setIfInBounds_ne am];exact h0,by simp[hsz]),?_) ?_)
 ·rw[<- aT];let(_,_,dt,_):=o;cases dt <;> rfl
 ·exact(_,_,(Fs _ _ (Ne.symm V)).trans (qg g U),U,by first|(simp;done)|(obtain rfl |⟨_,_,_,_,_,_,_,rfl⟩:=K <;> simp))
 have kp:∀b ob,b≠e->g.get? b=Z ob->((g.push {cls:=.type "traceback",dict:=Y,data:=.fields ([head,.ref L,.none,rawInt L,.none]++(if pl.isEmpty then CB 6 B.none else pl)).toArray}).update e (Sf (·.setIfInBounds 1 (B.ref g.objs.size)))).get? b=Z ob:=
  λb ob hb q=>(Fs _ _ (Ne.symm hb)).trans (jo _ q)
 refine(λb ob q n m=>kp b ob (λz=>m (by simp[z])) ((hg.2.1 b n).trans q),λb ob q m=>?_,λb ob q=>?_)
 ·let(sl,q2):=hg.2.2 b ob q;exact(sl,kp b _ (λz=>m (by simp[z])) q2)
 by_cases hb:b=e
 ·rw[hb];exact(_,e3)
 let(sl,q2):=hg.2.2 b ob q;exact(_,kp b _ hb q2)
def ej{fl:B}(hx:fD s.heap e cls dx T fl)(hq:∀h',fD h' e cls dx T .none->cX [] [T] s.heap h'->Q () {s with heap:=h'}):wpAny M A (setFlight (.ref e) Y) Q E s:=by let(z,(o,vs,V,ho,P,K,hd,h0,h1),oT,ts,hT,g,h3):=hx;have q:3<ts.size:=(RN.mp h3).1;unfold setFlight;refine gV (wpAny_field ho hd h1 ?_);rw[if_pos (show(B.ref T != B.none)=O from by simp)];refine R7 hT g q (hq _ (z,(o,vs,V,(Fs _ _ z).trans ho,P,K,hd,h0,h1),_,_,JX _ hT (RJ (Rr g _)),Rr g _,by simp[q]) (il hT g))
def m5(g:A.frames=Z (env::outer))(hl:s.heap.FunFrames base (env::outer))(hf:env.frame=Z L)(hx:rA s.heap e cls dx .none)
  (hq:∀h' q,s.heap.objs.size<=q->fD h' e cls dx q (rawInt L)->cX ((env::outer).filterMap (·.frame)) [e] s.heap h'->Q () {s with heap:=h'}):wpAny M A (noteFrame (.ref e) env) Q E s:=by
 let(o,vs,P,ho,K,z,hd,h0,h1):=id hx;unfold noteFrame;simp only[hf];refine gV (wpAny_field ho hd h1 ?_);rw[if_neg am];exact FL g hl hf hx hq
def p8(V:A.frames=Z (env::outer))(hl:s.heap.FunFrames base (env::outer))(hf:env.frame=Z L)(hx:fD s.heap e cls dx T .none)
  (hq:∀h' K,s.heap.objs.size<=K->fD h' e cls dx K (rawInt L)->cX ((env::outer).filterMap (·.frame)) [e,T] s.heap h'->Q () {s with heap:=h'}):wpAny M A (noteFrame (.ref e) env) Q E s:=by
 let(aT,(o,vs,a0,ho,hc,aN,hd,h0,h1),oT,ts,hT,g,h3):=hx;unfold noteFrame;simp only[hf];refine gV (wpAny_field ho hd h1 ?_);rw[if_pos (show(B.ref T != B.none)=O from by simp)];refine gV (wpAny_field hT g h3 ?_);rw[if_neg (show ¬((B.none==rawInt L)=O)from by simp[rawInt])];refine gV (R7 hT g (RN.mp h3).1 ?_);have k1:=il (i:=3) (x:=B.none) hT g;have P:∀b ob,b ∈ [T]->s.heap.get? b=Z ob->∃ws,ob.data=.fields ws:=λb ob hb q=>by
  have aP:b=T:=(hb:);subst aP;rw[hT]at q;cases q;exact(ts,g)
 refine FL (y:=.ref T) V (k1.jl P hl) hf (o,vs,a0,(Fs _ _ aT).trans ho,hc,aN,hd,h0,h1) λh' K sz al k2=>hq h' K ?_ al ?_
 ·have:(s.heap.update T (Sf (·.setIfInBounds 3 B.none))).objs.size=s.heap.objs.size:=by simp[Heap.update]
  exact vN (Sr this.symm) sz
 exact(k1.mono (fr':=(env::outer).filterMap (·.frame)) (ex':=[e,T]) nofun (λb z=>by simp at z;simp[z])).trans k2 λb ob _ z=>by simp at z;simp[z]
def qy(g:A.frames=Z (env::outer))(hl:s.heap.FunFrames base (env::outer))(hf:env.frame=Z L)(hx:rA s.heap e cls dx .none)
  (hq:∀h' T',s.heap.objs.size<=T'->fD h' e cls dx T' .none->cX ((env::outer).filterMap (·.frame)) [e] s.heap h'->Q () {s with heap:=h'}):wpAny M A (leaving env (.ref e)) Q E s:=by
 unfold leaving;refine gV (m5 g hl hf hx λh1 V sz al k1=>ej al λh2 P k2=>hq h2 V sz P ?_);exact k1.trans (k2.mono nofun λb z=>z) λb ob q z=>by
  have K:b=V:=(z:);subst K;exact absurd (u4 (rg q) sz) (Gj _)
def rX(g:A.frames=Z (env::outer))(hl:s.heap.FunFrames base (env::outer))(hf:env.frame=Z L)(hx:fD s.heap e cls dx T .none)
  (hq:∀h' T',s.heap.objs.size<=T'->fD h' e cls dx T' .none->cX ((env::outer).filterMap (·.frame)) [e,T] s.heap h'->Q () {s with heap:=h'}):wpAny M A (leaving env (.ref e)) Q E s:=by
 unfold leaving;refine gV (p8 g hl hf hx λh1 V sz al k1=>ej al λh2 P k2=>hq h2 V sz P ?_);exact k1.trans (k2.mono nofun λb z=>z) λb ob q z=>by
  have K:b=V:=(z:);subst K;exact absurd (u4 (rg q) sz) (Gj _)
end
end PySem
namespace L2
open PySem PySem.Spec PyProof.Rows
abbrev bmV:List Value:=[.type "ValueError",.type "Exception",.type "BaseException",.type "object"]
abbrev xS(fn:Γ):Γ:="__setattr__" :: "__getattribute__" :: "__getattr__" :: "__class__" :: fn
structure mQ(K:BT)(fn:Γ)(C:J)(bm:Δ)(ini:Option J):Prop where
 all:∀h:Dd,K.In h->∃nm q N bs sn sub ab col dd k0 k1 k2 k3 k5 mN,h.get? C=Z (excClassObj nm q C N bs bm O sn sub ab col dd k0 k1 k2 k3 k5 "ValueError.__new__")/\h.Ns N mN /\
  (∀n∈xS fn,mN n=Y)/\mN "__init__"=ini.map B.ref/\jx h ("__init__" :: xS fn) bmV bm
 cl:∃cd,W.clsIn K C=Z cd/\cd.mro=.ref C::bm
 ty:W.typeIn K (.ref C)=Z (.type "type")
def n6(K:BT)(S:Γ)(bmB:Δ):Δ->Bool
 |[]=>bmB == []|v::r=>(v::r)==bmB||match v with
  |.ref A=>(match K.lookup A with
|some (_,_,.cls cd,_)=>W.nsOkIn K cd.ns&&S.all (λn=>W.nsIn K cd.ns n==Z Y)&&n6 K S bmB r
|_=>ϊ)
  |_=>ϊ
theorem vW{K:BT}{h:Dd}{S:Γ}{bmB:Δ}(X:K.In h):∀{l:Δ},n6 K S bmB l=O->jx h S bmB l
 |[],e=>by rw[<- beq_iff_eq.mp e];exact .base|v::r,e=>by
  unfold n6 at e;obtain q|q:=Bool.or_eq_true_iff.mp e
  ·rw[beq_iff_eq.mp q];exact .base
  split at q
  ·split at q
   ·rename_i ho;rw[ri,ri]at q;exact .own (X _ _ ho) (.of_isNs (W.isNs_of_in X q.1.1)) (λn hn=>W.nsMap_none_of_in X q.1.1 (beq_iff_eq.mp (JW.mp q.1.2 n hn))) (vW X q.2)
   cases q
  cases q
def Pm:Data->Option ClassData
 |.cls cd=>Z cd|_=>Y
def Cr{d:Data}{cd:ClassData}(h:Pm d=Z cd):d=.cls cd:=by cases d <;> first|exact congrArg Data.cls (Option.some.inj h)|cases h
def CF(K:BT)(fn:Γ)(C:J)(bm:Δ)(ini:Option J)(sl:Array (Option B))(cd:ClassData):Bool:=
 cd.mro == .ref C::bm&&sl.size==6&&sl[4]? == Z (Z (.builtin "ValueError.__new__")) && !cd.hasDel&&cd.hasDict&&n6 K ("__init__" :: xS fn) bmV bm&&W.nsOkIn K cd.ns &&
  (xS fn).all (λn=>W.nsIn K cd.ns n==Z Y)&&W.nsIn K cd.ns "__init__" == Z (ini.map B.ref)
def oR(K:BT)(fn:Γ)(C:J)(bm:Δ)(ini:Option J):Bool:=(K.lookup C).any λo=>o.cls == .type "type" && (Pm o.data).any (CF K fn C bm ini o.slots)
def any_some{α:Type}{o:Option α}{f:α->Bool}(h:o.any f=O):∃a,o=Z a/\f a=true:=by
 cases o with
 |none=>cases h
 |some a=>exact(a,U,h)
def six{α:Type}{l:List α}(h:l.length=6):∃a b c d e f,l=[a,b,c,d,e,f]:=by
 cases l with
 |nil=>cases h
 |cons a l=>cases l with
  |nil=>cases h
  |cons b l=>cases l with
   |nil=>cases h
   |cons c l=>cases l with
    |nil=>cases h
    |cons d l=>cases l with
     |nil=>cases h
     |cons e l=>cases l with
      |nil=>cases h
      |cons f l=>exact(a,b,c,d,e,f,by rw[NA.mp (show l.length=0 by simpa using h)])
variable{mg:Υ}
theorem zg{K:BT}{h:Dd}{N:J}{n:Str}{v:B}(X:K.In h)(G:h.Ns N mg)(e:W.nsIn K N n=Z (Z v)):mg n=Z v:=by
 let(o,es,z,ho,hd,_,hf):=G;unfold W.nsIn at e;split at e
 ·rename_i c d g n' sl q;have:=X _ _ q;rw[ho]at this;cases this;cases hd;split at e
  ·rename_i P he;cases e;rw[<- hf];unfold nsFind findBy;rw[<- S8,he];rfl
  split at e <;> cases e
 cases e
variable{C:J}{bm:Δ}
theorem tY{K:BT}{fn:Γ}{ini:Option J}(q:oR K fn C bm ini=O):mQ K fn C bm ini:=by unfold oR at q;let((cl,dd,da,sl),ho,q):=any_some q;rw[ri]at q;let(q0,q):=q;let(cd,z,q):=any_some q;have e0:cl=.type "type":=eq_of_beq q0;have e1:da=.cls cd:=Cr z;subst e0 e1;unfold CF at q;simp only[ri,beq_iff_eq,RL]at q;let((((((((hm,h6),h4),Q),V),ht),hok),P),g):=q;let(nm,bs,mro,ns,qn,hd,sn,sub,ab,col,del):=cd;dsimp only at hm Q hok g V P;subst hm Q V;let⟨l⟩:=sl;let(k0,k1,k2,k3,k4,k5,U):=six (l:=l) h6;obtain rfl:k4=Z (.builtin "ValueError.__new__"):=Option.some.inj h4;refine(λh X=>?_,(_,by unfold W.clsIn;rw[ho],U),by show(K.lookup _).map (·.cls)=_;rw[ho];rfl);refine(nm,qn,ns,bs,sn,sub,ab,col,dd,k0,k1,k2,k3,k5,_,X _ _ ho,.of_isNs (W.isNs_of_in X hok),λn hn=>W.nsMap_none_of_in X hok (JW.mp P n hn:),?_,vW X ht);cases ini with|none=>exact W.nsMap_none_of_in X hok g|some f=>exact zg X (.of_isNs (W.isNs_of_in X hok)) g
def XAt(a C:J)(dx:Option J)(b:Bool)(h:Dd):Prop:=∃y,rA h a (.ref C) dx y/\(b=O->y=.none)
def XD(dx:J)(fs:List (Str×V))(h:Dd):Prop:=∃mA,h.Ns1 dx mA/\(∀f,jn (fs.lookup f) (mA f))/\PySem.Within mA (fs.map (·.1))
def ExH(H:Hp)(a C:J)(b:Bool)(fs:List (Str×V)):Prop:=(fs=[]/\H a=Z (.ext (XAt a C Y b)))\/∃dx,dx≠a/\H a=Z (.ext (XAt a C (Z dx) b))/\H dx=Z (.ext (XD dx fs))
variable{ex:Θ}
section
variable{P:Da}{w:Cl}{H:Hp}{h h':Dd}{a d:J}{dx:Option J}{b:Bool}{fs:List (Str×V)}
def XAt.ok(x:XAt a C dx b h):bZ P w H h a (.ext (XAt a C dx b)):=by refine(x,?_,λh1 h2 (y,(o,vs,g,e,r),z) k=>(y,(o,vs,g,k o e,r),z));let(y,(o,vs,g,e,r),z):=x;exact(o,e)
def XD.ok(x:XD d fs h):bZ P w H h d (.ext (XD d fs)):=by refine(x,?_,λh1 h2 (mA,(o,es,g,e,r),z) k=>(mA,(o,es,g,k o e,r),z));let(mA,(o,es,g,e,r),z):=x;exact(o,e)
def bZ.at{o:HO}(x:bZ P w H h a o):∃u,h.get? a=Z u:=by cases o with|lst xs=>let(_,_,_,_,e):=x;exact(_,e)|tup xs=>let(_,_,_,p):=x;let(o,e,_):=p.1;exact(o,e)|dK kvs=>let(_,_,_,_,o,_,_,e,_):=x;exact(o,e)|dT kvs=>let(_,_,_,_,o,_,_,e,_):=x;exact(o,e)|set S n=>let(o,_,_,_,e,_):=x;exact(o,e)|ins C dx fs=>let(_,_,_,e,_):=x;exact(_,e)|own y=>exact x|xd fs=>let(_,(o,_,_,e,_),_):=x;exact(o,e)|room g=>let(_,_,_,e):=x;exact(_,e)|rng lo hi=>let(_,_,_,e):=x;exact(_,e)|frz ob u=>let(e,_):=x;exact(_,e)|tbl ps=>exact(_,(show h.get? a=Z _ from x))|met f y=>exact(_,(show h.get? a=Z _ from x))|ext φ=>exact x.2.1
def HOk.no(x:HOk P w H h)(e:h.get? a=Y):H a=none:=by cases q:H a with|none=>rfl|some u =>let(v,z):=(x a u q).at;rw[e]at z;cases z
def HOk.xg{o:HO}(x:HOk P w H h)(k:∀b u,h.get? b=Z u->h'.get? b=Z u)(hp:h.get? a=Y)(new:bZ P w (upd H a o) h' a o):HOk P w (upd H a o) h':=λb u e=>by
 have hn:=x.no hp;by_cases g:b=a
 ·subst g;rw[au]at e;cases e;exact new
 rw[ak g]at e;exact(x b u e).cJ (λc v _ q=>k c v q) (λc q=>by rw[ak (aI q hn)];exact q) λc xs q=>by rw[ak (aI q hn)];exact q
def Un.xg{fs:Θ}{o:HO}(k:∀b u,h.get? b=Z u->h'.get? b=Z u)(hp:h.get? a=Y)(hn:H a=Y):Un fs ex H (upd H a o) h h' where
 keep:=λb u q _ _ _=>k b u q
 slot:=λb u q _ _ _=>(u.slots,k b u q)
 free:=λb u q n _=>by rw[ak (λz=>by rw[z,hp]at q;cases q)];exact n
 there:=λb u q _=>(u,k b u q)
 lQ:=λb xs q=>by rw[ak (aI q hn)];exact q
 iO:=λb u xs q=>by rw[ak (aI q hn)];exact q
 lT:=λb ps q=>(#[],by rw[ak (aI q hn),q];simp)
theorem Inv.xg{X:Cx}{gd:Ξ}{σ:St}{s:ϋ}{o:HO}{t':Nat}(I:Inv X gd σ H s)(k:∀b u,s.heap.get? b=Z u->h'.get? b=Z u)(hp:s.heap.get? a=Y)(new:bZ X.prog X.w (upd H a o) h' a o):
  Inv X gd σ (upd H a o) {s with heap:=h',toks:=t'}:=I.un (Un.xg k hp (I.hok.no hp)) (I.hok.xg k hp new)
end
def zS(C:J):TE:=λ_ H Q=>∀a,H a=Y->Q (.ref a) (upd H a (.ext (XAt a C Y O)))
variable{h':Dd}
section
variable{X:Cx}{gd:Ξ}{σ:St}{H:Hp}{s:ϋ}{fn:Γ}{x:Str}{p pos:Pos}{e:Do}{t:TA}
def Ja{args:Δ}{h:Dd}{e:J}(m:Heap.MadeExcOf h h' e (.ref C) args):XAt e C Y O h':=by let(t,he,_,_):=m.there;exact(.none,(_,_,_,he,U,U,U,U,U),λ_=>rfl)
theorem BJ(M:mQ X.K fn C bm Y)(kp:W.keepIn X.K (.ref C)=O)(hg:Gl X x)(hm:X.mg x=Z (.ref C))(z:autoParam (AS x) zdc._auto_1):PE X (.Call (.Name x p) [] [] pos) (zS C):=by left;refine KY (kI I hg hm ?_ z);refine W.callWith_K0 I.kIn kp ?_;let(nm,q,N,bs,sn,sub,ab,col,dd,k0,k1,k2,k3,k5,mN,V,P,hS,hi,T):=M.all s.heap I.kIn;have mk:∀h' e,Heap.MadeExcOf s.heap h' e (.ref C) []->EP X gd σ Q (.ref e) {s with heap:=h'}:=λh' e m=>(.ref e,_,I.xg (t':=s.toks) m.keeps m.new (Ja m).ok,U,h e (I.hok.no m.new));let(hh,g,dr,tk,os):=s;exact wpAny_call_exc_subT PySem.F.excBase_ValueError (jx.tail ap T) V P hi (λh' e m=>mk h' e m)
end
end L2
namespace PySem
open Sem (wp)
section
variable{M:Model}{A:Db}{E:Φ}{env:Env}
variable{nm q nm' q':Str}{C N C' N':J}{bs bm bs' bm':Δ}{zz O5:Bool}{sn sn':Γ}{sub Hc:Δ}{ab ab':Bool}{col Pk:Option Bool}{dd dd':Option J}{k0 k1 k2 k3 k5 j0 j1 j2 j3 j5:Option B}{newId Mn:String}
def Lj{s:ϋ}{x:Sem B}{Q:Flow->ϋ->Prop}(hh:A.handled=Y)
  (h:wpAny M A x (λv z=>∃e K C nm q N bs bm zz sn sub ab col dd k0 k1 k2 k3 k5 newId,v=.ref e/\z.heap.get? C=Z (excClassObj nm q C N bs bm zz sn sub ab col dd k0 k1 k2 k3 k5 newId)/\bm.contains (.type "BaseException")=O /\
z.heap.get? e=Z K/\K.cls=.ref C/\(∃vs,K.data=.fields vs/\vs[1]?=Z .none)/\E (.ref e) z) E s):wpAny M A (raiseStmt env (Z x) Y) Q E s:=by
 unfold raiseStmt;refine gV (JZ h (λv z P=>?_) λ_ _ x=>x);let(e,K,C,nm,q,N,bs,bm,zz,sn,sub,ab,col,dd,k0,k1,k2,k3,k5,newId,U,hC,hb,he,Cd,(vs,hd,h1),hE):=P;have V:(B.ref C::bm).contains (.type "BaseException")=true:=by rw[Sx,hb,Bool.or_true]
 let(hp,g,d,tk,os):=z;let(c0,d0,da,sl):=K;dsimp only at Cd hd;subst Cd hd;repeat (first|with_reducible refine wpAny_loadPart_at he ?_|with_reducible refine wpAny_loadPart_at hC ?_|(with_reducible refine wpAny_isSubtype_exc hC ?_;rw[V])|wp_step)
 rw[h1];repeat (first|with_reducible refine wpAny_raiseNew_none hh hE|wp_step)
def Mr{h:Dd}{g:Array GenState}{d:Drawn}{t:Nat}{os:OsState}{e:J}{V:Obj}{Q:Bool->ϋ->Prop}
  (hC:h.get? C=Z (excClassObj nm q C N bs bm zz sn sub ab col dd k0 k1 k2 k3 k5 newId)) (z:h.get? C'=Z (excClassObj nm' q' C' N' bs' bm' O5 sn' Hc ab' Pk dd' j0 j1 j2 j3 j5 Mn)) (he:h.get? e=Z V) (Cd:V.cls=.ref C)
  (hb:bm'.contains (.type "BaseException")=O) (hq:Q ((B.ref C::bm).contains (.ref C')) (h,g,d,t,os)):wpAny M A (excMatches (.ref e) (.ref C')) Q E (h,g,d,t,os):=by
 have P:(B.ref C'::bm').contains (.type "BaseException")=true:=by rw[Sx,hb,Bool.or_true]
 have f:=tc_notTuple;unfold excMatches;repeat (first|(with_reducible refine wpAny_loadPart_at he ?_;rw[Cd])|with_reducible refine wpAny_loadPart_at z ?_|(with_reducible refine wpAny_isSubtype_exc z ?_;rw[P])|wp_step)
 all_goals(cases K:(B.ref C::bm).contains (.ref C') <;>(rw[K]at hq;first|exact wpAny_isSubtype_exc hC (by rw[K];exact hq)|(refine wpAny_isSubtype_exc hC ?_;rw[K];repeat (first|exact hq|wp_step))))
end
end PySem
namespace L2
open PySem PySem.Spec PyProof.Rows
def CX1(P:Da)(w:Cl):CXT:=λouter H s E e s'=>∃a C dx T H',e=.ref a/\s'.os=s.os/\AllBare s'.gens/\Un (frs outer) [] H H' s.heap s'.heap/\HOk P w H' s'.heap /\
 H' a=Z (.ext (XAt a C dx ϊ))/\fD s'.heap a (.ref C) dx T .none/\H' T=Y/\s.heap.get? T=Y/\E (.ref C) (Z a) H'
section
variable{P:Da}{w:Cl}{bi H H':Hp}{h₀ h h':Dd}{fs fr ex:Θ}{a C T:J}{dx:Option J}{fl:B}
def Un.kJ(u:Un fs [] bi H h₀ h)(k:cX fr ex h h')(hex:∀b∈ex,(∃φ,H b=Z (.ext φ))\/h₀.get? b=Y)(Q:∀b∈fr,b∈fs\/h₀.get? b=Y)(V:∀b,H' b=H b\/∃φ K,H b=Z (.ext φ)/\H' b=Z (.ext K)):Un fs [] bi H' h₀ h':=by
 have nx:∀b o,h₀.get? b=Z o->H b=Y->b ∉ ex:=λb o e n z=>by
  obtain⟨φ,y⟩|y:=hex b z
  ·rw[n]at y;cases y
  rw[e]at y;cases y
 have st:∀b o,H b=Z o->(∀φ,o ≠ .ext φ)->H' b=Z o:=λb o e n=>by
  obtain z |⟨φ,K,z,_⟩:=V b
  ·rw[z];exact e
  rw[e]at z;cases z;exact absurd U (n φ)
 refine(λb o e n q hx=>?_,λb o e n q hx=>?_,λb o e n hx=>?_,λb o e hx=>?_,λb xs e=>st b _ (u.lQ b xs e) nofun,λb o xs e=>st b _ (u.iO b o xs e) nofun,λb ps e=>?_)
 ·refine k.keep b o (u.keep b o e n q hx) (λz=>?_) (nx b o e (u.free b o e n hx));obtain y|y:=Q b z
  ·exact q y
  rw[e]at y;cases y
 ·let(sl,g):=u.slot b o e n q hx;let(P,e2):=k.slot b _ g (nx b o e (u.free b o e n hx));exact(P,e2)
 ·have n1:=u.free b o e n hx;obtain z |⟨φ,K,z,_⟩:=V b
  ·rw[z];exact n1
  rw[n1]at z;cases z
 ·let(o',g):=u.there b o e hx;exact k.there b o' g
 let(more,g):=u.lT b ps e;exact(more,st b _ g nofun)
def HOk.kJ{φ:Dd->Prop}(ok:HOk P w H h)(k:cX fr ex h h')(g:∀b∈fr,H b=Y)(hex:∀b∈ex,b=a\/H b=Y)(Q:H a=Z (.ext φ))(V:∀b,b≠a->H' b=H b)(new:∀o,H' a=Z o->bZ P w H' h' a o)
  (aN:∃ψ,H' a=Z (.ext ψ)):HOk P w H' h':=λc o e=>by
 by_cases K:c=a
 ·subst K;exact new o e
 rw[V c K]at e;have st:∀b v,H b=Z v->(∀φ,v ≠ .ext φ)->H' b=Z v:=λb v q n=>by
  rw[V b (λz=>by rw[z,Q]at q;cases q;exact n φ U)];exact q
 have go:∀b u v,H b=Z v->b≠a->h.get? b=Z u->h'.get? b=Z u:=λb u v q na r=>k.keep b u r (λz=>by rw[g b z]at q;cases q) λz=>by
  obtain y|y:=hex b z
  ·exact na y
  rw[y]at q;cases q
 refine(ok c o e).cJ (λb u hb r=>?_) (λb q=>st b _ q nofun) λb xs q=>st b _ q nofun;obtain y|y:=hb
 ·rw[y]at r ⊢;exact go c u o e K r
 exact go b u _ y (iI y Q λz=>nomatch z) r
def _root_.PySem.fD.at(x:fD h a (.ref C) dx T fl):XAt a C dx ϊ h:=(_,x.2.1,λz=>nomatch z)
end
variable{P:Da}{mg:Υ}{base:Dd}{N:Γ}{qual:Str}{scope:Scope}{cd:B}{A:Db}{outer:List Env}{bi:Hp}{e:Do}{te:TE}
section
variable{X:Cx}{gd:Ξ}{σ:St}{H:Hp}{s:ϋ}{a C T:J}{dx:Option J}{E:XK}{fn:Γ}
def lE(X:Cx)(Es:St->XK):Prop:=∀(gd:Ξ)(σ:St)(H:Hp)(s:ϋ)(a C:J)(dx:Option J),Inv X gd σ H s->H a=Z (.ext (XAt a C dx O))->Es σ (.ref C) (Z a) (upd H a (.ext (XAt a C dx ϊ)))->X.xe (.ref a) s
def gU(CX:CXT)(X:Cx)(Es:St->XK):Prop:=∀(gd:Ξ)(σ:St)(H:Hp)(s:ϋ)(e:B)(s':ϋ),Inv X gd σ H s->CX X.stack H s (Es σ) e s'->X.xe e s'
def CN{φ q:Dd->Prop}(e:H a=Z (.ext φ))(b:J):upd H a (.ext q) b=H b\/∃φ g,H b=Z (.ext φ)/\upd H a (.ext q) b=Z (.ext g):=by
 by_cases z:b=a
 ·rw[z];exact .inr (φ,q,e,au)
 exact .inl (ak z)
theorem yN{w:Cl}{K:BT}{f:J}{s₀:ϋ}:lE (kX (CX1 P w) P w K mg base N qual scope f cd A outer s₀ bi E) (λ_=>E):=by
 intro gd σ H s a C dx I e hE;obtain⟨y,hx,V⟩:XAt a C dx O s.heap:=(I.hok a _ e).1;rw[V rfl]at hx;refine qy (A:=A.deeper (envOfC qual scope s₀.heap.objs.size f cd)) (env:=envOfC qual scope s₀.heap.objs.size f cd) (outer:=outer) (base:=base) I.ok.frames I.stack U hx λh' T sz al Q=>?_;have lt:∀b o,s₀.heap.get? b=Z o->b<s₀.heap.objs.size:=λb o q=>rg q;refine(a,C,dx,T,upd H a (.ext (XAt a C dx ϊ)),U,I.os,I.bare,?_,?_,au,al,?_,Rw (vN I.sz sz),hE)
 ·refine Un.kJ (fr:=frs (envOfC qual scope s₀.heap.objs.size f cd::outer)) I.base Q (λb g=>?_) (λb g=>?_) (CN e)
  ·rw[fy.mp g];exact .inl (_,e)
  obtain z|z:=ot.mp (I.lV b g)
  ·exact .inr (by rw[z];exact Rw (oQ _))
  exact .inl z
 ·exact HOk.kJ (a:=a) I.hok Q (λb g=>I.i7 b g) (λb g=>.inl (fy.mp g)) e (λb g=>ak g) (λo q=>by rw[au]at q;cases q;exact al.at.ok) (_,au)
 rw[ak al.1];exact I.hok.fresh sz
theorem y9{w:Cl}{K:BT}{f:J}{s₀:ϋ}:gU (CX1 P w) (kX (CX1 P w) P w K mg base N qual scope f cd A outer s₀ bi E) (λ_=>E):=by
 intro gd σ H s e s' I hx;let(a,C,dx,T,H',U,aP,hg,un,hok,V,al,hT,aT,hE):=hx;have g:=I.xP (ch:=[]) aP un hok hg (λb z=>nomatch z);refine rX (A:=A.deeper (envOfC qual scope s₀.heap.objs.size f cd)) (env:=envOfC qual scope s₀.heap.objs.size f cd) (outer:=outer) (base:=base) g.ok.frames g.stack U al λh' T' sz aN kx=>?_;have a0:s₀.heap.get? T=none:=by cases q:s₀.heap.get? T with|none=>rfl|some o =>let(o',z):=I.base.there T o q (λz=>nomatch z);rw[aT]at z;cases z
 refine(a,C,dx,T',H',U,g.os,g.bare,?_,?_,V,aN,g.hok.fresh sz,Rw (vN g.sz sz),hE)
 ·refine Un.kJ (fr:=frs (envOfC qual scope s₀.heap.objs.size f cd::outer)) g.base kx (λb Q=>?_) (λb Q=>?_) (λb=>.inl U)
  ·obtain z|z:=ot.mp Q
   ·rw[z];exact .inl (_,V)
   rw[fy.mp z];exact .inr a0
  obtain z|z:=ot.mp (g.lV b Q)
  ·exact .inr (by rw[z];exact Rw (oQ _))
  exact .inl z
 refine HOk.kJ (a:=a) g.hok kx (λb Q=>g.i7 b Q) (λb Q=>?_) V (λb Q=>rfl) (λo q=>by rw[V]at q;cases q;exact aN.at.ok) (_,V);obtain z|z:=ot.mp Q
 ·exact .inl z
 rw[fy.mp z];exact .inr hT
def CU(K:BT)(fn:Γ)(Es:St->XK)(te:TE):TS:=λ_ σ H=>te σ H λv H1=>∃a C bm ini dx,v=.ref a/\mQ K fn C bm ini/\H1 a=Z (.ext (XAt a C dx O))/\Es σ (.ref C) (Z a) (upd H1 a (.ext (XAt a C dx ϊ)))
def Ee{Es:St->XK}{pos:Pos}(hc:X.calm=O)(hx:lE X Es)(he:PE X e te):PS X (.Raise (Z e) Y pos) (CU X.K fn Es te):=by right;rw[arm_exec_Raise];refine gV (wpAny_standAt (Lj (I.ok.hd hc) (gV (thn (he gd s σ H _ I h) λv s1 Q=>?_))));let(x,H1,V,rx,a,C,bm,ini,dx,ex,c,ea,q):=Q;refine gV (wpAny_standAt (sr ?_));subst ex;obtain rfl:v=B.ref a:=rx;let(nm,q',N,bs,sn,sub,ab,col,dd,k0,k1,k2,k3,k5,mN,hC,hN,hS,hi,T):=c.all s1.heap V.kIn;let(y,(o,vs,a0,e1,P,aN,z,_,hy),g):=(V.hok a _ ea).1;rw[g rfl]at hy;exact(a,o,C,nm,q',N,bs,bm,O,sn,sub,ab,col,dd,k0,k1,k2,k3,k5,_,U,hC,T.hasType am,e1,P,(vs,z,hy),hx gd σ H1 s1 a C dx V ea q)
end
abbrev Cx.inX(X:Cx)(a:J):Cx:={X with A:=X.A.mark (Z (.ref a)),calm:=ϊ,xe:=λ_ _=>False}
theorem Cx.Ok.inX{X:Cx}(ok:X.Ok)(a:J):(X.inX a).Ok:=
 (ok.mod,ok.kind,ok.glob,ok.blt,ok.above,ok.inj,ok.has,ok.cab,(λz=>nomatch z),ok.frames,ok.stk,ok.exf,ok.bs,ok.bsz,ok.zh,ok.Ci,ok.jl,ok.frf)
section
variable{X:Cx}{gd:Ξ}{σ:St}{H:Hp}{s:ϋ}{a:J}
theorem Inv.inX(I:Inv X gd σ H s)(a:J):Inv (X.inX a) gd σ H s:=(I.ok.inX a,I.os,I.bare,I.base,I.loc,I.cell,I.free,I.df,I.pin,I.hok,I.len)
def Inv.BL(ok:X.Ok)(I:Inv (X.inX a) gd σ H s):Inv X gd σ H s:=(ok,I.os,I.bare,I.base,I.loc,I.cell,I.free,I.df,I.pin,I.hok,I.len)
theorem SP.BL(ok:X.Ok){D:Ends}{f:Flow}{s':ϋ}(h:SP (X.inX a) gd D f s'):SP X gd D f s':=by cases f with|next=>let(g,H',I,q):=h;exact(g,H',I.BL ok,q)|brk=>let(g,H',I,q):=h;exact(g,H',I.BL ok,q)|cont=>let(g,H',I,q):=h;exact(g,H',I.BL ok,q)|ret u=>let(v,g,H',I,r,q):=h;exact(v,g,H',I.BL ok,r,q)
abbrev Cx.nJ(X:Cx)(pn:Ξ)(xe:Φ):Cx:={X with pn:=pn,xe:=xe}
theorem Cx.Ok.nJ{X:Cx}(ok:X.Ok)(pn:Ξ)(xe:Φ):(X.nJ pn xe).Ok:=
 (ok.mod,ok.kind,ok.glob,ok.blt,ok.above,ok.inj,ok.has,ok.cab,ok.hd,ok.frames,ok.stk,ok.exf,ok.bs,ok.bsz,ok.zh,ok.Ci,ok.jl,ok.frf)
theorem Inv.nJ(I:Inv X gd σ H s)(xe:Φ):Inv (X.nJ (X.pn++gd) xe) [] σ H s:=(I.ok.nJ _ _,I.os,I.bare,I.base,I.loc,I.cell,I.free,I.df,λp hp=>I.pin p (by rw[u3]at hp;exact hp),I.hok,I.len)
def Inv.mW{xe:Φ}{pins':Ξ}(ok:X.Ok)(I:Inv (X.nJ (X.pn++gd) xe) pins' σ H s):Inv X gd σ H s:=(ok,I.os,I.bare,I.base,I.loc,I.cell,I.free,I.df,λp hp=>I.pin p (vr _ hp),I.hok,I.len)
theorem SP.mW{xe:Φ}(ok:X.Ok){D:Ends}{f:Flow}{s':ϋ}(h:SP (X.nJ (X.pn++gd) xe) [] D f s'):SP X gd D f s':=by cases f with|next=>let(g,H',I,q):=h;exact(g,H',I.mW ok,q)|brk=>let(g,H',I,q):=h;exact(g,H',I.mW ok,q)|cont=>let(g,H',I,q):=h;exact(g,H',I.mW ok,q)|ret u=>let(v,g,H',I,r,q):=h;exact(v,g,H',I.mW ok,r,q)
structure Tb(X:Cx)(gd:Ξ)(H:Hp)(T:J):Prop where
 n:H T=Y
 l:T≠X.env.locals
 z:X.s₀.heap.objs.size<=T
 c:∀x c,X.env.cells.lookup x=Z c->c≠T
 p:∀p∈X.pn++gd,p.1≠T
def Tb.of{T:J}(I:Inv X gd σ H s)(h:s.heap.objs.size<=T):Tb X gd H T where
 n:=I.hok.fresh h
 l:=Rl (u4 I.lt h)
 z:=vN I.sz h
 c:=λx c e z=>by
  let(v,o,ho,_):=I.cell x c e;rw[z]at ho;exact absurd (u4 (rg ho) h) (Gj _)
 p:=λp hp z=>by
  have e:=(I.pin p hp).1;rw[z]at e;exact absurd (u4 (rg e) h) (Gj _)
end
abbrev TH:=J->J->TS
def PH(X:Cx)(hs:List ExceptHandler)(th:TH):Prop:=∀(gd:Ξ)(s:ϋ)(σ:St)(H:Hp)(D:Ends)(a C T:J)(dx:Option J),Inv X gd σ H s->H a=Z (.ext (XAt a C dx ϊ))->fD s.heap a (.ref C) dx T .none->Tb X gd H T ->
 th a C D σ H->Zc X (handleBy (.ref a) X.env hs) (SP X gd D) X.xe s
def FA:TH:=λ_ _ _ _ _=>False
def Pb(K:BT)(fn:Γ)(C':J)(ts:TS)(tr:TH):TH:=λa C D σ H=>∃bm ini,mQ K fn C bm ini/\((B.ref C::bm).contains (.ref C')=O->ts D σ H)/\((B.ref C::bm).contains (.ref C')=ϊ->tr a C D σ H)
variable{hs:List ExceptHandler}{gd:Ξ}{H:Hp}{a:J}{C:J}{dx:Option J}{bm:Δ}{R:Result->ϋ->Prop}{M:Model}{E:Φ}{body:List Ev}
section
variable{X:Cx}{fn:Γ}{C':J}{bm':Δ}{Ca:Option J}{x n:Str}{p pos:Pos}{b0:Ev}{vX:List Ev}{rest:List ExceptHandler}{ts:TS}{tr:TH}
def Ep:PH X hs FA:=λ_ _ _ _ _ _ _ _ _ _ _ _ _ h=>h.elim
def Il{s:ϋ}{σ:St}{ini:Option J}(hg:Gl X x)(hm:X.mg x=Z (.ref C'))(c':mQ X.K fn C' bm' Ca)(z:AS x)
  (I:Inv X gd σ H s) (ea:H a=Z (.ext (XAt a C dx ϊ))) (c:mQ X.K fn C bm ini) (h:R (.ok (if(B.ref C::bm).contains (.ref C')then .brk else .next)) s):
  codeAny (model X.prog X.w) (X.A.mark (Z (.ref a))) (.handlers (.ref a) [.ExceptHandler (Z (.Name x p)) Y [] pos] X.env) R s:=by
 refine codeAny_handlers_test (kI (X:=X.inX a) (I.inX a) hg hm ?_ z);let(nm,q,N,bs,sn,sub,ab,col,dd,k0,k1,k2,k3,k5,mN,hC,_):=c.all s.heap I.kIn;let(nm',q',N',bs',sn',Hc,ab',Pk,dd',j0,j1,j2,j3,j5,V,Q,_,_,_,T'):=c'.all s.heap I.kIn;let(y,(o,vs,a0,e1,P,_),_):=(I.hok a _ ea).1;let(hh,g,dr,tk,os):=s;exact Mr hC Q e1 P (T'.hasType am) h
def Cg{s:ϋ}{σ:St}{T:J}{Q:Unit->ϋ->Prop}(I:Inv X gd σ H s)(q:H a=Z (.ext (XAt a C dx ϊ)))(al:fD s.heap a (.ref C) dx T .none)(tb:Tb X gd H T)
  (h:∀s',Inv X gd σ H s'->Q () s'):wpAny M A (setFlight (.ref a) Y) Q E s:=
 ej al λh' _ k=>h _ (I.turned (it:=T) (t':=s.toks) (λb o g e=>k.keep b o e (λz=>nomatch z) (λz=>g (fy.mp z))) tb.n tb.l (.inr tb.z) tb.c tb.p)
def L5(hg:Gl X x)(hm:X.mg x=Z (.ref C'))(c':mQ X.K fn C' bm' Ca)(g:∀a,PSs (X.inX a) (b0::vX) ts)(hr:PH X rest tr)(P:autoParam (AS x) zdc._auto_1):
  PH X (.ExceptHandler (Z (.Name x p)) Y (b0::vX) pos::rest) (Pb X.K fn C' ts tr):=by
 intro gd s σ H D a C T dx I Q al tb h;let(bm,ini,c,h1,h2):=h;refine wpAny_handleBy_cons (Il hg hm c' P I Q c ?_) (by intro q;cases q);cases V:(B.ref C::bm).contains (.ref C')with|true =>show codeAny _ _ _ _ _;refine codeAny_handlers_suite (Cg I Q al tb λs1 I1=>?_);exact JZ (g a gd s1 σ H D (I1.inX a) (h1 V)) (λf s2 q=>q.BL I.ok) λ_ _ z=>False.elim z|false=>exact hr gd s σ H D a C T dx I Q al tb (h2 V)
def NN(th:TH)(tb:(St->XK)->TS):TS:=λD σ H=>tb (λg cls q H'=>∃a C,cls=.ref C/\q=Z a/\th a C D g H') D σ H
def LI{th:TH}{tb:(St->XK)->TS}{h0:ExceptHandler}(K:X.stack=X.env::X.outer)(hf:X.env.frame=Z X.env.locals)
  (g:∀(Es:St->XK)(pn:Ξ)(xe:Φ),gU (CX1 X.prog X.w) (X.nJ pn xe) Es->lE (X.nJ pn xe) Es->PSs (X.nJ pn xe) body (tb Es)) (hh:PH X (h0::hs) th):PS X (.Try body (h0::hs) [] [] pos) (NN th tb):=by
 right;refine wpAny_Try_except (JZ (g _ (X.pn++gd) (λe a5=>Zc X (noteFrame e X.env) (λ_ s₂=>Zc X (setFlight e Y) (λ_ a3=>Zc X (handleBy e X.env (h0::hs)) (SP X gd D) X.xe a3) X.xe s₂) X.xe a5) ?_ ?_ [] s σ H D (I.nJ _) h) (λf s1 q=>?_) λe s1 q=>q)
 ·intro pins' P H1 s1 e s2 I1 hx;let(a,C,dx,T,H',U,bg,hg,un,hok,ea,al,hT,br,a',C',ec,eo,hE):=hx;cases ec;cases eo;have TN:=I1.mW I.ok;have J2:=TN.xP (ch:=[]) bg un hok hg (λb z=>nomatch z);have V:=J2.stack;rw[K]at V;refine p8 (base:=X.base) (L:=X.env.locals) (by rw[<- K];exact J2.ok.frames) V hf al λh3 T3 Q aP k3=>?_;refine ej aP λh4 aN k4=>?_;have kx:cX ((X.env::X.outer).filterMap (·.frame)) [a,T] s2.heap h4:=k3.trans (k4.mono nofun λb z=>z) λb ob q z=>by
   rw[fy.mp z]at q;exact absurd (u4 (rg q) Q) (Gj _)
  have aT:Un (frs X.stack) [] H1 H' s1.heap h4:=Un.kJ un kx (λb g=>by
   obtain z|z:=ot.mp g
   ·rw[z];exact .inl (_,ea)
   rw[fy.mp z];exact .inr br) (λb g=>.inl (by rw[K];exact g)) (λb=>.inl U)
  have a0:HOk X.prog X.w H' h4:=by
   refine HOk.kJ (a:=a) J2.hok kx (λb g=>J2.i7 b (by rw[K];exact g)) (λb g=>?_) ea (λb g=>rfl) (λo q=>by rw[ea]at q;cases q;exact aN.at.ok) (_,ea);obtain z|z:=ot.mp g
   ·exact .inl z
   rw[fy.mp z];exact .inr hT
  have J4:Inv X gd P H' {s2 with heap:=h4}:=TN.xP (s':={s2 with heap:=h4}) (ch:=[]) bg aT a0 hg (λb z=>nomatch z);exact hh gd _ P H' D a C T3 dx J4 ea aN (Tb.of J2 Q) hE
 ·intro pins' P H1 s1 a C dx I1 ea hx;let(a',C',ec,eo,hE):=hx;cases ec;cases eo;have TN:=I1.mW I.ok;obtain⟨y,bc,hy⟩:XAt a C dx O s1.heap:=(TN.hok a _ ea).1;rw[hy rfl]at bc;have V:=TN.stack;rw[K]at V;refine m5 (base:=X.base) (L:=X.env.locals) (by rw[<- K];exact TN.ok.frames) V hf bc λh3 T3 Q aP k3=>?_;refine ej aP λh4 aN k4=>?_;have kx:cX ((X.env::X.outer).filterMap (·.frame)) [a] s1.heap h4:=k3.trans (k4.mono nofun λb z=>z) λb ob q z=>by
   rw[fy.mp z]at q;exact absurd (u4 (rg q) Q) (Gj _)
  have aT:Un (frs X.stack) [] H1 (upd H1 a (.ext (XAt a C dx ϊ))) s1.heap h4:=Un.kJ Un.refl kx (λb g=>by rw[fy.mp g];exact .inl (_,ea)) (λb g=>.inl (by rw[K];exact g)) (CN ea);have a0:HOk X.prog X.w (upd H1 a (.ext (XAt a C dx ϊ))) h4:=HOk.kJ (a:=a) TN.hok kx (λb g=>TN.i7 b (by rw[K];exact g)) (λb g=>.inl (fy.mp g)) ea (λb g=>ak g) (λo q=>by rw[au]at q;cases q;exact aN.at.ok) (_,au);have J4:Inv X gd P (upd H1 a (.ext (XAt a C dx ϊ))) {s1 with heap:=h4}:=TN.xP (s':={s1 with heap:=h4}) (ch:=[]) U aT a0 TN.bare (λb z=>nomatch z);have tb:=Tb.of TN Q;exact hh gd _ P _ D a C T3 dx J4 au aN (by rw[ak aP.1];exact tb.n,tb.l,tb.z,tb.c,tb.p) hE
 have q:=q.mW I.ok;cases f with|next=>exact wpAny_execs_nil q|brk=>exact q|cont=>exact q|ret u=>exact q
end
def yp(sp:Sp)(Es:St->XK)(t:TA):TE:=λσ H Q=>t σ H λvs H1=>sp vs H1 Q (Es σ)
section
variable{X:Cx}{CX:CXT}{k:Nat}{f:J}{fd:Ch}{ps:Γ}{sp:Sp}{Es:St->XK}{x:Str}{p pos:Pos}{es:List Do}{t:TA}
theorem EB(F:aS X.prog X.w X.K X.mg X.base CX k f fd ps sp)(hr:cn k X.A)(hg:Gl X x)(hm:X.mg x=Z (.ref f))(hk:W.keepIn X.K (.ref f)=O)(hb:Binds X.K fd ps [])(hx:gU CX X Es)
  (ha:PA X (e::es) t) (V:autoParam (AS x) zdc._auto_1) (he:‹AC X e es›) (P:‹AM X pos es›):
  PE X (.Call (.Name x p) (e::es) [] pos) (yp sp Es t):=by
 left;refine KY (kI I hg hm ?_ V);refine W.callWith_K (h₀:=X.base) I.ok.mod.kin hk (thn (ha pos gd s σ H _ I h) λus s1 (vs,H1,z,r,q)=>(z.kIn,?_)) he P;have hl:(us++[]).length=ps.length:=by rw[u3,<- r.length];exact F.len _ _ _ _ q
 have g:=hb s1 us z.kIn hl;rw[u3]at g;refine wpAny_call (codeAny_mono (F.run X.A X.stack s1 H1 (us,[]) us vs Q (Es σ) hr z.M4 g r q) λr s' hq=>?_);cases r with|error e=>exact hx gd σ H1 s1 e s' z hq|ok fl =>cases fl with|ret u=>exact z.after hq|next=>exact False.elim hq|brk=>exact False.elim hq|cont=>exact False.elim hq
theorem Fun.okX{w:Cl}{K:BT}{st:Ev}{f:J}{k:Nat}(F:Fun K x qual st f fd)(S:az N ps (aq st))(len:∀vs H Q E,sp vs H Q E->vs.length=ps.length)
  (z:∀(cdv:B)(A:Db)(outer:List Env)(s:ϋ)(H:Hp)(vs:Ω)(Q:VK)(E:XK),cn k (A.deeper (envOfC qual (aq st) s.heap.objs.size f cdv))->sp vs H Q E ->
∃t,PSs (kX (CX1 P w) P w K mg base N qual (aq st) f cdv A outer s H E) (bD st) t/\t {nx:=λ_ H'=>Q .non H',rt:=Q} (start N vs) H):aS P w K mg base (CX1 P w) (k+1) f fd ps sp:=by
 let(oc,od,kV,doc,pm,an,cdv,ct,osl,U,lk,q):=F.ex;exact Kx lk q S len λA outer s H vs Q E hr g=>z cdv A outer s H vs Q E hr g
end
def len0{P:Δ->Prop}(h:P [])(us:Δ)(e:us.length=0):P us:=by rw[NA.mp e];exact h
def OQ{P:Δ->Prop}(h:∀a,P [a])(us:Δ)(e:us.length=1):P us:=by
 cases us with
 |nil=>cases e
 |cons a r=>exact len0 (P:=λr=>P (a::r)) (h a) r (Nat.succ.inj e)
def OP{P:Δ->Prop}(h:∀a b,P [a,b])(us:Δ)(e:us.length=2):P us:=by
 cases us with
 |nil=>cases e
 |cons a r=>exact OQ (P:=λr=>P (a::r)) (h a) r (Nat.succ.inj e)
def OO{P:Δ->Prop}(h:∀a b c,P [a,b,c])(us:Δ)(e:us.length=3):P us:=by
 cases us with
 |nil=>cases e
 |cons a r=>exact OP (P:=λr=>P (a::r)) (h a) r (Nat.succ.inj e)
def ON{P:Δ->Prop}(h:∀a b c d,P [a,b,c,d])(us:Δ)(e:us.length=4):P us:=by
 cases us with
 |nil=>cases e
 |cons a r=>exact OO (P:=λr=>P (a::r)) (h a) r (Nat.succ.inj e)
def Qe{P:Δ->Prop}(h:∀a b c d e,P [a,b,c,d,e])(us:Δ)(e:us.length=5):P us:=by
 cases us with
 |nil=>cases e
 |cons a r=>exact ON (P:=λr=>P (a::r)) (h a) r (Nat.succ.inj e)
set_option genInjectivity true in
inductive T where
 |n|b (x:Bool)|i (x:Int)|s (x:Str)|t (xs:List T)|l (xs:List T)|d (ks:List (Key×T))|dj|z (ns:Ψ)|ty (x:String)|k (ws:Γ)|q|fd (o:Obj) (vs:ό) (ks:List (Key×T))|xc (C:J) (ns:Γ) (ts:List T)|rm (u:Int)|ob (C:J) (ns:Γ) (ts:List T)|dp (a:J) (ks:List (Key×T))|lp (a:J) (xs:List T)|zl (xs:List T)|rf (a:J)|om (a C:J) (ns:Γ) (ts:List T)|fz (u:HO)
abbrev ώ:=List T
abbrev Ϗ:=List (Key×T)
abbrev ϐ:=L2.T->Prop
abbrev Dl:=List (J×J)
def FzL(K:BT)(H:Hp)(a:J)(xs:Ω):Prop:=(∃o,H a=Z (.frz o (.lst xs))) \/
  ∃(o:Obj)(its:Array B)(n:Nat),K.lookup a=Z o/\o.cls=.type "list" /\ o.dict=Y/\o.data=.seq its n/\its.size<=p6/\Vals xs its.toList
variable{xs:Ω}
theorem FzL.sq{K:BT}(h:FzL K H a xs):SqL K H a xs:=by
 obtain h|h:=h
 ·exact .inl (.inr h)
 exact .inr h
def vL(a C dx:J)(h:Dd):Prop:=h.get? a=Z (W.instObj C dx)
inductive ObH(H:Hp)(a C:J)(fs:List (Str×V)):Prop
 |mk(dx:_)(h1:dx≠a)(h2:H a=Z (.ext (vL a C dx)))(h3:H dx=Z (.ext (XD dx fs)))
mutual
inductive aB(K:BT)(dl:Dl)(H:Hp):V->T->Θ->Prop where
 |n:aB K dl H .non .n []|b(x:Bool):aB K dl H (.bl x) (.b x) []|i(x:Int):aB K dl H (.int x) (.i x) []|s(x:Str):aB K dl H (.str x) (.s x) []|ty(x:String):aB K dl H (.ty x) (.ty x) []|t{a:J}{vs:Ω}{ts:ώ}{F:Θ}:H a=Z (.tup vs)->aw K dl H vs ts F->aB K dl H (.ref a) (.t ts) F|l{a:J}{vs:Ω}{ts:ώ}{F:Θ}:H a=Z (.lst vs)->aw K dl H vs ts F->aB K dl H (.ref a) (.l ts) (a::F)|d{a:J}{vs:ό}{ts:Ϗ}{F:Θ}:H a=Z (.dK vs)->aR K dl H vs ts F->aB K dl H (.ref a) (.d ts) (a::F)|x{a l:J}:(a,l)∈dl->aB K dl H (.ref a) .dj []|z{a:J}{ns:Ψ}:FzL K H a (ns.map V.int)->aB K dl H (.ref a) (.z ns) []|q{a:J}{xs:Ω}:H a=Z (.lst xs)->aB K dl H (.ref a) .q []|fd{a:J}{o:Obj}{vs:ό}{ts:Ϗ}:H a=Z (.frz o (.dK vs))->aR K dl H vs ts []->aB K dl H (.ref a) (.fd o vs ts) []|k{a:J}{ws:Γ}:(∀H':Hp,SqT K H' a (ws.map V.str))->aB K dl H (.ref a) (.k ws) []|e{a C:J}{b:Bool}{ns:Γ}{vs:Ω}{ts:ώ}:ExH H a C b (ns.zip vs)->aw K dl H vs ts []->aB K dl H (.ref a) (.xc C ns ts) []|rm{a:J}{x u:Int}:H a=Z (.room x)->x<=u->aB K dl H (.ref a) (.rm u) []|ob{a C:J}{ns:Γ}{vs:Ω}{ts:ώ}:ObH H a C (ns.zip vs)->aw K dl H vs ts []->aB K dl H (.ref a) (.ob C ns ts) []|dp{a:J}{vs:ό}{ts:Ϗ}{F:Θ}:H a=Z (.dK vs)->aR K dl H vs ts F->aB K dl H (.ref a) (.dp a ts) (a::F)|lp{a:J}{vs:Ω}{ts:ώ}{F:Θ}:H a=Z (.lst vs)->aw K dl H vs ts F->aB K dl H (.ref a) (.lp a ts) (a::F)|zl{a:J}{o:Obj}{vs:Ω}{ts:ώ}:H a=Z (.frz o (.lst vs))->aw K dl H vs ts []->aB K dl H (.ref a) (.zl ts) []|rf(a:J):aB K dl H (.ref a) (.rf a) []|om{a C dx:J}{ns:Γ}{vs:Ω}{ts:ώ}{F:Θ}:H a=Z (.ins C dx (ns.zip vs))->H dx=Z (.own a)->ns.length=ts.length->aw K dl H vs ts F->aB K dl H (.ref a) (.om a C ns ts) (a::dx::F)|fz{a:J}{o:Obj}{u:HO}:H a=Z (.frz o u)->aB K dl H (.ref a) (.fz u) []
inductive aw(K:BT)(dl:Dl)(H:Hp):Ω->ώ->Θ->Prop where
 |nil:aw K dl H [] [] []|cons{v:V}{x:T}{vs:Ω}{ts:ώ}{F G:Θ}:aB K dl H v x F->aw K dl H vs ts G->aw K dl H (v::vs) (x::ts) (F++G)
inductive aR(K:BT)(dl:Dl)(H:Hp):ό->Ϗ->Θ->Prop where
 |nil:aR K dl H [] [] []|cons{k:Key}{v:V}{x:T}{vs:ό}{ts:Ϗ}{F G:Θ}:aB K dl H v x F->aR K dl H vs ts G->aR K dl H ((k,v)::vs) ((k,x)::ts) (F++G)
end
def HO.mt:HO->Bool
 |.lst _=>O|.dK _=>O|.ins _ _ _=>O|.own _=>O|_=>ϊ
inductive fA(H:Hp)(b:J):Prop
 |mk(o:_)(h1:H b=Z o)(h2:o.mt=O)
def fA.no{H:Hp}{b:J}(h:fA H b)(e:H b=Y):False:=by let(_,h,_):=h;rw[e]at h;cases h
structure TF(H H':Hp):Prop where
 t:∀a vs,H a=Z (.tup vs)->H' a=Z (.tup vs)
 f:∀a o u,H a=Z (.frz o u)->H' a=Z (.frz o u)
 x:∀a φ,H a=Z (.ext φ)->H' a=Z (.ext φ)
 q:∀a xs,H a=Z (.lst xs)->∃ys,H' a=Z (.lst ys)
 r:∀a x,H a=Z (.room x)->∃y,y<=x/\H' a=Z (.room y)
variable{H':Hp}
def ObH.tf{fs:List (Str×V)}(h:ObH H a C fs)(k:TF H H'):ObH H' a C fs:=by let(d,h1,h2,h3):=h;exact(d,h1,k.x _ _ h2,k.x _ _ h3)
def ExH.tf{b:Bool}{fs:List (Str×V)}(h:ExH H a C b fs)(k:TF H H'):ExH H' a C b fs:=by
 obtain⟨h1,h2⟩|⟨d,h1,h2,h3⟩:=h
 ·exact .inl (h1,k.x _ _ h2)
 exact .inr (d,h1,k.x _ _ h2,k.x _ _ h3)
theorem FzL.tf{K:BT}{vs:Ω}(h:FzL K H a vs)(k:TF H H'):FzL K H' a vs:=by
 obtain⟨o,h⟩|h:=h
 ·exact .inl (o,k.f _ _ _ h)
 exact .inr h
def bu{α:Type}{p:α->Prop}:∀b∈([]:List α),p b:=λ_ h=>absurd h ya
variable{dl:Dl}{dl':Dl}
theorem aB.cJ{K:BT}(k:TF H H')(hd:∀p∈dl,p∈dl'){v:V}{t:T}{F:Θ}(h:aB K dl H v t F):(∀b∈F,∀o,H b=Z o->H' b=Z o)->aB K dl' H' v t F:=
 aB.rec (motive_2:=λv t F _=>(∀b∈F,∀o,H b=Z o->H' b=Z o)->aw K dl' H' v t F) (motive_3:=λv t F _=>(∀b∈F,∀o,H b=Z o->H' b=Z o)->aR K dl' H' v t F)
  (λ_=>.n) (λx _=>.b x) (λx _=>.i x) (λx _=>.s x) (λx _=>.ty x) (λh _ g q=>.t (k.t _ _ h) (g q))
  (λh _ g q=>.l (q _ iY _ h) (g λb P=>q b (mm _ P))) (λh _ g q=>.d (q _ iY _ h) (g λb P=>q b (mm _ P)))
  (λh _=>.x (hd _ h)) (λh _=>.z (h.tf k)) (λh _=>Exists.elim (k.q _ _ h) λ_ e=>.q e) (λh _ g _=>.fd (k.f _ _ _ h) (g bu)) (λh _=>.k h) (λh _ g _=>.e (h.tf k) (g bu))
  (λh hx _=>Exists.elim (k.r _ _ h) λ_ e=>.rm e.2 (SQ e.1 hx)) (λh _ g _=>.ob (h.tf k) (g bu)) (λh _ g q=>.dp (q _ iY _ h) (g λb P=>q b (mm _ P))) (λh _ g q=>.lp (q _ iY _ h) (g λb P=>q b (mm _ P))) (λh _ g _=>.zl (k.f _ _ _ h) (g bu)) (λa _=>.rf a) (λh1 h2 h3 _ g q=>.om (q _ iY _ h1) (q _ (mm _ iY) _ h2) h3 (g λb P=>q b (mm _ (mm _ P)))) (λh _=>.fz (k.f _ _ _ h))
  (λ_=>.nil) (λ_ _ i1 Q q=>.cons (i1 λb P=>q b (vr _ P)) (Q λb P=>q b (rz _ P)))
  (λ_=>.nil) (λ_ _ i1 Q q=>.cons (i1 λb P=>q b (vr _ P)) (Q λb P=>q b (rz _ P))) h
@[elab_as_elim]
theorem aw.ind{K:BT}{M:Ω->ώ->Θ->Prop}(nil:M [] [] [])(cons:∀v x vs ts F G,aB K dl H v x F->aw K dl H vs ts G->M vs ts G->M (v::vs) (x::ts) (F++G)){vs:Ω}{ts:ώ}{F:Θ}(h:aw K dl H vs ts F):M vs ts F:=
 aw.rec (motive_1:=λ_ _ _ _=>True) (motive_3:=λ_ _ _ _=>True) trivial (λ_=>trivial) (λ_=>trivial) (λ_=>trivial) (λ_=>trivial) (λ_ _ _=>trivial) (λ_ _ _=>trivial) (λ_ _ _=>trivial)
  (λ_=>trivial) (λ_=>trivial) (λ_=>trivial) (λ_ _ _=>trivial) (λ_=>trivial) (λ_ _ _=>trivial) (λ_ _=>trivial) (λ_ _ _=>trivial) (λ_ _ _=>trivial) (λ_ _ _=>trivial) (λ_ _ _=>trivial) (λ_=>trivial) (λ_ _ _ _ _=>trivial) (λ_=>trivial) nil (λh r _ g=>cons _ _ _ _ _ _ h r g) trivial (λ_ _ _ _=>trivial) h
@[elab_as_elim]
theorem aR.ind{K:BT}{M:ό->Ϗ->Θ->Prop}(nil:M [] [] [])(cons:∀k v x vs ts F G,aB K dl H v x F->aR K dl H vs ts G->M vs ts G->M ((k,v)::vs) ((k,x)::ts) (F++G)){vs:ό}{ts:Ϗ}{F:Θ}(h:aR K dl H vs ts F):M vs ts F:=
 aR.rec (motive_1:=λ_ _ _ _=>True) (motive_2:=λ_ _ _ _=>True) trivial (λ_=>trivial) (λ_=>trivial) (λ_=>trivial) (λ_=>trivial) (λ_ _ _=>trivial) (λ_ _ _=>trivial) (λ_ _ _=>trivial)
  (λ_=>trivial) (λ_=>trivial) (λ_=>trivial) (λ_ _ _=>trivial) (λ_=>trivial) (λ_ _ _=>trivial) (λ_ _=>trivial) (λ_ _ _=>trivial) (λ_ _ _=>trivial) (λ_ _ _=>trivial) (λ_ _ _=>trivial) (λ_=>trivial) (λ_ _ _ _ _=>trivial) (λ_=>trivial) trivial (λ_ _ _ _=>trivial) nil (λh r _ g=>cons _ _ _ _ _ _ _ h r g) h
theorem aw.cJ{K:BT}{dl dl':Dl}{H H':Hp}(k:TF H H')(hd:∀p∈dl,p∈dl'){vs:Ω}{ts:ώ}{F:Θ}(h:aw K dl H vs ts F):(∀b∈F,∀o,H b=Z o->H' b=Z o)->aw K dl' H' vs ts F:=
 h.ind (λ_=>.nil) (λ_ _ _ _ _ _ h _ z q=>.cons (h.cJ k hd λb g=>q b (vr _ g)) (z λb g=>q b (rz _ g)))
theorem aR.cJ{K:BT}{dl dl':Dl}{H H':Hp}(k:TF H H')(hd:∀p∈dl,p∈dl'){vs:ό}{ts:Ϗ}{F:Θ}(h:aR K dl H vs ts F):(∀b∈F,∀o,H b=Z o->H' b=Z o)->aR K dl' H' vs ts F:=
 h.ind (λ_=>.nil) (λ_ _ _ _ _ _ _ h _ z q=>.cons (h.cJ k hd λb g=>q b (vr _ g)) (z λb g=>q b (rz _ g)))
variable{G:Θ}
def lR{F:Θ}(h:∀b∈F,fA H b)(r:∀b∈G,fA H b):∀b∈F++G,fA H b:=λb g=>(rh.mp g).elim (h b) (r b)
theorem aB.there{K:BT}{v:V}{t:T}{F:Θ}(h:aB K dl H v t F):∀b∈F,fA H b:=
 aB.rec
  bu (λ_=>bu) (λ_=>bu) (λ_=>bu) (λ_=>bu) (λ_ _ g=>g)
  (λh _ g b q=>(ot.mp q).elim (λe=>by rw[e];exact(_,h,U)) (g b)) (λh _ g b q=>(ot.mp q).elim (λe=>by rw[e];exact(_,h,U)) (g b))
  (λ_=>bu) (λ_=>bu) (λ_=>bu) (λ_ _ _=>bu) (λ_=>bu) (λ_ _ _=>bu)
  (λ_ _=>bu) (λ_ _ _=>bu) (λh _ g b q=>(ot.mp q).elim (λe=>by rw[e];exact(_,h,U)) (g b)) (λh _ g b q=>(ot.mp q).elim (λe=>by rw[e];exact(_,h,U)) (g b)) (λ_ _ _=>bu) (λ_=>bu) (λh1 h2 _ _ g b q=>(ot.mp q).elim (λe=>by rw[e];exact(_,h1,U)) λq=>(ot.mp q).elim (λe=>by rw[e];exact(_,h2,U)) (g b)) (λ_=>bu)
  bu (λ_ _ P z=>lR P z) bu (λ_ _ P z=>lR P z) h
theorem aw.there{K:BT}{dl:Dl}{H:Hp}{vs:Ω}{ts:ώ}{F:Θ}(h:aw K dl H vs ts F):∀b∈F,fA H b:=h.ind bu (λ_ _ _ _ _ _ h _ g=>lR h.there g)
def Nd(dl:Dl)(b:J):Prop:=∀p∈dl,b≠p.1/\b≠p.2
def Dls(dl:Dl)(H:Hp):Prop:=∀p∈dl,lI H p.1 p.2
def Dls.nd(D:Dls dl H){b:J}{o:HO}(h:H b=Z o)(h1:∀xs,o ≠ .lst xs)(h2:∀ks,o ≠ .dK ks):Nd dl b:=λp hp=>by
 let(s,n,ls,Q):=D p hp;exact(iI h Q.hd (h2 _),iI h Q.hl (h1 _))
def Dls.nd0(D:Dls dl H){b:J}(h:H b=Y):Nd dl b:=λp hp=>by
 let(s,n,ls,Q):=D p hp;exact((aI Q.hd h).symm,(aI Q.hl h).symm)
def NR(o:HO):Prop:=∀x,o ≠ .room x
structure Evo(dl:Dl)(H H':Hp):Prop where
 k:∀b o,H b=Z o->Nd dl b->NR o->H' b=Z o
 d:Dls dl H'
 r:∀a x,H a=Z (.room x)->∃y,y<=x/\H' a=Z (.room y)
def NR.of{b:J}{o:HO}(h:fA H b)(e:H b=Z o):NR o:=λx z=>by
 let(_,h,m):=h;rw[e,z]at h;cases h;cases m
def Evo.refl(D:Dls dl H):Evo dl H H:=(λ_ _ h _ _=>h,D,λ_ x h=>(x,NC _,h))
variable{H1:Hp}
def Evo.trans{g:Hp}(a:Evo dl H H1)(b:Evo dl H1 g):Evo dl H g:=(λc o h n r=>b.k c o (a.k c o h n r) n r,b.d,λc x h=>let(y,K,e):=a.r c x h;let(z,q,P):=b.r c y e;(z,SQ q K,P))
def Evo.tf(e:Evo dl H H')(D:Dls dl H):TF H H':=
 (λa vs h=>e.k a _ h (D.nd h nofun nofun) nofun,λa o u h=>e.k a _ h (D.nd h nofun nofun) nofun,λa φ h=>e.k a _ h (D.nd h nofun nofun) nofun,λa xs h=>(by
  by_cases hn:Nd dl a
  ·exact(xs,e.k a _ h hn nofun)
  obtain⟨p,hp,z⟩:∃p∈dl,¬(a≠p.1/\a≠p.2):=Classical.byContradiction λc=>hn λp hp=>Classical.byContradiction λz=>c (p,hp,z);let(s,n,ls,Q):=D p hp;let(s',n',ls',Q'):=e.d p hp;have h1:=iI h Q.hd (λz=>nomatch z);have h2:=Classical.byContradiction λg=>z (h1,g);exact(_,by rw[h2];exact Q'.hl)),e.r)
theorem Evo.new{p:J}{o:HO}(e:Evo dl H H1)(hp:H1 p=Y):Evo dl H (upd H1 p o):=
 (λc u h n r=>by rw[ak (aI (e.k c u h n r) hp)];exact e.k c u h n r,λq hq=>(e.d q hq).new hp,λc x h=>let(y,z,g):=e.r c x h;(y,z,by rw[ak (aI g hp)];exact g))
def Evo.free(e:Evo dl H H'){p:J}(hp:H' p=Y):H p=none:=by
 cases q:H p with
 |none=>rfl|some o =>
  by_cases hn:NR o
  ·rw[e.k p o q (e.d.nd0 hp) hn]at hp;cases hp
  obtain⟨x,hx⟩:∃x,o=.room x:=Classical.byContradiction λc=>hn λx z=>c (x,z);subst hx;let(y,_,g):=e.r p x q;rw[g]at hp;cases hp
structure Rp(K:BT)(dl:Dl)(H:Hp)(v:V)(t:T)(F:Θ):Prop where
 r:aB K dl H v t F
 n:∀b∈F,Nd dl b
structure Rps(K:BT)(dl:Dl)(H:Hp)(vs:Ω)(ts:ώ)(F:Θ):Prop where
 r:aw K dl H vs ts F
 n:∀b∈F,Nd dl b
theorem Rp.evo{K:BT}{v:V}{t:T}{F:Θ}(h:Rp K dl H v t F)(D:Dls dl H)(e:Evo dl H H'):Rp K dl H' v t F:=
 (h.r.cJ (e.tf D) (λ_ q=>q) λb g o q=>e.k b o q (h.n b g) (.of (h.r.there b g) q),h.n)
theorem Rps.evo{K:BT}{v:Ω}{t:ώ}{F:Θ}(h:Rps K dl H v t F)(D:Dls dl H)(e:Evo dl H H'):Rps K dl H' v t F:=
 (h.r.cJ (e.tf D) (λ_ q=>q) λb g o q=>e.k b o q (h.n b g) (.of (h.r.there b g) q),h.n)
inductive Sl where
 |no|o (t:T)|r (t:T)
abbrev Sq:=List Sl
def Sl.get:Sl->Option T
 |.no=>Y|.o t=>Z t|.r t=>Z t
structure RdR(K:BT)(dl:Dl)(H:Hp)(σ:St)(q:Sq):Prop where
 d:Dls dl H
 g:∀(i:Nat)(x:Sl)(t:T),q[i]?=Z x->x.get=Z t->∃v F,σ[i]?=Z (Z v)/\Rp K dl H v t F
theorem RdR.evo{K:BT}{dl:Dl}{H H':Hp}{σ:St}{q:Sq}(h:RdR K dl H σ q)(e:Evo dl H H'):RdR K dl H' σ q:=
 (e.d,λi x t h1 h2=>let(v,F,h3,h4):=h.g i x t h1 h2;(v,F,h3,h4.evo h.d e))
abbrev QE:=Sq->(T->Prop)->Prop
abbrev QT:=Sq->(Bool->Prop)->Prop
abbrev QA:=Sq->(ώ->Prop)->Prop
def iW(K:BT)(te:TE)(tq:QE):Prop:=∀(dl:Dl)(H:Hp)(σ:St)(q:Sq)(Q:T->Prop)(R:V->Hp->Prop),RdR K dl H σ q->tq q Q ->
 (∀v t F H',Evo dl H H'->Rp K dl H' v t F->Q t->R v H')->te σ H R
def qX(K:BT)(te:TE)(tq:QE):Prop:=∀(dl:Dl)(H:Hp)(σ:St)(q:Sq)(Q:T->Prop)(R:V->Hp->Prop),RdR K dl H σ q->tq q Q ->
 (∀v t F H',Evo dl H H'->Rp K dl H' v t F->(∀b∈F,H b=Y)->F.Nodup->Q t->R v H')->te σ H R
def jX(K:BT)(te:TT)(tq:QT):Prop:=∀(dl:Dl)(H:Hp)(σ:St)(q:Sq)(Q:Bool->Prop)(R:Bool->Hp->Prop),RdR K dl H σ q->tq q Q ->
 (∀b H',Evo dl H H'->Q b->R b H')->te σ H R
def JR(K:BT)(n:Nat)(te:TA)(tq:QA):Prop:=∀(dl:Dl)(H:Hp)(σ:St)(q:Sq)(Q:ώ->Prop)(R:Ω->Hp->Prop),RdR K dl H σ q->tq q Q ->
 (∀vs ts F H',Evo dl H H'->Rps K dl H' vs ts F->vs.length=n->Q ts->R vs H')->te σ H R
def PB(K:BT)(n:Nat)(te:TA)(tq:QA):Prop:=∀(dl:Dl)(H:Hp)(σ:St)(q:Sq)(Q:ώ->Prop)(R:Ω->Hp->Prop),RdR K dl H σ q->tq q Q ->
 (∀vs ts F H',Evo dl H H'->Rps K dl H' vs ts F->vs.length=n->(∀b∈F,H b=Y)->F.Nodup->Q ts->R vs H')->te σ H R
structure QPE(X:Cx)(K:BT)(e:Do)(te:TE)(tq:QE):Prop where
 h:PE X e te
 s:iW K te tq
structure QPF(X:Cx)(K:BT)(e:Do)(te:TE)(tq:QE):Prop where
 h:PE X e te
 s:qX K te tq
structure QPT(X:Cx)(K:BT)(e:Do)(te:TT)(tq:QT):Prop where
 h:PT X e te
 s:jX K te tq
structure QPW(X:Cx)(K:BT)(e:Do)(te:TT)(tq:QT):Prop where
 h:PW X e te
 s:jX K te tq
structure QPA(X:Cx)(K:BT)(es:List Do)(te:TA)(tq:QA):Prop where
 h:PA X es te
 s:JR K es.length te tq
structure vK(X:Cx)(K:BT)(es:List Do)(te:TA)(tq:QA):Prop where
 h:PA X es te
 s:PB K es.length te tq
variable{q:Sq}{x:Str}
section
variable{X:Cx}{K:BT}{a b:Do}{ta tb:TE}{qa qb qe:QE}{pos:Pos}
def Za(h:QPF X K e te qe):QPE X K e te qe:=(h.h,λdl H σ q Q R rd hq k=>h.s dl H σ q Q R rd hq λv t F H' e r _ _ z=>k v t F H' e r z)
mutual
def T.im:T->Bool
 |.t xs=>T.ims xs|.l _=>ϊ|.d _=>ϊ|.dp _ _=>ϊ|.lp _ _=>ϊ|.om _ _ _ _=>ϊ|_=>O
def T.ims:ώ->Bool
 |[]=>O|x::r=>x.im&&T.ims r
end
def qH{F:Θ}{x y:Bool}(h:x=O->F=[])(r:y=O->G=[])(q:(x&&y)=O):F++G=[]:=by rw[h (ri _ _▸q).1,r (ri _ _▸q).2];rfl
theorem aB.im{dl:Dl}{H:Hp}{v:V}{t:T}{F:Θ}(h:aB K dl H v t F):t.im=O->F=[]:=
 aB.rec (motive_3:=λ_ _ _ _=>True)
  (λ_=>rfl) (λ_ _=>rfl) (λ_ _=>rfl) (λ_ _=>rfl) (λ_ _=>rfl) (λ_ _ g=>g) (λ_ _ _ h=>absurd h su) (λ_ _ _ h=>absurd h su)
  (λ_ _=>rfl) (λ_ _=>rfl) (λ_ _=>rfl) (λ_ _ _ _=>rfl) (λ_ _=>rfl) (λ_ _ _ _=>rfl) (λ_ _ _=>rfl) (λ_ _ _ _=>rfl) (λ_ _ _ h=>absurd h su) (λ_ _ _ h=>absurd h su) (λ_ _ _ _=>rfl) (λ_ _=>rfl) (λ_ _ _ _ _ h=>absurd h su) (λ_ _=>rfl) (λ_=>rfl) (λ_ _ z q=>qH z q) trivial (λ_ _ _ _=>trivial) h
theorem aw.im{dl:Dl}{H:Hp}{v:Ω}{t:ώ}{F:Θ}(h:aw K dl H v t F):T.ims t=O->F=[]:=h.ind (λ_=>rfl) (λ_ _ _ _ _ _ h _ g=>qH h.im g)
inductive Ex2{α:Type}(p:α->Prop)(Q:α->Prop):Prop
 |mk(x:α)(h:p x)(k:Q x)
inductive Ex3{α β:Type}(p:α->Prop)(g:α->β)(Q:β->Prop):Prop
 |mk(x:α)(h:p x)(k:Q (g x))
inductive Ex4{α β:Type}(p r:α->Prop)(g:α->β)(Q:β->Prop):Prop
 |mk(x:α)(h:p x)(h2:r x)(k:Q (g x))
def onO(q:Sq)(i:Nat)(P:T->Prop):Prop:=match q[i]? with|some (.o t)=>P t|_=>False
def onO.inv{i:Nat}{P:T->Prop}(h:onO q i P):∃t,q[i]?=Z (.o t)/\P t:=by
 unfold onO at h;split at h
 ·exact(_,(by assumption),h)
 exact h.elim
def on1(ts:ώ)(P:T->Prop):Prop:=match ts with|[t]=>P t|_=>False
def on1.inv{ts:ώ}{P:T->Prop}(h:on1 ts P):∃t,ts=[t]/\P t:=by cases ts with|nil=>exact h.elim|cons t r=>cases r with|nil=>exact(t,U,h)|cons=>exact h.elim
def on2(ts:ώ)(P:T->T->Prop):Prop:=match ts with|[t,u]=>P t u|_=>False
def on2.inv{ts:ώ}{P:T->T->Prop}(h:on2 ts P):∃t u,ts=[t,u]/\P t u:=by cases ts with|nil=>exact h.elim|cons t r=>cases r with|nil=>exact h.elim|cons u r=>cases r with|nil=>exact(t,u,U,h)|cons=>exact h.elim
def qIm(qe:QE):QE:=λq Q=>qe q λt=>t.im=O/\Q t
theorem Zb(h:QPE X K e te qe):QPF X K e te (qIm qe):=(h.h,λdl H σ q Q R rd hq k=>h.s dl H σ q _ R rd hq λv t F H' e r (P,g)=>by have f:=r.r.im P;subst f;exact k v t [] H' e r nofun px g)
def aU(i:Nat):QE:=λq Q=>match q[i]? with|some (.o t)=>Q t|some (.r t)=>Q t|_=>False
def Hf(i:Nat):iW K (bN i) (aU i):=by
 intro dl H σ q Q R rd hq k;unfold aU at hq;split at hq
 ·rename_i t e;let(v,F,h1,h2):=rd.g i _ t e U;exact(v,h1,k v t F H (.refl rd.d) h2 hq)
 ·rename_i t e;let(v,F,h1,h2):=rd.g i _ t e U;exact(v,h1,k v t F H (.refl rd.d) h2 hq)
 exact hq.elim
def qv(i:Nat){pos:Pos}(q:‹X.N[i]?=Z x›)(hv:Vis X.env.scope x:=by first|exact Or.inl rfl|exact Or.inr (Or.inl U)|exact Or.inr (Or.inr U))(hd:autoParam (AS x) zdc._auto_1)
  (g:autoParam ((x ==("__classdict__":Str))=false) zdc._auto_1):QPE X K (.Name x pos) (bN i) (aU i):=(Et q hv hd g,Hf i)
def qC(t:T):QE:=λ_ Q=>Q t
def zX{v:V}{t:T}(h:∀dl H,aB K dl H v t []):qX K (tC v) (qC t):=λdl H σ q Q R rd hq k=>k v t [] H (.refl rd.d) (h dl H,nofun) nofun px hq
def bP{i j pos}:QPF X K (.Constant (.int i) j pos) (tC (.int i)) (qC (.i i)):=(bt,zX λ_ _=>.i i)
def DT{b j pos}:QPF X K (.Constant (.bool b) j pos) (tC (.bl b)) (qC (.b b)):=(Oz,zX λ_ _=>.b b)
def c7{j pos}:QPF X K (.Constant .none j pos) (tC .non) (qC .n):=(L7,zX λ_ _=>.n)
def aF{x j pos}:QPF X K (.Constant (.str x) j pos) (tC (.str x)) (qC (.s x)):=(cQ,zX λ_ _=>.s x)
theorem jF{dl:Dl}{H:Hp}:∀(ws:Γ),aw K dl H (ws.map V.str) (ws.map T.s) []
 |[]=>.nil|w::r=>.cons (.s w) (jF r)
theorem pB{dl:Dl}{H:Hp}:∀(ws:Ψ),aw K dl H (ws.map V.int) (ws.map T.i) []
 |[]=>.nil|w::r=>.cons (.i w) (pB r)
abbrev Q2:=T->T->(T->Prop)->Prop
def Gf(K:BT)(r:R2)(rq:Q2):Prop:=∀(dl:Dl)(H:Hp)(x y:V)(t u:T)(F G:Θ)(Q:T->Prop)(R:V->Hp->Prop),Dls dl H->Rp K dl H x t F->Rp K dl H y u G->rq t u Q ->
 (∀v z F' H',Evo dl H H'->Rp K dl H' v z F'->Q z->R v H')->r x y H R
def cb(K:BT)(r:R2)(rq:Q2):Prop:=∀(dl:Dl)(H:Hp)(x y:V)(t u:T)(F G:Θ)(Q:T->Prop)(R:V->Hp->Prop),Dls dl H->Rp K dl H x t F->Rp K dl H y u G->rq t u Q ->
 (∀v z F' H',Evo dl H H'->Rp K dl H' v z F'->(∀b∈F',H b=Y)->F'.Nodup->Q z->R v H')->r x y H R
variable{rq:Q2}
def cb.w{r:R2}(h:cb K r rq):Gf K r rq:=λdl H x y t u F G Q R d a b hq k=>h dl H x y t u F G Q R d a b hq λv z F' H' e r _ _ g=>k v z F' H' e r g
def qOp(rq:Q2)(qa qb:QE):QE:=λq Q=>qa q λt=>qb q λu=>rq t u Q
def uc{r:R2}(ho:Gf K r rq)(ha:iW K ta qa)(hb:iW K tb qb):iW K (tOp r ta tb) (qOp rq qa qb):=by intro dl H σ q Q R rd hq k;exact ha dl H σ q _ _ rd hq λv t F H1 e1 r1 P=>(hb dl H1 σ q _ _ (rd.evo e1) P λw u G H2 V r2 g=>(ho dl H2 v w t u F G Q R V.d (r1.evo e1.d V) r2 g λv' z F' H3 e3 r3 hz=>k v' z F' H3 ((e1.trans V).trans e3) r3 hz))
def zV{r:R2}(ho:cb K r rq)(ha:iW K ta qa)(hb:iW K tb qb):qX K (tOp r ta tb) (qOp rq qa qb):=by intro dl H σ q Q R rd hq k;exact ha dl H σ q _ _ rd hq λv t F H1 P r1 aN=>(hb dl H1 σ q _ _ (rd.evo P) aN λw u G H2 g r2 V=>(ho dl H2 v w t u F G Q R g.d (r1.evo P.d g) r2 V λv' z F' H3 e3 r3 f3 n3 hz=>k v' z F' H3 ((P.trans g).trans e3) r3 (λb hb=>(P.trans g).free (f3 b hb)) n3 hz))
def pJ{op:Operator}{r:R2}(ho:OpR X (binaryOp op) r)(hs:cb K r rq)(q:QPE X K a ta qa)(g:QPE X K b tb qb):QPF X K (.BinOp a op b pos) (tOp r ta tb) (qOp rq qa qb):=(cw ho q.h g.h,zV hs q.s g.s)
end
end L2
namespace L2
open PySem PySem.Spec PyProof.Rows
variable{x:Str}{C:J}{ns:Γ}{a:J}{ws:Γ}{G:Θ}
section
variable{X:Cx}{K:BT}{dl:Dl}{H:Hp}{v:V}{F:Θ}
def Ra(K:BT)(dl:Dl)(H:Hp)(v:V)(F:Θ):T->Prop
 |.n=>v=.non/\F=[]|.b x=>v=.bl x/\F=[]|.i x=>v=.int x/\F=[]|.s x=>v=.str x/\F=[]|.ty x=>v=.ty x|.t ts=>∃a vs,v=.ref a/\H a=Z (.tup vs)/\aw K dl H vs ts F|.l ts=>∃a vs G,v=.ref a/\F=a::G/\H a=Z (.lst vs)/\aw K dl H vs ts G|.d ts=>∃a vs G,v=.ref a/\F=a::G/\H a=Z (.dK vs)/\aR K dl H vs ts G|.dj=>∃a l,v=.ref a/\(a,l)∈dl/\F=[]|.z ns=>∃a,v=.ref a/\FzL K H a (ns.map V.int)/\F=[]|.k ws=>∃a,v=.ref a/\(∀H',SqT K H' a (ws.map V.str))/\F=[]|.xc C ns ts=>∃a b vs,v=.ref a/\F=[]/\ExH H a C b (ns.zip vs)/\aw K dl H vs ts []|.q=>True|.fd _ _ _=>True|.rm u=>∃a x,v=.ref a/\H a=Z (.room x)/\x<=u/\F=[]|.ob C ns ts=>∃a vs,v=.ref a/\F=[]/\ObH H a C (ns.zip vs)/\aw K dl H vs ts []|.dp a ts=>∃vs G,v=.ref a/\F=a::G/\H a=Z (.dK vs)/\aR K dl H vs ts G|.lp a ts=>∃vs G,v=.ref a/\F=a::G/\H a=Z (.lst vs)/\aw K dl H vs ts G|.zl ts=>∃a o vs,v=.ref a/\F=[]/\H a=Z (.frz o (.lst vs))/\aw K dl H vs ts []|.rf a=>v=.ref a/\F=[]|.om a C ns ts=>∃dx vs G,v=.ref a/\F=a::dx::G/\H a=Z (.ins C dx (ns.zip vs))/\H dx=Z (.own a)/\ns.length=ts.length/\aw K dl H vs ts G|.fz u=>∃a o,v=.ref a/\F=[]/\H a=Z (.frz o u)
def aB.inv{t:T}(h:aB K dl H v t F):Ra K dl H v F t:=
 aB.rec (motive_2:=λ_ _ _ _=>True) (motive_3:=λ_ _ _ _=>True) (U,U) (λ_=>(U,U)) (λ_=>(U,U)) (λ_=>(U,U)) (λ_=>rfl)
  (λh r _=>(_,_,U,h,r)) (λh r _=>(_,_,_,U,U,h,r)) (λh r _=>(_,_,_,U,U,h,r)) (λh=>(_,_,U,h,U)) (λh=>(_,U,h,U)) (λ_=>trivial) (λ_ _ _=>trivial) (λh=>(_,U,h,U)) (λh r _=>(_,_,_,U,U,h,r)) (λh hx=>(_,_,U,h,hx,U)) (λh r _=>(_,_,U,U,h,r)) (λh r _=>(_,_,U,U,h,r)) (λh r _=>(_,_,U,U,h,r)) (λh r _=>(_,_,_,U,U,h,r)) (λ_=>(U,U)) (λh1 h2 h3 r _=>(_,_,_,U,U,h1,h2,h3,r)) (λh=>(_,_,U,U,h))
  trivial (λ_ _ _ _=>trivial) trivial (λ_ _ _ _=>trivial) h
theorem aB.int{x:Int}(h:aB K dl H v (.i x) F):v=.int x/\F=[]:=h.inv
theorem aB.str(h:aB K dl H v (.s x) F):v=.str x/\F=[]:=h.inv
theorem aB.bl{x:Bool}(h:aB K dl H v (.b x) F):v=.bl x/\F=[]:=h.inv
theorem aB.non(h:aB K dl H v .n F):v=.non/\F=[]:=h.inv
theorem aB.tup{ts:ώ}(h:aB K dl H v (.t ts) F):∃a vs,v=.ref a/\H a=Z (.tup vs)/\aw K dl H vs ts F:=h.inv
theorem aB.lst{ts:ώ}(h:aB K dl H v (.l ts) F):∃a vs G,v=.ref a/\F=a::G/\H a=Z (.lst vs)/\aw K dl H vs ts G:=h.inv
def aB.dic{ts:Ϗ}(h:aB K dl H v (.d ts) F):∃a vs G,v=.ref a/\F=a::G/\H a=Z (.dK vs)/\aR K dl H vs ts G:=h.inv
def aB.roo{u:Int}(h:aB K dl H v (.rm u) F):∃a x,v=.ref a/\H a=Z (.room x)/\x<=u/\F=[]:=h.inv
def aB.obj{ts:ώ}(h:aB K dl H v (.ob C ns ts) F):∃a vs,v=.ref a/\F=[]/\ObH H a C (ns.zip vs)/\aw K dl H vs ts []:=h.inv
def aB.dpp{ts:Ϗ}(h:aB K dl H v (.dp a ts) F):∃vs G,v=.ref a/\F=a::G/\H a=Z (.dK vs)/\aR K dl H vs ts G:=h.inv
def aB.lpp{ts:ώ}(h:aB K dl H v (.lp a ts) F):∃vs G,v=.ref a/\F=a::G/\H a=Z (.lst vs)/\aw K dl H vs ts G:=h.inv
def aB.zls{ts:ώ}(h:aB K dl H v (.zl ts) F):∃a o vs,v=.ref a/\F=[]/\H a=Z (.frz o (.lst vs))/\aw K dl H vs ts []:=h.inv
def aB.omm{ts:ώ}(h:aB K dl H v (.om a C ns ts) F):∃dx vs G,v=.ref a/\F=a::dx::G/\H a=Z (.ins C dx (ns.zip vs))/\H dx=Z (.own a)/\ns.length=ts.length/\aw K dl H vs ts G:=h.inv
def aB.dea(h:aB K dl H v .dj F):∃a l,v=.ref a/\(a,l)∈dl/\F=[]:=h.inv
def aB.scr{ns:Ψ}(h:aB K dl H v (.z ns) F):∃a,v=.ref a/\FzL K H a (ns.map V.int)/\F=[]:=h.inv
def aB.kst(h:aB K dl H v (.k ws) F):∃a,v=.ref a/\(∀H',SqT K H' a (ws.map V.str))/\F=[]:=h.inv
def aw.len{vs:Ω}{ts:ώ}{F:Θ}(h:aw K dl H vs ts F):vs.length=ts.length:=h.ind U λ_ _ _ _ _ _ _ _ g=>congrArg (· + 1) g
def aR.len{vs:ό}{ts:Ϗ}{F:Θ}(h:aR K dl H vs ts F):vs.length=ts.length:=h.ind U λ_ _ _ _ _ _ _ _ _ g=>congrArg (· + 1) g
def aw.M0{vs:Ω}{ts:ώ}{F:Θ}{i:Nat}{t:T}(h:aw K dl H vs ts F)(e:ts[i]?=Z t):∃v G,vs[i]?=Z v/\aB K dl H v t G/\G.Sublist F:=
 h.ind (λ_ _ e=>nomatch e) (λv x vs ts F G h _ g i t e=>by
  cases i with
  |zero=>cases e;exact(v,F,U,h,List.sublist_append_left _ _)
  |succ i =>
   let(w,q,h1,h2,h3):=g i t e;exact(w,q,h1,h2,h3.trans (SD _ _))) i t e
def aw.get{vs:Ω}{ts:ώ}{F:Θ}{i:Nat}{t:T}(h:aw K dl H vs ts F)(e:ts[i]?=Z t):∃v G,vs[i]?=Z v/\aB K dl H v t G/\∀b∈G,b∈F:=
 Exists.elim (h.M0 e) λv z=>Exists.elim z λG z=>(v,G,z.1,z.2.1,λ_ g=>z.2.2.subset g)
def aw.append{vs ws:Ω}{ts us:ώ}{F:Θ}(h:aw K dl H vs ts F)(h2:aw K dl H ws us G):aw K dl H (vs++ws) (ts++us) (F++G):=
 h.ind h2 λ_ _ _ _ _ _ h _ g=>by rw[wh];exact .cons h g
def aw.gK{vs:Ω}{ts:ώ}(h:aw K dl H vs ts F):vs=[] ↔ ts=[]:=by cases h with|nil=>simp|cons _ _=>simp
theorem aw.drop:∀{vs:Ω}{ts:ώ}{F:Θ}(n:Nat),aw K dl H vs ts F->∃G,aw K dl H (vs.drop n) (ts.drop n) G/\G.Sublist F
 |_,_,F,0,h=>(F,h,List.Sublist.refl _)|_,_,_,_+1,.nil=>([],.nil,List.Sublist.refl _)|_,_,_,n+1,.cons h r=>by
  let(G,h1,h2):=aw.drop n r;exact(G,h1,h2.trans (SD _ _))
theorem aw.take:∀{vs:Ω}{ts:ώ}{F:Θ}(n:Nat),aw K dl H vs ts F->∃G,aw K dl H (vs.take n) (ts.take n) G/\G.Sublist F
 |_,_,F,0,h=>([],.nil,List.nil_sublist _)|_,_,_,_+1,.nil=>([],.nil,List.Sublist.refl _)|_,_,_,n+1,.cons h r=>by
  let(G,h1,h2):=aw.take n r;exact(_,.cons h h1,h2.append_left _)
def Rp.sub{t:T}{F:Θ}(r:aB K dl H v t G)(n:∀b∈F,Nd dl b)(h:∀b∈G,b∈F):Rp K dl H v t G:=(r,λb g=>n b (h b g))
def Rp.c{t:T}(r:aB K dl H v t []):Rp K dl H v t []:=(r,nofun)
theorem Rps.tup{vs:Ω}{ts:ώ}{p:J}(h:Rps K dl H vs ts F)(D:Dls dl H)(hp:H p=Y):Rp K dl (upd H p (.tup vs)) (.ref p) (.t ts) F:=
 have h2:=h.evo D ((Evo.refl D).new hp)
 (.t au h2.r,h2.n)
theorem Rps.lst{vs:Ω}{ts:ώ}{p:J}(h:Rps K dl H vs ts F)(D:Dls dl H)(hp:H p=Y):Rp K dl (upd H p (.lst vs)) (.ref p) (.l ts) (p::F):=
 have h2:=h.evo D ((Evo.refl D).new hp)
 (.l au h2.r,λb g=>by
  obtain e|g:=ot.mp g
  ·rw[e];exact D.nd0 hp
  exact h2.n b g)
theorem Rps.fresh{vs:Ω}{ts:ώ}{p:J}(h:Rps K dl H vs ts F)(hp:H p=Y)(hn:F.Nodup):(p::F).Nodup:=yd.mpr (λz=>(h.r.there p z).no hp,hn)
def qII(C:Int->Int->Prop)(g:Int->Int->T):Q2:=λt u Q=>match t with
 |.i a=>match u with|.i b=>C a b/\Q (g a b)|_=>False
 |_=>False
def Ka{C:Int->Int->Prop}{g:Int->Int->V}{g':Int->Int->T}(hg:∀a b dl H,aB K dl H (g a b) (g' a b) []):cb K (rI C g) (qII C g'):=by
 intro dl H x y t u F G Q R D P q hq k;unfold qII at hq;split at hq
 ·split at hq
  ·let(U,U):=P.r.int;let(U,U):=q.r.int;exact(_,_,U,U,hq.1,k _ _ [] H (.refl D) (.c (hg _ _ _ _)) nofun px hq.2)
  exact hq.elim
 exact hq.elim
def qI0(g:Int->Int->T):Q2:=λt u Q=>match t with
 |.i a=>match u with|.i b=>Q (g a b)|_=>False
 |_=>False
def fF{g:Int->Int->V}{g':Int->Int->T}(hg:∀a b dl H,aB K dl H (g a b) (g' a b) []):cb K (rI0 g) (qI0 g'):=by
 intro dl H x y t u F G Q R D P q hq k;unfold qI0 at hq;split at hq
 ·split at hq
  ·let(U,U):=P.r.int;let(U,U):=q.r.int;exact(_,_,U,U,k _ _ [] H (.refl D) (.c (hg _ _ _ _)) nofun px hq)
  exact hq.elim
 exact hq.elim
def IF:OpR X (binaryOp .Add) (λx y H Q=>∃a b xs ys,x=.ref a/\y=.ref b/\SqT X.K H a xs/\SqT X.K H b ys/\xs.length+ys.length<=p6 /\
(xs=[]->Q (.ref b) H)/\(xs ≠ []->ys=[]->Q (.ref a) H)/\(xs ≠ []->ys ≠ []->∀p,H p=Y->Q (.ref p) (upd H p (.tup (xs++ys))))):=by
 intro gd s σ H x y v u Q I rx V h;let(a,b,xs,ys,U,U,ha,hb,hz,q0,q1,q2):=h;by_cases hx:xs=[]
 ·cases rx;cases V;let(its,r1,p1,_):=I.tuple ha;let(bO,r2,p2,_):=I.tuple hb;have e:=r1.gK.mpr hx;subst e;let((cls,dd,data,sl),ho,hc,n,hd):=id p1;let((QN,P,data2,q),g,z,n2,hd2):=id p2;subst hc hd z hd2;exact concat_meets (_,ho,U) (_,g,U) noFill_tuple_add seq_tuple_add PySem.F.slot_tuple_add PySem.F.entry_tuple_add (PySem.F.args_tuple_add_2 _ _)
   (tuple_addW0 a b ([]).toArray bO.toArray n n2 dd P sl q ap) (ho,g,(.ref b,H,I,U,q0 hx))
 exact IG gd s σ H _ _ v u Q I rx V (a,b,xs,ys,U,U,ha,hb,hx,hz,q1 hx,q2 hx)
def DH(K:BT):R2:=λx y H Q=>rI0 (λi j=>.int (i+j)) x y H Q\/(∃i j,x=.str i/\y=.str j/\i.length+j.length<=p6/\Q (.str (i++j)) H)\/N6 x y H Q \/
 (∃a b xs ys,x=.ref a/\y=.ref b/\SqT K H a xs/\SqT K H b ys/\xs.length+ys.length<=p6 /\
(xs=[]->Q (.ref b) H)/\(xs ≠ []->ys=[]->Q (.ref a) H)/\(xs ≠ []->ys ≠ []->∀p,H p=Y->Q (.ref p) (upd H p (.tup (xs++ys)))))
def IH(g:X.K=K):OpR X (binaryOp .Add) (DH K):=by subst g;exact mz.or (zd.or (Mh.or IF))
def uD:Q2:=λt u Q=>match t with
 |.i a=>match u with|.i b=>Q (.i (a+b))|_=>False
 |.s a=>match u with|.s b=>a.length+b.length<=p6/\Q (.s (a++b))|_=>False
 |.l a=>match u with|.l b=>a.length+b.length<=p6/\T.ims a=O/\T.ims b=O/\Q (.l (a++b))|_=>False
 |.t a=>match u with|.t b=>a.length+b.length<=p6/\T.ims a=O/\T.ims b=O/\Q (.t (a++b))|_=>False
 |_=>False
def Hv:cb K (DH K) uD:=by
 intro dl H x y t u F G Q R D q g hq k;have no:∀b,b∈([])->H b=none:=nofun;cases t with
 |i a =>
  dsimp only[uD]at hq;split at hq
  ·let(U,U):=q.r.int;let(U,U):=g.r.int;exact .inl (_,_,U,U,k _ _ [] H (.refl D) (.c (.i _)) no px hq)
  exact hq.elim
 |s a =>
  dsimp only[uD]at hq;split at hq
  ·let(U,U):=q.r.str;let(U,U):=g.r.str;exact .inr (.inl (_,_,U,U,hq.1,k _ _ [] H (.refl D) (.c (.s _)) no px hq.2))
  exact hq.elim
 |l a =>
  dsimp only[uD]at hq;split at hq
  ·let(a,vs,F1,U,U,h1,s1):=q.r.lst;let(b,ws,G1,U,U,h2,s2):=g.r.lst;obtain rfl:=s1.im hq.2.1;obtain rfl:=s2.im hq.2.2.1;refine .inr (.inr (.inl (a,b,vs,ws,U,U,h1,h2,by rw[s1.len,s2.len];exact hq.1,λp hp=>?_)));have rs:Rps K dl H (vs++ws) _ ([]++[]):=(s1.append s2,λc V=>nomatch V);exact k _ _ _ _ ((Evo.refl D).new hp) (rs.lst D hp) (λb hb=>by rw[fy.mp hb];exact hp) ap hq.2.2.2
  exact hq.elim
 |t a =>
  dsimp only[uD]at hq;split at hq
  ·let(a,vs,U,h1,s1):=q.r.tup;let(b,ws,U,h2,s2):=g.r.tup;obtain rfl:=s1.im hq.2.1;obtain rfl:=s2.im hq.2.2.1;refine .inr (.inr (.inr (a,b,vs,ws,U,U,SqT.of h1,SqT.of h2,by rw[s1.len,s2.len];exact hq.1,λe=>?_,λe1 e2=>?_,λ_ _ p hp=>?_)))
   ·refine k _ _ [] H (.refl D) g no px ?_;have z:=s1.gK.mp e;subst z;exact hq.2.2.2
   ·refine k _ _ [] H (.refl D) q no px ?_;have z:=s2.gK.mp e2;subst z;have P:=hq.2.2.2;rw[u3]at P;exact P
   have rs:Rps K dl H (vs++ws) _ ([]++[]):=(s1.append s2,λc V=>nomatch V);exact k _ _ _ _ ((Evo.refl D).new hp) (rs.tup D hp) no px hq.2.2.2
  exact hq.elim
 |_=>exact hq.elim
def H0:Q2:=λt u Q=>match t with
 |.i a=>match u with|.i b=>GF a b/\Q (.i (a*b))|_=>False
 |.s a=>match u with|.i b=>0<=b/\b<=1000/\a.length<=1000/\Q (.s (ia a b.toNat))|_=>False
 |_=>False
def DB:R2:=λx y H Q=>rI GF (λi j=>.int (i*j)) x y H Q\/(∃z n,x=.str z/\y=.int n/\0<=n/\n<=1000/\z.length<=1000/\Q (.str (ia z n.toNat)) H)
def IE:OpR X (binaryOp .Mult) DB:=jM.or zb
def Hn:cb K DB H0:=by
 intro dl H x y t u F G Q R D q g hq k;cases t with
 |i a =>
  dsimp only[H0]at hq;split at hq
  ·let(U,U):=q.r.int;let(U,U):=g.r.int;exact .inl (_,_,U,U,hq.1,k _ _ [] H (.refl D) (.c (.i _)) nofun px hq.2)
  exact hq.elim
 |s a =>
  dsimp only[H0]at hq;split at hq
  ·let(U,U):=q.r.str;let(U,U):=g.r.int;exact .inr (_,_,U,U,hq.1,hq.2.1,hq.2.2.1,k _ _ [] H (.refl D) (.c (.s _)) nofun px hq.2.2.2)
  exact hq.elim
 |_=>exact hq.elim
end
section
variable{X:Cx}{K:BT}{a b:Do}{ta tb:TE}{qa qb:QE}{pos:Pos}
def aJ(q:QPE X K a ta qa)(g:QPE X K b tb qb)(z:‹X.K=K›):QPF X K (.BinOp a .Add b pos) (tOp (DH K) ta tb) (qOp uD qa qb):=pJ (IH z) Hv q g
def yP(q:QPE X K a ta qa)(g:QPE X K b tb qb):QPF X K (.BinOp a .Sub b pos) (tOp (rI0 λi j=>.int (i-j)) ta tb) (qOp (qI0 λi j=>.i (i-j)) qa qb):=pJ za (fF λ_ _ _ _=>.i _) q g
def uA(q:QPE X K a ta qa)(g:QPE X K b tb qb):QPF X K (.BinOp a .Mult b pos) (tOp DB ta tb) (qOp H0 qa qb):=pJ IE Hn q g
def yQ(q:QPE X K a ta qa)(g:QPE X K b tb qb):QPF X K (.BinOp a .Mod b pos) (tOp (rI (λ_ j=>0<j) λi j=>.int (i % j)) ta tb) (qOp (qII (λ_ j=>0<j) λi j=>.i (i % j)) qa qb):=pJ gH (Ka λ_ _ _ _=>.i _) q g
def HX(q:QPE X K a ta qa)(g:QPE X K b tb qb):QPF X K (.BinOp a .FloorDiv b pos) (tOp (rI GG λi j=>.int (i / j)) ta tb) (qOp (qII GG λi j=>.i (i / j)) qa qb):=pJ wW (Ka λ_ _ _ _=>.i _) q g
end
variable{dl:Dl}{H:Hp}{neg:Bool}{op:CmpOp}{rq:Q2}{j:Nat}
section
variable{X:Cx}{K:BT}{a b c e:Do}{es rest:List Do}{ta tb te:TE}{qa qb qe:QE}{tA tB:TT}{qA qB:QT}{tl:TA}{ql:QA}{pos:Pos}
def T.v:T->V
 |.n=>.non|.b x=>.bl x|.i x=>.int x|.s x=>.str x|_=>.ty ""
def T.fl:T->Bool
 |.n=>O|.b _=>O|.i _=>O|.s _=>O|_=>ϊ
theorem aB.v{dl:Dl}{H:Hp}{v:V}{t:T}{F:Θ}(h:aB K dl H v t F)(f:t.fl=O):v=t.v/\F=[]:=by cases h <;> first|exact(U,U)|exact absurd (f) su
def qEq:Q2:=λt u Q=>(t.fl&&u.fl&&Hy t.v u.v)=O/\Q (.b (decide (t.v=u.v)))
def qNe:Q2:=λt u Q=>(t.fl&&u.fl&&Hy t.v u.v)=O/\Q (.b (!decide (t.v=u.v)))
def Le:cb K rEq qEq:=by intro dl H x y t u F G Q R D q g hq k;let(h,hq):=hq;rw[ri,ri]at h;let(U,U):=q.r.v h.1.1;let(U,U):=g.r.v h.1.2;exact(h.2,k _ _ [] H (.refl D) (.c (.b _)) nofun px hq)
def gw:cb K rNe qNe:=by intro dl H x y t u F G Q R D q g hq k;let(h,hq):=hq;rw[ri,ri]at h;let(U,U):=q.r.v h.1.1;let(U,U):=g.r.v h.1.2;exact(h.2,k _ _ [] H (.refl D) (.c (.b _)) nofun px hq)
def By(neg:Bool):Q2:=λt u Q=>match u with|.n=>Q (.b (match t with|.n=>!neg|_=>neg))|_=>False
def aB.P6{v:V}{t:T}{F:Θ}(h:aB K dl H v t F):decide (v=.non)=match(generalizing:=false) t with|.n=>!false|_=>false:=by cases h <;> rfl
def aB.P7{v:V}{t:T}{F:Θ}(h:aB K dl H v t F):(!decide (v=.non))=match(generalizing:=false) t with|.n=>!true|_=>true:=by cases h <;> rfl
def Hr:cb K (λx y H Q=>y=.non/\Q (.bl (decide (x=.non))) H) (By ϊ):=by
 intro dl H x y t u F G Q R D q g hq k;unfold By at hq;split at hq
 ·let(U,U):=g.r.non;refine(U,k _ _ [] H (.refl D) (.c (.b _)) nofun px ?_);rw[q.r.P6];exact hq
 exact hq.elim
def ka:cb K (λx y H Q=>y=.non/\Q (.bl (!decide (x=.non))) H) (By O):=by
 intro dl H x y t u F G Q R D q g hq k;unfold By at hq;split at hq
 ·let(U,U):=g.r.non;refine(U,k _ _ [] H (.refl D) (.c (.b _)) nofun px ?_);rw[q.r.P7];exact hq
 exact hq.elim
def inT(x:T)(xs:ώ):Bool:=xs.any λy=>eqV y.v x.v
def fls(xs:ώ):Bool:=xs.all T.fl
theorem aw.vs{dl:Dl}{H:Hp}{vs:Ω}{ts:ώ}{F:Θ}(h:aw K dl H vs ts F):fls ts=O->vs=ts.map T.v/\F=[]:=
 h.ind (λ_=>(U,U)) λ_ _ _ _ _ _ h _ g f=>by
  have f:(_&&_)=true:=f;rw[ri]at f;let(U,U):=h.v f.1;let(U,U):=g f.2;exact(U,U)
def iP{ts:ώ}(f:fls ts=O):(ts.map T.v).all dU=true:=by rw[JW];intro x hx;let(t,g,U):=sd.mp hx;have:=JW.mp f t g;cases t <;> first|rfl|exact absurd this su
def AH{t:T}(f:t.fl=O):dU t.v=true:=by cases t <;> first|rfl|exact absurd f su
def DG(K:BT)(neg:Bool):R2:=λx y H Q=>rIn K neg x y H Q\/∃i j,x=.str i/\y=.str j/\Q (.bl (if neg then !(!(Builtin.Str.occurrences j i 0 j.length 1).isEmpty)else !(Builtin.Str.occurrences j i 0 j.length 1).isEmpty)) H
def jN(g:X.K=K):OpR X (compareOp .In) (DG K ϊ):=by subst g;exact BN.or BM
def sJ(g:X.K=K):OpR X (compareOp .NotIn) (DG K O):=by subst g;exact uQ.or uP
def qIn(neg:Bool):Q2:=λt u Q=>match u with
 |.l xs=>(t.fl&&fls xs)=O/\Q (.b (if neg then !inT t xs else inT t xs))|.t xs=>(t.fl&&fls xs)=O/\Q (.b (if neg then !inT t xs else inT t xs))|.k ws=>match t with|.s y=>Q (.b (if neg then !inT (.s y) (ws.map T.s)else inT (.s y) (ws.map T.s)))|_=>False
 |.s z=>match t with|.s y=>Q (.b (if neg then !(!(Builtin.Str.occurrences z y 0 z.length 1).isEmpty)else !(Builtin.Str.occurrences z y 0 z.length 1).isEmpty))|_=>False
 |_=>False
def ik:cb K (DG K neg) (qIn neg):=by
 intro dl H x y t u F G Q R D q g hq k;have go:∀xs p vs,y=.ref p->(SqL K H p vs\/SqT K H p vs)->(∃G,aw K dl H vs xs G)->(t.fl&&fls xs)=O/\Q (.b (if neg then !inT t xs else inT t xs))->DG K neg x y H R:=by
  rintro xs p vs rfl hs ⟨G,rs⟩ ⟨f,hq⟩;rw[ri]at f;let(U,U):=q.r.v f.1;let(U,_):=rs.vs f.2;refine .inl (p,_,U,hs,AH f.1,iP f.2,k _ (.b _) [] H (.refl D) (.c (.b _)) nofun px ?_);have e:inV t.v (xs.map T.v)=inT t xs:=by unfold inV inT;rw[Ss];rfl
  rw[e];exact hq
 cases u with
 |l xs =>let(p,vs,G,U,_,h1,h2):=g.r.lst;exact go _ p vs U (.inl (SqL.of h1)) (_,h2) hq|t xs =>let(p,vs,U,h1,h2):=g.r.tup;exact go _ p vs U (.inr (SqT.of h1)) (_,h2) hq|k ws =>
  dsimp only[qIn]at hq;split at hq
  ·let(p,U,h1,_):=g.r.kst;refine go _ p _ U (.inr (h1 H)) (_,jF _) (?_,hq);rw[ri];refine(U,?_);unfold fls;rw[List.all_map,JW];exact λ_ _=>rfl
  exact hq.elim
 |s z =>
  dsimp only[qIn]at hq;split at hq
  ·let(U,U):=q.r.str;let(U,U):=g.r.str;exact .inr (_,_,U,U,k _ _ [] H (.refl D) (.c (.b _)) nofun px hq)
  exact hq.elim
 |_=>exact hq.elim
def yR{r:R2}(ho:OpR X (compareOp op) r)(hs:cb K r rq)(hm:behindInMarks op b=ϊ)(q:QPE X K a ta qa)(g:QPE X K b tb qb):QPF X K (.Compare a [op] [b] pos) (tOp r ta tb) (qOp rq qa qb):=
 (Ir ho q.h g.h hm,zV hs q.s g.s)
def c8(qe:QE):QT:=λq Q=>qe q λt=>match t with|.b x=>Q x|_=>False
def v5(h:iW K te qe):jX K (sE te) (c8 qe):=by
 intro dl H σ q Q R rd hq k;refine h dl H σ q _ _ rd hq λv t F H' e r g=>?_;split at g
 ·let(U,U):=r.r.bl;exact(_,U,k _ H' e g)
 exact g.elim
def a4{r:R2}(ho:OpR X (compareOp op) r)(hs:cb K r rq)(hm:behindInMarks op b=ϊ)(q:QPE X K a ta qa)(g:QPE X K b tb qb):QPT X K (.Compare a [op] [b] pos) (sE (tOp r ta tb)) (c8 (qOp rq qa qb)):=
 (ku ho q.h g.h hm,v5 (uc hs.w q.s g.s))
def Oa(qe:QE):QT:=λq Q=>qe q λt=>match t with|.b x=>Q x|.n=>Q ϊ|.i x=>Q (x != 0)|.s x=>x.length<=p6/\Q ((x.length:Int) != 0)|.l xs=>Q (!xs.isEmpty)|.t xs=>Q (!xs.isEmpty)|.d xs=>Q (!xs.isEmpty)|_=>False
def Hh(h:iW K te qe):jX K (λσ H Q=>te σ H λx H'=>∃k,JQ K x H' k/\Q k H') (Oa qe):=by
 intro dl H σ q Q R rd hq k;refine h dl H σ q _ _ rd hq λv t F H' e r g=>?_;have emp:∀{α β:Type}{xs:List α}{ys:List β},xs.length=ys.length->(!xs.isEmpty) = !ys.isEmpty:=λ{α β xs ys} h=>by
  cases xs <;> cases ys <;> first|rfl|(simp at h)
 cases t with|b x =>let(U,U):=r.r.bl;exact(_,U,k _ H' e g)|n =>let(U,U):=r.r.non;exact(_,U,k _ H' e g)|i x =>let(U,U):=r.r.int;exact(_,U,k _ H' e g)|s x =>let(U,U):=r.r.str;exact(_,(g.1,U),k _ H' e g.2)|l xs =>let(p,vs,G,U,_,h1,h2):=r.r.lst;exact(_,.inl (vs,SqL.of h1,U),k _ H' e (by rw[emp h2.len];exact g))|t xs =>let(p,vs,U,h1,h2):=r.r.tup;exact(_,.inr (.inl (vs,SqT.of h1,U)),k _ H' e (by rw[emp h2.len];exact g))|d xs =>let(p,vs,G,U,_,h1,h2):=r.r.dic;exact(_,.inr (.inr (vs,h1,U)),k _ H' e (by rw[emp h2.len];exact g))|_=>exact g.elim
def wt(h:QPE X K e te qe)(he:∀whole,isTrue e X.env whole=(do let v <- whole;standAt e.pos;holding [v] (truthy v)):=by intro _;rfl)(g:‹X.K=K›):
  QPT X K e (λσ H Q=>te σ H λx H'=>∃k,JQ K x H' k/\Q k H') (Oa qe):=(by subst g;exact Ec h.h he,Hh h.s)
def D5(t:QT):QT:=λq Q=>t q λc=>Q (!c)
def Bz(t u:QT):QT:=λq Q=>t q λc=>if c=O then u q Q else Q ϊ
def qOr(t u:QT):QT:=λq Q=>t q λc=>if c=O then Q O else u q Q
def Hk(h:jX K tA qA):jX K (K4 tA) (D5 qA):=λdl H σ q _ R rd hq k=>h dl H σ q _ _ rd hq λb H' e g=>k _ H' e g
def Hu(h:jX K tA qA)(h2:jX K tB qB):jX K (K6 tA tB) (Bz qA qB):=λdl H σ q Q R rd hq k=>h dl H σ q _ _ rd hq λb H' e g=>by
 cases b with|false=>exact k _ H' e g|true=>exact h2 dl H' σ q Q R (rd.evo e) g λc V P z=>k c V (e.trans P) z
def Lc(h:jX K tA qA)(h2:jX K tB qB):jX K (tOr tA tB) (qOr qA qB):=λdl H σ q Q R rd hq k=>h dl H σ q _ _ rd hq λb H' e g=>by
 cases b with|true=>exact k _ H' e g|false=>exact h2 dl H' σ q Q R (rd.evo e) g λc V P z=>k c V (e.trans P) z
def DI(h:QPT X K a tA qA):QPT X K (.UnaryOp .Not a pos) (K4 tA) (D5 qA):=(LH h.h,Hk h.s)
def gB(h:QPT X K a tA qA):QPW X K (.BoolOp .And [a] pos) tA qA:=(Af h.h,h.s)
def uy(h:QPT X K a tA qA):QPW X K (.BoolOp .Or [a] pos) tA qA:=(LC h.h,h.s)
def jG(h:QPT X K a tA qA)(h2:QPW X K (.BoolOp .And (b::rest) pos) tB qB):QPW X K (.BoolOp .And (a::b::rest) pos) (K6 tA tB) (Bz qA qB):=(Ea h.h h2.h,Hu h.s h2.s)
def wq(h:QPT X K a tA qA)(h2:QPW X K (.BoolOp .Or (b::rest) pos) tB qB):QPW X K (.BoolOp .Or (a::b::rest) pos) (tOr tA tB) (qOr qA qB):=(Oo h.h h2.h,Lc h.s h2.s)
theorem QPW.pt(h:QPW X K e tA qA):QPT X K e tA qA:=(h.h.pt,h.s)
def qIf(t:QT)(qa qb:QE):QE:=λq Q=>t q λc=>if c=O then qa q Q else qb q Q
def N9(hc:QPT X K c tA qA)(ha:QPF X K a ta qa)(g:QPF X K b tb qb):QPF X K (.IfExp c a b pos) (tIf tA ta tb) (qIf qA qa qb):=(Ex hc.h ha.h g.h,λdl H σ q Q R rd hq k=>hc.s dl H σ q _ _ rd hq λd H' e hz=>by
 cases d with
 |true=>exact ha.s dl H' σ q Q R (rd.evo e) hz λw u G H2 V P f2 n2 z=>k w u G H2 (e.trans V) P (λb g=>e.free (f2 b g)) n2 z
 |false=>exact g.s dl H' σ q Q R (rd.evo e) hz λw u G H2 V P f2 n2 z=>k w u G H2 (e.trans V) P (λb g=>e.free (f2 b g)) n2 z)
def fM(P:QPE X K a ta qa):QPF X K (.UnaryOp .USub a pos) (tUn (rU λi=>.int (-i)) ta) (λq Q=>qa q λt=>match t with|.i x=>Q (.i (-x))|_=>False):=(Oy KR P.h,λdl H σ q Q R rd hq k=>P.s dl H σ q _ _ rd hq λv t F H' e r g=>by
 split at g
 ·let(U,U):=r.r.int;exact(_,U,k _ _ [] H' e (.c (.i _)) nofun px g)
 exact g.elim)
def dq:QA:=λ_ Q=>Q []
def aG(qa:QE)(ql:QA):QA:=λq Q=>qa q λt=>ql q λts=>Q (t::ts)
def aj:vK X K [] lU dq:=(fO,λdl H σ q Q R rd hq k=>k [] [] [] H (.refl rd.d) (.nil,nofun) U nofun px hq)
def vK.w(h:vK X K es tl ql):QPA X K es tl ql:=(h.h,λdl H σ q Q R rd hq k=>h.s dl H σ q Q R rd hq λvs ts F H' e r l _ _ z=>k vs ts F H' e r l z)
theorem Rps.cons{dl:Dl}{H:Hp}{v:V}{t:T}{vs:Ω}{ts:ώ}{F G:Θ}(h:Rp K dl H v t F)(r:Rps K dl H vs ts G):Rps K dl H (v::vs) (t::ts) (F++G):=(.cons h.r r.r,λb g=>(rh.mp g).elim (h.n b) (r.n b))
def ae(P:QPE X K e te qe)(hr:QPA X K es tl ql)(hs:‹AC X e es›):QPA X K (e::es) (c5 te tl) (aG qe ql):=
 (bM P.h hr.h hs,λdl H σ q Q R rd hq k=>P.s dl H σ q _ _ rd hq λv t F H1 g r1 hz=>hr.s dl H1 σ q _ _ (rd.evo g) hz λvs ts G H2 V r2 l2 z=>k _ _ _ H2 (g.trans V) (.cons (r1.evo g.d V) r2) (by simp[l2]) z)
def af(ha:QPF X K e te qe)(hr:vK X K es tl ql)(hs:‹AC X e es›):vK X K (e::es) (c5 te tl) (aG qe ql):=
 (bM ha.h hr.h hs,λdl H σ q Q R rd hq k=>ha.s dl H σ q _ _ rd hq λv t F H1 g r1 f1 n1 hz=>hr.s dl H1 σ q _ _ (rd.evo g) hz λvs ts G H2 e2 r2 l2 f2 n2 z =>
k _ _ _ H2 (g.trans e2) (.cons (r1.evo g.d e2) r2) (by simp[l2]) (λb P=>(rh.mp P).elim (f1 b) λP=>g.free (f2 b P)) (O3.mpr (n1,n2,λx hx y hy V=>by subst V;exact(r1.r.there x hx).no (f2 x hy))) z)
def wB(ql:QA):QE:=λq Q=>ql q λts=>Q (.t ts)
def D6(ql:QA):QE:=λq Q=>ql q λts=>Q (.l ts)
def ar{x1}(h:vK X K es tl ql)(V:autoParam (es.length<=1000) zdc._auto_1):QPF X K (.Tuple es x1 pos) (KZ tl) (wB ql):=(Eu h.h,λdl H σ q Q R rd hq k=>h.s dl H σ q _ _ rd hq λvs ts F H1 g P l1 f1 n1 z =>
(x9 (aE bd),λp hp=>k _ _ F _ (g.new hp) (P.tup g.d hp) f1 n1 z))
def HS{x1}(h:QPA X K es tl ql)(V:autoParam (es.length<=1000) zdc._auto_1):QPE X K (.Tuple es x1 pos) (KZ tl) (wB ql):=(Eu h.h,λdl H σ q Q R rd hq k=>h.s dl H σ q _ _ rd hq λvs ts F H1 g P l1 z =>
(x9 (aE bd),λp hp=>k _ _ F _ (g.new hp) (P.tup g.d hp) z))
def aL(h:vK X K es tl ql)(hz:autoParam (es.length<=1000) zdc._auto_1):QPF X K (.List es pos) (NO tl) (D6 ql):=(L8 h.h,λdl H σ q Q R rd hq k=>h.s dl H σ q _ _ rd hq λvs ts F H1 P V l1 f1 n1 z =>
(x9 (aE bd),λp hp=>k _ _ (p::F) _ (P.new hp) (V.lst P.d hp) (λb g=>by
  obtain e|g:=ot.mp g
  ·rw[e];exact P.free hp
  exact f1 b g) (V.fresh hp n1) z))
def fe(h:strsOf es=Z ws)(hl:‹es.length=ws.length›):vK X K es (λ_ H Q=>Q (ws.map V.str) H) (λ_ Q=>Q (ws.map T.s)):=
 (Iu h,λdl H σ q Q R rd hq k=>k _ _ [] H (.refl rd.d) (jF ws,nofun) (by rw[e7];exact hl.symm) nofun px hq)
def qIx:Q2:=λt u Q=>match u with
 |.i k=>match t with|.l xs=>Ex2 (λx=>atI xs k=Z x) Q|.t xs=>Ex2 (λx=>atI xs k=Z x) Q|.z ns=>Ex3 (λx=>atI ns k=Z x) (λx=>(.i x)) Q|.zl xs=>Ex2 (λx=>atI xs k=Z x) Q|.s z=>z.length<=p6/\Ex3 (λc=>atI z.cps.toList k=Z c) (λc=>(.s ⟨#[c]⟩)) Q|_=>False
 |_=>False
def lg{α β:Type}{xs:List α}{ys:List β}{k:Int}{x:α}(h:atI xs k=Z x)(hl:xs.length=ys.length):∃j:Nat,xs[j]?=Z x/\ixN ys.length k=Z j:=by
 unfold atI at h;cases e:ixN xs.length k with
 |none=>rw[e]at h;cases h
 |some j=>rw[e]at h;exact(j,h,by rw[<- hl];exact e)
def qU{α:Type}{xs:List α}{k:Int}{x:α}(h:ixN xs.length k=Z j)(hx:xs[j]?=Z x):atI xs k=Z x:=by unfold atI;rw[h];exact hx
def Ld:Gf K (rIx K) qIx:=by
 intro dl H x y t u F G Q R D g r2 hq k;unfold qIx at hq;split at hq
 ·rename_i k0;let(U,U):=r2.r.int;cases t with|l xs =>let(p,vs,G,U,U,h1,h2):=g.r.lst;let(z,q,hq):=hq;let(j,P,hi):=lg q h2.len.symm;let(v,G',hv,rv,hs):=h2.get P;exact .inl (p,vs,k0,v,U,U,SqL.of h1,qU hi hv,k v z G' H (.refl D) (Rp.sub rv g.n λb hb=>mm _ (hs b hb)) hq)|t xs =>let(p,vs,U,h1,h2):=g.r.tup;let(z,q,hq):=hq;let(j,P,hi):=lg q h2.len.symm;let(v,G',hv,rv,hs):=h2.get P;exact .inr (.inl (p,vs,k0,v,U,U,SqT.of h1,qU hi hv,k v z G' H (.refl D) (Rp.sub rv g.n hs) hq))|z ns =>let(p,U,h1,_):=g.r.scr;let(z,q,hq):=hq;refine .inl (p,_,k0,.int z,U,U,h1.sq,?_,k _ _ [] H (.refl D) (.c (.i _)) hq);let(j,P,hi):=lg (ys:=(_:Ψ).map V.int) q (by rw[e7]);exact qU hi (by rw[kf,P];rfl)|zl xs =>let(p,o,vs,U,U,h1,h2):=g.r.zls;let(z,q,hq):=hq;let(j,P,hi):=lg q h2.len.symm;let(v,G',hv,rv,hs):=h2.get P;exact .inl (p,vs,k0,v,U,U,.inl (.inr (o,h1)),qU hi hv,k v z G' H (.refl D) (Rp.sub rv g.n hs) hq)|s z =>let(U,U):=g.r.str;let(hl,c,hc,hq):=hq;exact .inr (.inr (_,k0,c,U,U,hl,hc,k _ _ [] H (.refl D) (.c (.s _)) hq))|_=>exact hq.elim
 exact hq.elim
def ao(q:QPE X K a ta qa)(g:QPE X K b tb qb)(hs:lF b:=by intro _ _;rfl)(z:‹X.K=K›):QPE X K (.Subscript a b pos) (tOp (rIx K) ta tb) (qOp qIx qa qb):=(by subst z;exact wR Fe q.h g.h hs,uc Ld q.s g.s)
end
variable{prog:Da}{A:Db}{E:Φ}{items:Array B}{Q:Φ}{p2:Pos}{n:Nat}{r:Ω->Hp->VK->Prop}
section
variable{X:Cx}{K:BT}{a b c e:Do}{es:List Do}{te:TE}{qe:QE}{tl:TA}{ql:QA}{pos p:Pos}
abbrev QO:=Sq->(Option Int->Prop)->Prop
def Q7(K:BT)(t:TO)(tq:QO):Prop:=∀(dl:Dl)(H:Hp)(σ:St)(q:Sq)(Q:Option Int->Prop)(R:Option Int->Hp->Prop),RdR K dl H σ q->tq q Q->(∀o H',Evo dl H H'->Q o->R o H')->t σ H R
structure QPO(X:Cx)(K:BT)(e:Option Do)(t:TO)(tq:QO):Prop where
 h:PO X e t
 s:Q7 K t tq
def bj:QPO X K Y zR (λ_ Q=>Q Y):=(Ij,λ_ _ _ _ _ _ rd hq k=>k Y _ (.refl rd.d) hq)
def a9(h:QPE X K e te qe):QPO X K (Z e) (J3 te) (λq Q=>qe q λt=>match t with|.i x=>Q (Z x)|_=>False):=(uK h.h,λdl H σ q Q R rd hq k=>h.s dl H σ q _ _ rd hq λv t F H' e r g=>by
 split at g
 ·let(U,U):=r.r.int;exact(_,U,k _ H' e g)
 exact g.elim)
def cg{α:Type}(xs:List α)(lo hi:Option Int):List α:=(xs.drop (HT.sIx xs.length 0 lo)).take (HT.sIx xs.length xs.length hi-HT.sIx xs.length 0 lo)
def aw.cut{vs:Ω}{ts:ώ}{F:Θ}(lo hi:Option Int)(h:aw K dl H vs ts F):∃G,aw K dl H (k6 vs lo hi) (cg ts lo hi) G/\G.Sublist F:=by unfold k6 cg;rw[h.len];let(G,h1,s1):=h.drop (HT.sIx ts.length 0 lo);let(g,h2,s2):=h1.take (HT.sIx ts.length ts.length hi-HT.sIx ts.length 0 lo);exact(g,h2,s2.trans s1)
def jk{w:Cl}{s:ϋ}{t sl:J}{V P:B}{lo hi:Option Int}(g:IsTup s.heap t items)(hs:s.heap.IsSliceOf sl V P .none)(pl:IsPart V lo)(pu:IsPart P hi)
  (hw:HT.sIx items.size 0 lo=0/\HT.sIx items.size items.size hi=items.size)
  (h:Q (.ref t) s):wpAny (model prog w) A (getItem (.ref t) (.ref sl)) Q E s:=by
 let(os,q,z,aN):=id hs;have K:s.TypeIs (.ref sl) "slice":=(os,q,z);have hT:=g.typeIs;unfold getItem;try with_reducible refine RA ?_
 refine gV (wpAny_sequenceKey g.typeIs am ?_);refine gV (wpAny_callSpecial?_slot g.typeIs PyProof.Rows.slot_tuple_getitem
(Qm PyProof.Rows.slot_tuple_getitem g.typeIs entry_tuple_getitem ?_ (args_tuple_getitem _ _)))
 show wpAny _ _ (Builtin.Tuple.tupleItemsOf (.ref t) >>= _) _ _ s;refine gV (tupleItemsOf_ g (gV (RF K (gV (HT.fX hs pl pu ?_)))));have hy:(((HT.sIx items.size 0 lo):Int)==0&&(1:Int)==1&&(HT.sIx items.size items.size hi-HT.sIx items.size 0 lo)==items.size)=true:=by rw[hw.1,hw.2];simp
 show wpAny _ _ (if(((HT.sIx items.size 0 lo):Int)==0&&(1)==1&&(HT.sIx items.size items.size hi-HT.sIx items.size 0 lo)==items.size)=O then _ else _) _ _ s;rw[if_pos hy];exact gV (gV (RF hT (sr (by exact gV (RP (sr (_,U,sr h)))))))
inductive NV(K:BT)(x:V)(lo:Option Int)(hi:Option Int)(H:Hp)(Q:VK):Prop
 |mk(a xs:_)(h1:x=.ref a)(h2:SqT K H a xs)(h3:((HT.sIx xs.length 0 lo=0/\HT.sIx xs.length xs.length hi=xs.length)->Q (.ref a) H))(h4:(¬(HT.sIx xs.length 0 lo=0/\HT.sIx xs.length xs.length hi=xs.length)->∀p,H p=Y->Q (.ref p) (upd H p (.tup (k6 xs lo hi)))))
def He:SlR X (NV X.K):=by
 intro gd s σ H x v P z lo hi sl Q I g hs pl pu h;let(a,xs,U,hx,q1,V):=h;by_cases hw:HT.sIx xs.length 0 lo=0/\HT.sIx xs.length xs.length hi=xs.length
 ·cases g;let(its,r,q,hz):=I.tuple hx;have hlen:its.toArray.size=xs.length:=r.length.symm;exact("tuple",_,PyProof.Rows.slot_tuple_getitem.lookup,q.typeIs,jk q hs pl pu (by rw[hlen];exact hw) (.ref a,H,I,U,q1 hw))
 exact La gd s σ H _ v P z lo hi sl Q I g hs pl pu (a,xs,U,hx,hw,V hw)
def Cp{α:Type}{xs:List α}{lo hi:Option Int}(h:HT.sIx xs.length 0 lo=0/\HT.sIx xs.length xs.length hi=xs.length):cg xs lo hi=xs:=by unfold cg;rw[h.1,h.2];simp
def NY(K:BT):V->Option Int->Option Int->Hp->VK->Prop:=λx lo hi H Q=>NX K x lo hi H Q\/NV K x lo hi H Q\/NW x lo hi H Q
def PQ(g:X.K=K):SlR X (NY K):=by subst g;exact zT.or (He.or Lb)
def qSl(qe:QE)(l u:QO):QE:=λq Q=>qe q λt=>l q λlo=>u q λhi=>match t with|.l xs=>T.ims xs=O/\Q (.l (cg xs lo hi))|.t xs=>T.ims xs=O/\Q (.t (cg xs lo hi))|.z ns=>Q (.l ((cg ns lo hi).map T.i))|.zl xs=>Q (.l (cg xs lo hi))|.s z=>z.length<=p6/\Q (.s (Txt.slice z lo hi))|_=>False
def aZ{l u:Option Do}{aN aP:TO}{aT a0:QO}(he:QPE X K e te qe)(hl:QPO X K l aN aT)(hu:QPO X K u aP a0)(hK:‹X.K=K›):QPF X K (.Subscript e (.Slice l u Y p2) pos) (tSl (NY K) te aN aP) (qSl qe aT a0):=
 (wO (PQ hK) he.h hl.h hu.h,λdl H σ q Q R rd hq k=>he.s dl H σ q _ _ rd hq λv t F H1 e1 r1 g=>hl.s dl H1 σ q _ _ (rd.evo e1) g λlo H2 e2 g=>hu.s dl H2 σ q _ _ ((rd.evo e1).evo e2) g λhi H3 e3 g=>by
  have r3:=(r1.evo e1.d e2).evo e2.d e3;have P:=(e1.trans e2).trans e3;have no:∀b,b∈([])->H b=none:=nofun;cases t with
  |l xs =>
   let(p,vs,G,U,U,h1,h2):=r3.r.lst;obtain rfl:=h2.im g.1;let(G,h3,s3):=h2.cut lo hi;obtain rfl:=RD.mp s3;refine .inl (p,vs,U,SqL.of h1,λp hp=>?_);have rs:Rps K dl H3 (k6 vs lo hi) _ []:=(h3,λc hc=>nomatch hc);exact k _ _ _ _ (P.new hp) (rs.lst e3.d hp) (λb hb=>by rw[fy.mp hb];exact P.free hp) ap g.2
  |t xs =>
   let(p,vs,U,h1,h2):=r3.r.tup;obtain rfl:=h2.im g.1;let(G,h3,s3):=h2.cut lo hi;obtain rfl:=RD.mp s3;refine .inr (.inl (p,vs,U,SqT.of h1,λhw=>?_,λ_ p hp=>?_))
   ·refine k _ _ _ _ P r3 no px ?_;rw[h2.len]at hw;have a3:=g.2;rw[Cp hw]at a3;exact a3
   have rs:Rps K dl H3 (k6 vs lo hi) _ []:=(h3,λc hc=>nomatch hc);exact k _ _ _ _ (P.new hp) (rs.tup e3.d hp) no px g.2
  |z ns =>
   let(p,U,h1,_):=r3.r.scr;refine .inl (p,_,U,h1.sq,λp hp=>?_);have e:k6 (ns.map V.int) lo hi=(cg ns lo hi).map V.int:=by unfold k6 cg;rw[e7,<- RI,<- Lh]
   rw[e];have rs:Rps K dl H3 ((cg ns lo hi).map V.int) ((cg ns lo hi).map T.i) []:=(pB _,λc hc=>nomatch hc);exact k _ _ _ _ (P.new hp) (rs.lst e3.d hp) (λb hb=>by rw[fy.mp hb];exact P.free hp) ap g
  |zl xs =>
   let(p,o,vs,U,U,h1,h2):=r3.r.zls;let(G,h3,s3):=h2.cut lo hi;obtain rfl:=RD.mp s3;refine .inl (p,vs,U,.inl (.inr (o,h1)),λp hp=>?_);have rs:Rps K dl H3 (k6 vs lo hi) _ []:=(h3,λc hc=>nomatch hc);exact k _ _ _ _ (P.new hp) (rs.lst e3.d hp) (λb hb=>by rw[fy.mp hb];exact P.free hp) ap g
  |s z =>let(U,U):=r3.r.str;exact .inr (.inr (_,U,g.1,k _ _ [] H3 P (.c (.s _)) no px g.2))
  |_=>exact g.elim)
abbrev QC:=ώ->(T->Prop)->Prop
def so(K:BT)(r:Ω->Hp->VK->Prop)(rq:QC):Prop:=∀(dl:Dl)(H:Hp)(vs:Ω)(ts:ώ)(F:Θ)(Q:T->Prop)(R:V->Hp->Prop),Dls dl H->Rps K dl H vs ts F->rq ts Q ->
 (∀v z F' H',Evo dl H H'->Rp K dl H' v z F'->(∀b∈F',H b=Y)->F'.Nodup->Q z->R v H')->r vs H R
def qCB(rq:QC)(ql:QA):QE:=λq Q=>ql q λts=>rq ts Q
def Dj{rq:QC}(h:so K r rq)(hl:JR K n tl ql):qX K (tCB r tl) (qCB rq ql):=λdl H σ q Q R rd hq k=>hl dl H σ q _ _ rd hq λvs ts F H1 P r1 _ g =>
 h dl H1 vs ts F Q R P.d r1 g λv z F' H2 e2 V f2 n2 g=>k v z F' H2 (P.trans e2) V (λb hb=>P.free (f2 b hb)) n2 g
def pL{id:String}{rq:QC}(P:cY X (.builtin id) r)(hs:so K r rq)(hg:Gl X x)(hm:X.mg x=Y)(hv:bootBuiltins x=Z (.builtin id))(z:QPA X K (e::es) tl ql)(hn:autoParam (x ≠ "__name__") zdc._auto_1)(q:autoParam (AS x) zdc._auto_1)
  (he:‹AC X e es›) (g:‹AM X pos es›):QPF X K (.Call (.Name x p) (e::es) [] pos) (tCB r tl) (qCB rq ql):=(pU P hg hm hv z.h hn q he g,Dj hs z.s)
def aQ{id:String}{rq:QC}(P:cY X (.type id) r)(hs:so K r rq)(hg:Gl X x)(hm:X.mg x=Y)(hv:bootBuiltins x=Z (.type id))(z:QPA X K (e::es) tl ql)(hn:autoParam (x ≠ "__name__") zdc._auto_1)(q:autoParam (AS x) zdc._auto_1)
  (he:‹AC X e es›) (g:‹AM X pos es›):QPF X K (.Call (.Name x p) (e::es) [] pos) (tCB r tl) (qCB rq ql):=(BK P hg hm hv z.h hn q he g,Dj hs z.s)
def Rps.one{dl:Dl}{H:Hp}{vs:Ω}{t:T}{F:Θ}(h:Rps K dl H vs [t] F):∃v,vs=[v]/\Rp K dl H v t F:=by let(r,n):=h;cases r with|cons q g =>cases g;rw[u3]at n;rw[u3];exact(_,U,q,n)
def Rps.two{vs:Ω}{t u:T}{F:Θ}(h:Rps K dl H vs [t,u] F):∃v w P F2,vs=[v,w]/\Rp K dl H v t P/\Rp K dl H w u F2:=by let(r,n):=h;cases r with|cons z q =>let(w,U,h2):=Rps.one (q,λb g=>n b (rz _ g));exact(_,w,_,_,U,(z,λb g=>n b (vr _ g)),h2)
def DD(K:BT):Ω->Hp->VK->Prop:=λxs H Q=>(∃p ys,xs=[.ref p]/\(SqL K H p ys\/SqT K H p ys)/\Q (.int ys.length) H)\/(∃z,xs=[.str z]/\z.length<=p6/\Q (.int z.length) H)\/∃a kvs,xs=[V.ref a]/\H a=Z (.dK kvs)/\Q (.int kvs.length) H
def Ct(g:X.K=K):cY X (.builtin "len") (DD K):=by subst g;exact k9.or (vE.or Cs)
def wC:QC:=λts Q=>on1 ts λt=>match t with|.l xs=>Q (.i xs.length)|.t xs=>Q (.i xs.length)|.z xs=>Q (.i xs.length)|.zl xs=>Q (.i xs.length)|.d xs=>Q (.i xs.length)|.s x=>x.length<=p6/\Q (.i x.length)|_=>False
def Ho:so K (DD K) wC:=by intro dl H vs ts F Q R D r hq k;have fin:∀n,Q (.i n)->R (.int n) H:=λn hq=>k _ _ [] H (.refl D) (.c (.i _)) nofun px hq;replace hq:=on1.inv hq;let(t,U,hq):=hq;let(v,U,r'):=r.one;cases t with|l xs =>let(p,vs,G,U,_,h1,h2):=r'.r.lst;exact .inl (p,vs,U,.inl (SqL.of h1),fin _ (by rw[h2.len];exact hq))|t xs =>let(p,vs,U,h1,h2):=r'.r.tup;exact .inl (p,vs,U,.inr (SqT.of h1),fin _ (by rw[h2.len];exact hq))|z xs =>let(p,U,h1,_):=r'.r.scr;exact .inl (p,_,U,.inl h1.sq,fin _ (by rw[e7];exact hq))|zl xs =>let(p,o,vs,U,_,h1,h2):=r'.r.zls;exact .inl (p,vs,U,.inl (.inl (.inr (o,h1))),fin _ (by rw[h2.len];exact hq))|d xs =>let(p,vs,G,U,_,h1,h2):=r'.r.dic;exact .inr (.inr (p,vs,U,h1,fin _ (by rw[h2.len];exact hq)))|s x =>let(U,_):=r'.r.str;exact .inr (.inl (_,U,hq.1,fin _ hq.2))|_=>exact hq.elim
def qI2(g:Int->Int->Int):QC:=λts Q=>on2 ts λt u=>match t with
 |.i a=>match u with|.i b=>Q (.i (g a b))|_=>False
 |_=>False
def Dh{g:Int->Int->Int}:so K (λxs H Q=>∃i j,xs=[.int i,.int j]/\Q (.int (g i j)) H) (qI2 g):=by
 intro dl H vs ts F Q R D r hq k;replace hq:=on2.inv hq;let(t,u,U,hq):=hq;split at hq
 ·split at hq
  ·let(v,w,V,F2,U,P,q):=r.two;let(U,_):=P.r.int;let(U,_):=q.r.int;exact(_,_,U,k _ _ [] H (.refl D) (.c (.i _)) nofun px hq)
  exact hq.elim
 exact hq.elim
def PY:QC:=λts Q=>on1 ts λt=>match t with|.i a=>Q (.i a)|.b k=>Q (.i (if k then 1 else 0))|_=>False
def zW:so K (λxs H Q=>(∃i,xs=[.int i]/\Q (.int i) H)\/∃k,xs=[.bl k]/\Q (.int (if k then 1 else 0)) H) PY:=by intro dl H vs ts F Q R D r hq k;replace hq:=on1.inv hq;let(t,U,hq):=hq;cases t with|i a =>let(v,U,r'):=r.one;let(U,_):=r'.r.int;exact .inl (_,U,k _ _ [] H (.refl D) (.c (.i _)) nofun px hq)|b c =>let(v,U,r'):=r.one;let(U,_):=r'.r.bl;exact .inr (_,U,k _ _ [] H (.refl D) (.c (.i _)) nofun px hq)|_=>exact hq.elim
def Lv:QC:=λts Q=>on1 ts λt=>match t with|.l xs=>T.ims xs=O/\Q (.t xs)|.t xs=>T.ims xs=O/\Q (.t xs)|_=>False
def bG(g:X.K=K):cY X (.type "tuple") (λxs H Q=>∃p ys,xs=[.ref p]/\((SqL K H p ys/\∀l,H l=Y->Q (.ref l) (upd H l (.tup ys)))\/(SqT K H p ys/\Q (.ref p) H))):=by subst g;exact sg
def bE:so K (λxs H Q=>∃p ys,xs=[.ref p]/\((SqL K H p ys/\∀l,H l=Y->Q (.ref l) (upd H l (.tup ys)))\/(SqT K H p ys/\Q (.ref p) H))) Lv:=by
 intro dl H vs ts F Q R D r hq k;have no:∀b,b∈([])->H b=none:=nofun;replace hq:=on1.inv hq;let(t,U,hq):=hq;cases t with
 |l xs =>
  let(v,U,r'):=r.one;let(p,vs,G,U,U,h1,h2):=r'.r.lst;obtain rfl:=h2.im hq.1;refine(p,vs,U,.inl (SqL.of h1,λl hl=>?_));have rs:Rps K dl H vs _ []:=(h2,λc g=>nomatch g);exact k _ _ _ _ ((Evo.refl D).new hl) (rs.tup D hl) no px hq.2
 |t xs =>
  let(v,U,r'):=r.one;let(p,vs,U,h1,h2):=r'.r.tup;obtain rfl:=h2.im hq.1;exact(p,vs,U,.inr (SqT.of h1,k _ _ [] H (.refl D) r' no px hq.2))
 |_=>exact hq.elim
def Lw:QC:=λts Q=>on1 ts λt=>match t with|.l xs=>T.ims xs=O/\Q (.l xs)|.t xs=>T.ims xs=O/\Q (.l xs)|_=>False
def mL(g:X.K=K):cY X (.type "list") (λxs H Q=>∃p ys,xs=[.ref p]/\(SqL K H p ys\/SqT K H p ys)/\∀l,H l=Y->Q (.ref l) (upd H l (.lst ys))):=by subst g;exact vD
def lY:so K (λxs H Q=>∃p ys,xs=[.ref p]/\(SqL K H p ys\/SqT K H p ys)/\∀l,H l=Y->Q (.ref l) (upd H l (.lst ys))) Lw:=by
 intro dl H vs ts F Q R D r hq k;replace hq:=on1.inv hq;let(t,U,hq):=hq;cases t with
 |l xs =>
  let(v,U,r'):=r.one;let(p,vs,G,U,U,h1,h2):=r'.r.lst;obtain rfl:=h2.im hq.1;refine(p,vs,U,.inl (SqL.of h1),λl hl=>?_);have rs:Rps K dl H vs _ []:=(h2,λc g=>nomatch g);exact k _ _ _ _ ((Evo.refl D).new hl) (rs.lst D hl) (λb q=>by rw[fy.mp q];exact hl) ap hq.2
 |t xs =>
  let(v,U,r'):=r.one;let(p,vs,U,h1,h2):=r'.r.tup;obtain rfl:=h2.im hq.1;refine(p,vs,U,.inr (SqT.of h1),λl hl=>?_);have rs:Rps K dl H vs _ []:=(h2,λc g=>nomatch g);exact k _ _ _ _ ((Evo.refl D).new hl) (rs.lst D hl) (λb q=>by rw[fy.mp q];exact hl) ap hq.2
 |_=>exact hq.elim
def picks{α:Type}(f:T->Option α):ώ->Option (List α)
 |[]=>Z []|t::r=>(f t).bind λa=>(picks f r).map (a :: ·)
theorem aw.picks{dl:Dl}{H:Hp}{α:Type}{f:T->Option α}{g:α->V}(hf:∀(v:V)(t:T)(F:Θ)(a:α),aB K dl H v t F->f t=Z a->v=g a){vs:Ω}{ts:ώ}{F:Θ}(h:aw K dl H vs ts F):∀{bs:List α},L2.picks f ts=Z bs->vs=bs.map g:=
 h.ind (M:=λvs ts F=>∀{bs:List α},L2.picks f ts=Z bs->vs=bs.map g) (λe=>by cases e;rfl) λv t vs ts F G h _ q bs e=>by
  let(a,Q,P):=SN.mp e;let(as,z,U):=mU.mp P;rw[hf v t F a h Q,q z];rfl
end
structure cI where
 nx:Sq->Prop
 rt:T->Prop
 bk:Sq->Prop:=λ_=>False
 ct:Sq->Prop:=λ_=>False
 ru:Sq->T->Prop:=λ_ _=>False
abbrev QS:=cI->Sq->Prop
def cI.lp(D:cI)(N:Sq->Prop):cI:={D with nx:=N,ct:=N,bk:=D.nx}
def cI.fn(Q:T->Prop):cI:={nx:=λ_=>Q .n,rt:=Q}
structure Frm(dl:Dl)(bi H:Hp):Prop where
 k:∀b o,bi b=Z o->Nd dl b->NR o->H b=Z o
 r:∀a x,bi a=Z (.room x)->∃y,y<=x/\H a=Z (.room y)
variable{bi:Hp}
def Frm.evo(f:Frm dl bi H)(D:Dls dl H):Evo dl bi H:=(f.k,D,f.r)
def Frm.refl:Frm dl H H:=(λ_ _ h _ _=>h,λ_ x h=>(x,NC _,h))
variable{H':Hp}
def Frm.trans(f:Frm dl bi H)(e:Evo dl H H'):Frm dl bi H':=(λb o h n r=>e.k b o (f.k b o h n r) n r,λa x h=>let(y,q,h1):=f.r a x h;let(z,g,h2):=e.r a y h1;(z,SQ g q,h2))
structure Rel(K:BT)(dl:Dl)(bi:Hp)(hs:List (V×T))(H:Hp)(σ:St)(q:Sq)(F:Nat->Θ):Prop where
 d:Dls dl H
 g:∀(i:Nat)(x:Sl)(t:T),q[i]?=Z x->x.get=Z t->∃v,σ[i]?=Z (Z v)/\Rp K dl H v t (F i)
 n:∀(i:Nat)(x:Sl),q[i]?=Z x->x.get=Y->F i=[]
 z:∀(i:Nat),q.length<=i->F i=[]
 o:∀(i:Nat)(t:T),q[i]?=Z (.o t)->(F i).Nodup/\(∀b∈F i,bi b=Y)/\(∀j,j≠i->∀b∈F i,b ∉ F j)
 h:∀p∈hs,∃Fp,Rp K dl H p.1 p.2 Fp/\∀(i:Nat)(t:T),q[i]?=Z (.o t)->∀b∈F i,b ∉ Fp
 f:Frm dl bi H
 l:q.length=σ.length
def fT(K:BT)(dl:Dl)(bi:Hp)(hs:List (V×T))(H:Hp)(σ:St)(q:Sq):Prop:=∃F,Rel K dl bi hs H σ q F
variable{F':Θ}
section
variable{K:BT}{hs:List (V×T)}{σ:St}{q:Sq}{F:Nat->Θ}
def Rel.rd(r:Rel K dl bi hs H σ q F):RdR K dl H σ q:=(r.d,λi x t h1 h2=>let(v,e,p):=r.g i x t h1 h2;(v,F i,e,p))
def Rel.fz(r:Rel K dl bi hs H σ q F){b:J}(h:H b=Y):bi b=none:=(r.f.evo r.d).free h
def Rel.ig(r:Rel K dl bi hs H σ q F){i:Nat}{b:J}(P:b∈F i):fA H b:=by
 by_cases hi:i<q.length
 ·have e:q[i]?=Z q[i]:=by simp[hi]
  cases ex:q[i].get with
  |none=>rw[r.n i _ e ex]at P;cases P
  |some t =>let(v,_,p):=r.g i _ t e ex;exact p.r.there b P
 rw[r.z i bd]at P;cases P
theorem Rel.evo(r:Rel K dl bi hs H σ q F)(e:Evo dl H H'):Rel K dl bi hs H' σ q F where
 d:=e.d
 g:=λi x t h1 h2=>let(v,P,p):=r.g i x t h1 h2;(v,P,p.evo r.d e)
 n:=r.n
 z:=r.z
 o:=r.o
 h:=λp hp=>let(Fp,h1,h2):=r.h p hp;(Fp,h1.evo r.d e,h2)
 f:=r.f.trans e
 l:=r.l
def Bs(F:Nat->Θ)(i:Nat)(x:Θ):Nat->List Addr:=λj=>if j=i then x else F j
def bh{i:Nat}{x:Θ}:Bs F i x i=x:=if_pos U
def aV{i:Nat}{x:Θ}(h:j≠i):Bs F i x j=F j:=if_neg h
def get_set{α:Type}{xs:List α}{i:Nat}{x y:α}(h:(xs.set i x)[j]?=Z y):(j=i/\y=x/\i<xs.length)\/(j≠i/\xs[j]?=Z y):=by
 by_cases e:j=i
 ·subst e;rw[List.getElem?_set_self']at h;by_cases hl:j<xs.length
  ·rw[mu hl]at h;exact .inl (U,(Option.some.inj h).symm,hl)
  rw[Rt bd]at h;cases h
 rw[JT (λz=>e z.symm)]at h;exact .inr (e,h)
def Rel.put{i:Nat}{v:V}{t:T}(r:Rel K dl bi hs H σ q F)(hi:i<q.length)(e:Evo dl H H')(hv:Rp K dl H' v t F')(hf:∀b∈F',H b=Y)(hn:F'.Nodup):Rel K dl bi hs H' (σ.set i (Z v)) (q.set i (.o t)) (Bs F i F'):=by
 have r':=r.evo e;have out:∀j,∀b∈F',b ∉ F j:=λj b P Q=>(r.ig Q).no (hf b P);refine(e.d,λj x u h1 h2=>?_,λj x h1 h2=>?_,λj Q=>?_,λj u h1=>?_,λp hp=>?_,r'.f,by simp[r.l])
 ·obtain⟨rfl,rfl,_⟩|⟨ne,h1⟩:=get_set h1
  ·cases h2;exact(v,by rw[Ny (by rw[<- r.l];exact hi)],by rw[bh];exact hv)
  let(w,h3,h4):=r'.g j x u h1 h2;exact(w,by rw[JT (λz=>ne z.symm)];exact h3,by rw[aV ne];exact h4)
 ·obtain⟨rfl,rfl,_⟩|⟨ne,h1⟩:=get_set h1
  ·cases h2
  rw[aV ne];exact r.n j x h1 h2
 ·rw[O4]at Q;rw[aV bd];exact r.z j Q
 ·obtain⟨rfl,_,_⟩|⟨ne,h1⟩:=get_set h1
  ·rw[bh];exact(hn,λb P=>r.fz (hf b P),λk hk b P=>by rw[aV hk];exact out k b P)
  rw[aV ne];let(o1,o2,o3):=r.o j u h1;refine(o1,o2,λk hk b P=>?_);by_cases ek:k=i
  ·subst ek;rw[bh];exact λz=>out j b z P
  rw[aV ek];exact o3 k hk b P
 let(Fp,h1,h2):=r.h p hp;refine(Fp,h1.evo r.d e,λj u Q b P z=>?_);obtain⟨rfl,_,_⟩|⟨ne,Q⟩:=get_set Q
 ·rw[bh]at P;exact fA.no (h1.r.there b z) (hf b P)
 rw[aV ne]at P;exact h2 j u Q b P z
def Rel.LG{i:Nat}{v:V}{t:T}(r:Rel K dl bi hs H σ q F)(hi:i<q.length)(hv:Rp K dl H v t F')(hf:∀(j:Nat)(u:T),q[j]?=Z (.o u)->j≠i->∀b∈F j,b ∉ F'):Rel K dl bi hs H (σ.set i (Z v)) (q.set i (.r t)) (Bs F i F'):=by
 refine(r.d,λj x u h1 h2=>?_,λj x h1 h2=>?_,λj P=>?_,λj u h1=>?_,λp hp=>?_,r.f,by simp[r.l])
 ·obtain⟨rfl,rfl,_⟩|⟨ne,h1⟩:=get_set h1
  ·cases h2;exact(v,by rw[Ny (by rw[<- r.l];exact hi)],by rw[bh];exact hv)
  let(w,h3,h4):=r.g j x u h1 h2;exact(w,by rw[JT (λz=>ne z.symm)];exact h3,by rw[aV ne];exact h4)
 ·obtain⟨rfl,rfl,_⟩|⟨ne,h1⟩:=get_set h1
  ·cases h2
  rw[aV ne];exact r.n j x h1 h2
 ·rw[O4]at P;rw[aV bd];exact r.z j P
 ·obtain⟨rfl,e,_⟩|⟨ne,h1⟩:=get_set h1
  ·cases e
  rw[aV ne];let(o1,o2,o3):=r.o j u h1;refine(o1,o2,λk hk b Q=>?_);have z:=hf j u h1 ne b Q;by_cases ek:k=i
  ·subst ek;rw[bh];exact z
  rw[aV ek];exact o3 k hk b Q
 let(Fp,h1,h2):=r.h p hp;refine(Fp,h1,λj u P b Q z=>?_);obtain⟨rfl,e,_⟩|⟨ne,P⟩:=get_set P
 ·cases e
 rw[aV ne]at Q;exact h2 j u P b Q z
def Rel.hold{v:V}{t:T}(r:Rel K dl bi hs H σ q F)(hv:Rp K dl H v t F')(hf:∀(j:Nat)(u:T),q[j]?=Z (.o u)->∀b∈F j,b ∉ F'):Rel K dl bi ((v,t)::hs) H σ q F:=
 (r.d,r.g,r.n,r.z,r.o,λp hp=>by
  obtain e|hp:=ot.mp hp
  ·subst e;exact(F',hv,hf)
  exact r.h p hp,r.f,r.l)
def Rel.down{i:Nat}{t:T}(r:Rel K dl bi hs H σ q F)(hi:q[i]?=Z (.o t)):Rel K dl bi hs H σ (q.set i (.r t)) F:=by
 refine(r.d,λj x u h1 h2=>?_,λj x h1 h2=>?_,λj P=>r.z j (by rw[O4]at P;exact P),λj u h1=>?_,λp hp=>?_,r.f,by simp[r.l])
 ·obtain⟨rfl,rfl,_⟩|⟨ne,h1⟩:=get_set h1
  ·cases h2;exact r.g j _ t hi U
  exact r.g j x u h1 h2
 ·obtain⟨rfl,rfl,_⟩|⟨ne,h1⟩:=get_set h1
  ·cases h2
  exact r.n j x h1 h2
 ·obtain⟨rfl,e,_⟩|⟨ne,h1⟩:=get_set h1
  ·cases e
  exact r.o j u h1
 let(Fp,h1,h2):=r.h p hp;refine(Fp,h1,λj u P=>?_);obtain⟨rfl,e,_⟩|⟨ne,P⟩:=get_set P
 ·cases e
 exact h2 j u P
def Rel.write{i:Nat}{v:V}{t t':T}{p:J}{o:HO}(r:Rel K dl bi hs H σ q F)(hi:q[i]?=Z (.o t))(hv:σ[i]?=Z (Z v))(hp:p∈F i)(ho:∀xs,H p=Z (.lst xs)->∃ys,o=.lst ys)(hr:Rp K dl (upd H p o) v t' F')(hn:F'.Nodup)
  (hf:∀b∈F',b∈F i\/(bi b=Y/\(∀j,b ∉ F j)/\∀w u Fp,Rp K dl H w u Fp->(w,u)∈hs->b ∉ Fp)):Rel K dl bi hs (upd H p o) σ (q.set i (.o t')) (Bs F i F'):=by
 let(o1,o2,o3):=r.o i t hi;have aP:=(mT.mp hi).1;let(v',aN,rp):=r.g i _ t hi U;have pn:=rp.n p hp;have Q:=r.ig hp;have tf:TF H (upd H p o):=(λa vs h=>(by rw[ak];exact h;intro z;subst z;let(_,e,m):=Q;rw[h]at e;cases e;cases m),λa ob u h=>(by rw[ak];exact h;intro z;subst z;let(_,e,m):=Q;rw[h]at e;cases e;cases m),λa φ h=>(by rw[ak];exact h;intro z;subst z;let(_,e,m):=Q;rw[h]at e;cases e;cases m),λa xs h=>(by
  by_cases z:a=p
  ·subst z;let(ys,e):=ho xs h;exact(ys,by rw[au,e])
  exact(xs,by rw[ak z];exact h)),λa x h=>(x,NC _,by
  rw[ak];exact h;intro z;subst z;let(_,e,m):=Q;rw[h]at e;cases e;cases m))
 have st:∀{w:V}{u:T}{Fw:Θ},Rp K dl H w u Fw->p ∉ Fw->Rp K dl (upd H p o) w u Fw:=λ{w u Fw} h np =>
  (h.r.cJ tf (λ_ z=>z) λb P ob e=>(by
   have ne:b≠p:=by intro z;subst z;exact np P
   rw[ak ne];exact e),h.n)
 refine(λd hd=>(r.d d hd).other (pn d hd).1 (pn d hd).2,λj x u h1 h2=>?_,λj x h1 h2=>?_,λj hj=>?_,λj u h1=>?_,λw hw=>?_,(λb ob P nb nr=>?_,λb x P=>?_),by simp[r.l])
 ·obtain⟨rfl,rfl,_⟩|⟨ne,h1⟩:=get_set h1
  ·cases h2;exact(v,hv,by rw[bh];exact hr)
  let(w,h3,h4):=r.g j x u h1 h2;exact(w,h3,by rw[aV ne];exact st h4 (o3 j ne p hp))
 ·obtain⟨rfl,rfl,_⟩|⟨ne,h1⟩:=get_set h1
  ·cases h2
  rw[aV ne];exact r.n j x h1 h2
 ·rw[O4]at hj;rw[aV bd];exact r.z j hj
 ·obtain⟨rfl,e,_⟩|⟨ne,h1⟩:=get_set h1
  ·rw[bh];refine(hn,λb P=>?_,λk hk b P=>?_)
   ·obtain z|z:=hf b P
    ·exact o2 b z
    exact z.1
   rw[aV hk];obtain z|z:=hf b P
   ·exact o3 k hk b z
   exact z.2.1 k
  rw[aV ne];let(p1,p2,p3):=r.o j u h1;refine(p1,p2,λk hk b P=>?_);by_cases ek:k=i
  ·subst ek;rw[bh];intro z;obtain z|z:=hf b z
   ·exact o3 j ne b z P
   exact z.2.1 j P
  rw[aV ek];exact p3 k hk b P
 ·let(Fp,h1,h2):=r.h w hw;refine(Fp,st h1 (h2 i t hi p hp),λj u hj b P z=>?_);obtain⟨rfl,e,_⟩|⟨ne,hj⟩:=get_set hj
  ·rw[bh]at P;obtain y|y:=hf b P
   ·exact h2 j t hi b y z
   exact y.2.2 w.1 w.2 Fp h1 hw z
  rw[aV ne]at P;exact h2 j u hj b P z
 ·rw[ak]
  ·exact r.f.k b ob P nb nr
  intro z;subst z;rw[o2 b hp]at P;cases P
 let(y,hy,e):=r.f.r b x P;refine(y,hy,?_);rw[ak]
 ·exact e
 intro z;subst z;rw[o2 b hp]at P;cases P
end
structure zP(K:BT)(dl:Dl)(bi:Hp)(hs:List (V×T))(Dq:cI)(D:Ends):Prop where
 nx:∀H σ q,fT K dl bi hs H σ q->Dq.nx q->D.nx σ H
 bk:∀H σ q,fT K dl bi hs H σ q->Dq.bk q->D.bk σ H
 ct:∀H σ q,fT K dl bi hs H σ q->Dq.ct q->D.ct σ H
 rt:∀v t F H,Dls dl H->Rp K dl H v t F->(∀b∈F,bi b=Y)->F.Nodup->Frm dl bi H->Dq.rt t->D.rt v H
 ru:∀H σ q F0 v t F,Rel K dl bi hs H σ q F0->Rp K dl H v t F->(∀b∈F,bi b=Y)->F.Nodup->(∀j,∀b∈F,b ∉ F0 j)->Dq.ru q t->D.rt v H
def jm(K:BT)(ts:TS)(qs:QS):Prop:=∀(dl:Dl)(bi:Hp)(hs:List (V×T))(H:Hp)(σ:St)(q:Sq)(Dq:cI)(D:Ends),fT K dl bi hs H σ q->qs Dq q->zP K dl bi hs Dq D->ts D σ H
structure QPS(X:Cx)(K:BT)(st:Ev)(ts:TS)(qs:QS):Prop where
 h:PS X st ts
 s:jm K ts qs
structure mR(X:Cx)(K:BT)(st:List Ev)(ts:TS)(qs:QS):Prop where
 h:PSs X st ts
 s:jm K ts qs
variable{q:Sq}{pos':Pos}
section
variable{X:Cx}{K:BT}{st:Ev}{rest sa sb:List Ev}{t u:TS}{qt qu:QS}{e c:Do}{te:TE}{qe:QE}{tc:TT}{qc:QT}{pos:Pos}
def kr:QS:=λD q=>D.nx q
def cI.seq(D:cI)(u:QS):cI:={D with nx:=u D}
def ic(t u:QS):QS:=λD q=>t (D.seq u) q
def aA:mR X K [] J5 kr:=(Aj,λ_ _ _ H σ q _ _ r hq E=>E.nx H σ q r hq)
def ag(h1:QPS X K st t qt)(h2:mR X K rest u qu):mR X K (st::rest) (K0 t u) (ic qt qu):=(bq h1.h h2.h,λdl bi hs H σ q Dq D r hq E =>
h1.s dl bi hs H σ q _ _ r hq (λH σ q r' g=>h2.s dl bi hs H σ q _ _ r' g E,E.bk,E.ct,E.rt,E.ru))
def ai(h1:QPS X K st t qt):mR X K [st] t qt:=(dZ h1.h,h1.s)
def dH:QPS X K st CV (λ_ _=>False):=(Ef,λ_ _ _ _ _ _ _ _ _ hq _=>hq.elim)
def c6(he:QPE X K e te qe)(hs:‹swapsWith e Y pos.line X.env=pure false›):QPS X K (.Expr e pos) (j9 te) (λD q=>qe q λ_=>D.nx q):=(oq he.h hs,λdl bi hs H σ q Dq D (F,r) hq E =>
he.s dl H σ q _ _ r.rd hq λv t F' H' z _ g=>E.nx H' σ q (F,r.evo z) g)
def aD(he:QPF X K e te qe):QPS X K (.Return (Z e) pos) (G7 te) (λD q=>qe q D.rt):=(mq he.h,λdl bi hs H σ q Dq D (F,r) hq E =>
he.s dl H σ q _ _ r.rd hq λv t F' H' g z f1 n1 P=>E.rt v t F' H' g.d z (λb Q=>r.fz (f1 b Q)) n1 (r.evo g).f P)
def dY{i:Nat}(he:PE X e (bN i)):QPS X K (.Return (Z e) pos) (G7 (bN i)) (λD q=>match q[i]? with|some (.o t)=>D.rt t|_=>False):=(mq he,λdl bi hs H σ q Dq D (F,r) hq E=>by
 split at hq
 ·rename_i t z;let(v,hv,P):=r.g i _ t z U;let(V,Q,o3):=r.o i t z;exact(v,hv,E.rt v t (F i) H r.d P Q V r.f hq)
 exact hq.elim)
def mj(c:QT)(t u:QS):QS:=λD q=>c q λb=>if b=O then t D q else u D q
def aM(z:QPT X K c tc qc)(Q:mR X K sa t qt)(P:mR X K sb u qu):QPS X K (.If c sa sb pos) (K5 tc t u) (mj qc qt qu):=(Eg z.h Q.h P.h,λdl bi hs H σ q Dq D (F,r) hq E =>
z.s dl H σ q _ _ r.rd hq λb H' V g=>by
  cases b with
  |true=>exact Q.s dl bi hs H' σ q Dq D (F,r.evo V) g E
  |false=>exact P.s dl bi hs H' σ q Dq D (F,r.evo V) g E)
def pM(i:Nat)(qe:QE):QS:=λD q=>qe q λt=>D.nx (q.set i (.o t))
def Rel.yV{hs:List (V×T)}{σ:St}{F:Nat->Θ}{i:Nat}{v:V}{t:T}(r:Rel K dl bi hs H σ q F)(e:Evo dl H H')(hv:Rp K dl H' v t F')(hf:∀b∈F',H b=Y)(hn:F'.Nodup):fT K dl bi hs H' (σ.set i (Z v)) (q.set i (.o t)):=by
 by_cases hi:i<q.length
 ·exact(_,r.put hi e hv hf hn)
 have hl:=r.l;rw[SI bd,SI bd];exact(F,r.evo e)
def zU{i:Nat}(he:qX K te qe):jm K (fV te (cU i)) (pM i qe):=λdl bi hs H σ q Dq D (F,r) hq E=>he dl H σ q _ _ r.rd hq λv t F' H' P g f1 n1 z=>E.nx H' _ _ (r.yV P g f1 n1) z
def Ln{i:Nat}(g:X.N.Nodup)(hi:X.N[i]?=Z x)(hx:Loc X.env.scope x)(he:QPF X K e te qe)(hs:‹swapsWith e (Z (.Name x pos')) pos.line X.env=pure false›)(hf:AT X x:=by first|exact .inl rfl|exact .inr rfl|assumption):
  QPS X K (.Assign [.Name x pos'] e pos) (fV te (cU i)) (pM i qe):=(gF g hi hx he.h hs hf,zU he.s)
inductive Pu(tb:QS)(D:cI)(W:Nat->Sq->Prop)(m:Nat)(q:Sq):Prop
 |mk(N:Sq->Prop)(less:∀q',N q'->∃m',m'<m/\W m' q')(body:tb (D.lp N) q)
inductive WhileI(c:QT)(tb:QS)(D:cI)(q:Sq):Prop
 |mk (W:Nat->Sq->Prop) (h0:∃m,W m q) (turn:∀m q,W m q->c q λb=>if b=O then Pu tb D W m q else D.nx q)
def Lu(c:QT)(tb:QS):QS:=λD q=>WhileI c tb D q
def iG(hp:Tw (model X.prog X.w) X.A X.env X.xe)(P:QPT X K c tc qc)(Q:mR X K rest t qt):QPS X K (.While c rest [] pos) (yo tc t) (Lu qc qt):=(wF hp P.h Q.h,λdl bi hs H σ q Dq D r hq E=>by
 let(W,(m0,w0),turn):=hq;refine(λm σ H=>∃q,fT K dl bi hs H σ q/\W m q,(m0,q,r,w0),?_);rintro m σ H ⟨q,⟨F,r⟩,w⟩;refine P.s dl H σ q _ _ r.rd (turn m q w) λb H1 V z=>?_;cases b with
 |false=>exact E.nx H1 σ q (F,r.evo V) z|true =>
  let(N,hN,z):=z;refine(λg H'=>∃q',fT K dl bi hs H' g q'/\N q',λg H' (q',r',n')=>?_,?_)
  ·let(m',hm,w'):=hN q' n';exact(m',hm,q',r',w')
  exact Q.s dl bi hs H1 σ q _ _ (F,r.evo V) z (λH σ q r n=>(q,r,n),λH σ q r n=>E.nx H σ q r n,λH σ q r n=>(q,r,n),E.rt,E.ru))
end
abbrev PSp:=ώ->(T->Prop)->Prop
inductive spQ(K:BT)(ps:PSp)(vs:Ω)(H:Hp)(Q:VK)(_:XK):Prop
 |mk(dl:Dl)(ts:ώ)(F:Θ)(Qp:T->Prop)(h1:Dls dl H)(h2:Rps K dl H vs ts F)(h3:ps ts Qp)(h4:∀v t F' H',Evo dl H H'->Rp K dl H' v t F'->(∀b∈F',H b=Y)->F'.Nodup->Qp t->Q v H')
section
variable{X:Cx}{K:BT}{e:Do}{es:List Do}{tl:TA}{ql:QA}{pos p:Pos}{k:Nat}{f:J}{fd:Ch}{prs:Γ}{ps:PSp}
def f6(ps:PSp)(ql:QA):QE:=λq Q=>ql q λts=>ps ts Q
def Dk(ha:JR K n tl ql):qX K (mY (spQ K ps) [] E0 tl) (f6 ps ql):=λdl H σ q Q R rd hq k=>ha dl H σ q _ _ rd hq λvs ts F H1 z P _ g=>by
 rw[u3];exact(dl,ts,F,Q,z.d,P,g,λv t F' H' e r f n g=>k v t F' H' (z.trans e) r (λb V=>z.free (f b V)) n g)
theorem HY(F:aS X.prog X.w X.K X.mg X.base CX0 k f fd prs (spQ K ps))(hr:cn k X.A)(hg:Gl X x)(hm:X.mg x=Z (.ref f))(P:W.keepIn X.K (.ref f)=O)(Q:Binds X.K fd prs [])(z:QPA X K (e::es) tl ql)
  (q:autoParam (AS x) zdc._auto_1) (he:‹AC X e es›) (g:‹AM X pos es›):
  QPF X K (.Call (.Name x p) (e::es) [] pos) (mY (spQ K ps) [] E0 tl) (f6 ps ql):=(oB F hr hg hm P Q .nil wU z.h q he g,Dk z.s)
end
theorem me{K:BT}{vs:Ω}{ts:ώ}{F:Θ}(D:Dls dl H)(r:Rps K dl H vs ts F)(hn:vs.length<=n):fT K dl H [] H (vs.map Z++CB (n-vs.length) Y) (ts.map Sl.r++CB (n-vs.length) .no):=by
 have hl:=r.r.len;have main:∀{vs:Ω}{ts:ώ}{F:Θ},aw K dl H vs ts F->(∀b∈F,Nd dl b)->∃g:Nat->Θ,(∀i t,ts[i]?=Z t->∃v,vs[i]?=Z v/\Rp K dl H v t (g i))/\∀i,ts.length<=i->g i=[]:=by
  intro vs ts F h;induction ts generalizing vs F with
  |nil=>intro _;exact(λ_=>[],λi t e=>by simp at e,λ_ _=>rfl)
  |cons t ts ih =>
   cases h with
   |@cons v0 _ aN _ F1 G1 h1 h2 =>
    intro hn;let(g,g1,g2):=ih h2 λb P=>hn b (rz _ P);refine(λi=>match i with | 0=>F1|i+1=>g i,λi u e=>?_,λi hi=>?_)
    ·cases i with|zero =>simp at e;subst e;exact(_,ap,h1,λb P=>hn b (vr _ P))|succ i =>let(v,q,Q):=g1 i u (e:);exact(v,(q:),Q)
    cases i with|zero=>simp at hi|succ i=>exact g2 i (hi:)
 let(g,g1,g2):=main r.r r.n;have lk:∀i y,(ts.map Sl.r++CB (n-vs.length) Sl.no)[i]?=Z y->(∃t,ts[i]?=Z t/\y=.r t)\/(ts.length<=i/\y=.no):=λi y h=>by
  by_cases hi:i<ts.length
  ·rw[A0 (hi:),kf,mu hi]at h;exact .inl (ts[i],ap,(Option.some.inj h).symm)
  rw[CC (hi:),RW]at h;split at h
  ·exact .inr (bd,(Option.some.inj h).symm)
  cases h
 refine(g,D,λi y t h1 h2=>?_,λi y h1 h2=>?_,λi hi=>?_,λi t h1=>?_,λp hp=>(by cases hp),.refl,by simp[hl])
 ·obtain⟨u,e,rfl⟩|⟨_,rfl⟩:=lk i y h1
  ·cases h2;let(v,q,Q):=g1 i t e;refine(v,?_,Q);have hi:=(mT.mp q).1;rw[A0 (hi:),kf,q];rfl
  cases h2
 ·obtain⟨u,e,rfl⟩|⟨hi,rfl⟩:=lk i y h1
  ·cases h2
  exact g2 i hi
 ·refine g2 i ?_;simp at hi;lia
 obtain⟨u,e,z⟩|⟨_,z⟩:=lk i _ h1 <;> cases z
variable{P:Da}{mg:Υ}{base:Dd}{qual:Str}{fd:Ch}{N:Γ}{ps:Γ}
theorem Fun.okQ{w:Cl}{K:BT}{st:Ev}{f:J}{k:Nat}{g:PSp}(F:Fun K x qual st f fd)(S:az N ps (aq st))
  (gc:∀(cdv:B)(A:Db)(outer:List Env)(s:ϋ)(H:Hp)(E:XK),cn k (A.deeper (envOfC qual (aq st) s.heap.objs.size f cdv)) ->
∃t qs,mR (kX CX0 P w K mg base N qual (aq st) f cdv A outer s H E).nox K (bD st) t qs/\∀ts Q,g ts Q->qs (.fn Q) (ts.map Sl.r++CB (N.length-ts.length) .no))(len:∀ts Q,g ts Q->ts.length=ps.length:=by intro _ _ h;cases h;subst_vars;rfl):aS P w K mg base CX0 (k+1) f fd ps (spQ K g):=by
 have aN:=by have:=congrArg zN S.pre;rw[vM]at this;omega
 refine F.ok S (λvs H Q E h=>?_) (λcdv A outer s H vs Q E hr h=>?_)
 ·let(dl,ts,F,Qp,_,r,h,_):=h;rw[r.r.len];exact len ts Qp h
 let(dl,ts,Fp,Qp,D,r,h,fin):=h;let(t,qs,hb,hq):=gc cdv A outer s H E hr;refine(t,hb.h,?_);have hlen:=len ts Qp h;have hl:=r.r.len;have z:=hq ts Qp h;have R:=me (n:=N.length) D r bd;rw[<- hl]at z;refine hb.s dl H [] H _ _ _ _ R z (λH' σ q (F,r') V=>?_,λ_ _ _ _ V=>V.elim,λ_ _ _ _ V=>V.elim,λv t F H' D' r' f' n' fr V=>?_,λ_ _ _ _ _ _ _ _ _ _ _ _ z=>z.elim)
 ·exact fin .non .n [] H' (r'.f.evo r'.d) (.n,nofun) nofun px V
 exact fin v t F H' (fr.evo D') r' f' n' V
structure q9(K:BT)(dl:Dl)(TN:It)(xs:ώ)(hv:List (V×T)):Prop where
 go:∀(H:Hp)(i:Nat),Dls dl H->(∀p∈hv,∃F,Rp K dl H p.1 p.2 F)->i<xs.length->TN.go i H
 yld:∀(H:Hp)(i:Nat)(x:T)(fp:V×T->Θ)(v:V)(H':Hp),Dls dl H->(∀p∈hv,Rp K dl H p.1 p.2 (fp p))->xs[i]?=Z x->TN.yld i H v H'->Evo dl H H'/\∃F,Rp K dl H' v x F/\∀b∈F,H b=Y\/∃p∈hv,b∈fp p
 stop:∀(H:Hp),Dls dl H->(∀p∈hv,∃F,Rp K dl H p.1 p.2 F)->TN.stop xs.length H
variable{lo:Int}
section
variable{X:Cx}{K:BT}
def vd{xs:ώ}:q9 K dl (Itl K a) xs [(.ref a,.l xs)] where
 go:=λH i D h hi=>by
  let(F,r):=h _ (fy.mpr U);let(p,vs,G,e,_,h1,h2):=r.r.lst;cases e;exact(vs,vs[i]'(by rw[h2.len];exact hi),SqL.of h1,by simp[hi])
 yld:=λH i x fp v H' D h hx y=>by
  have r:=h _ (fy.mpr U);let(p,vs,G,e,Q,h1,h2):=r.r.lst;cases e;let(U,y):=y;let(w,P,hw,q,hs):=h2.get hx;have z:=y vs (SqL.of h1);rw[hw]at z;cases z;have sub:∀b∈P,b∈fp (V.ref a,T.l xs):=λb g=>by
   rw[Q];exact mm _ (hs b g)
  exact(.refl D,P,(q,λb g=>r.n b (sub b g)),λb g=>.inr (_,fy.mpr U,sub b g))
 stop:=λH D h=>by
  let(F,r):=h _ (fy.mpr U);let(p,vs,G,e,_,h1,h2):=r.r.lst;cases e;exact(vs,SqL.of h1,by rw[h2.len];exact oQ _)
def Kq{xs:ώ}:q9 K dl (Itl K a) xs [(.ref a,.zl xs)] where
 go:=λH i D h hi=>by
  let(F,r):=h _ (fy.mpr U);let(p,o,vs,e,_,h1,h2):=r.r.zls;cases e;exact(vs,vs[i]'(by rw[h2.len];exact hi),.inl (.inr (o,h1)),by simp[hi])
 yld:=λH i x fp v H' D h hx y=>by
  have r:=h _ (fy.mpr U);let(p,o,vs,e,Q,h1,h2):=r.r.zls;cases e;let(U,y):=y;let(w,P,hw,g,hs):=h2.get hx;have z:=y vs (.inl (.inr (o,h1)));rw[hw]at z;cases z;exact(.refl D,P,(g,λb q=>nomatch hs b q),λb q=>nomatch hs b q)
 stop:=λH D h=>by
  let(F,r):=h _ (fy.mpr U);let(p,o,vs,e,_,h1,h2):=r.r.zls;cases e;exact(vs,.inl (.inr (o,h1)),by rw[h2.len];exact oQ _)
def zu{xs:ώ}:q9 K dl (Itt K a) xs [(.ref a,.t xs)] where
 go:=λH i D h hi=>by
  let(F,r):=h _ (fy.mpr U);let(p,vs,e,h1,h2):=r.r.tup;cases e;exact(vs,vs[i]'(by rw[h2.len];exact hi),SqT.of h1,by simp[hi])
 yld:=λH i x fp v H' D h hx y=>by
  have r:=h _ (fy.mpr U);let(p,vs,e,h1,h2):=r.r.tup;cases e;let(U,y):=y;let(w,P,hw,g,hs):=h2.get hx;have z:=y vs (SqT.of h1);rw[hw]at z;cases z;exact(.refl D,P,(g,λb q=>r.n b (hs b q)),λb q=>.inr (_,fy.mpr U,hs b q))
 stop:=λH D h=>by
  let(F,r):=h _ (fy.mpr U);let(p,vs,e,h1,h2):=r.r.tup;cases e;exact(vs,SqT.of h1,by rw[h2.len];exact oQ _)
def zw:q9 K dl (Itr lo n) ((Fq n).map λi=>.i (lo+(i:Nat))) [] where
 go:=λH i D h hi=>by
  show i<n;simpa using hi
 yld:=λH i x fp v H' D h hx y=>by
  let(U,U):=y;rw[kf]at hx;cases e:(Fq n)[i]? with
  |none=>rw[e]at hx;cases hx
  |some j =>
   rw[e]at hx;have g:j=i:=by have:=mT.mp e;let(h1,h2):=this;simp at h2;exact h2.symm
   subst g;cases hx;exact(.refl D,[],.c (.i _),nofun)
 stop:=λH D h=>by show n<=_;simp
abbrev QI:=Sq->(ώ->Prop)->Prop
def Py(K:BT)(wi:TI)(iq:QI):Prop:=∀(dl:Dl)(H:Hp)(σ:St)(q:Sq)(Q:ώ->Prop)(R:It->Hp->Prop),RdR K dl H σ q->iq q Q ->
 (∀xs TN hv H',Evo dl H H'->q9 K dl TN xs hv->(∀p∈hv,∃F,Rp K dl H' p.1 p.2 F)->Q xs->R TN H')->wi σ H R
structure QPI(X:Cx)(K:BT)(tg iter:Do)(wi:TI)(iq:QI):Prop where
 h:PI X tg iter wi
 s:Py K wi iq
abbrev QJ:=Sq->(ώ->Sq->Prop)->Prop
def Q8(K:BT)(wi:TI)(iq:QJ):Prop:=∀(dl:Dl)(bi:Hp)(hs:List (V×T))(H:Hp)(σ:St)(q:Sq)(Q:ώ->Sq->Prop)(R:It->Hp->Prop),fT K dl bi hs H σ q->iq q Q ->
 (∀xs TN hv H' q',fT K dl bi (hv++hs) H' σ q'->q9 K dl TN xs hv->Q xs q'->R TN H')->wi σ H R
structure QPJ(X:Cx)(K:BT)(tg iter:Do)(wi:TI)(iq:QJ):Prop where
 h:PI X tg iter wi
 s:Q8 K wi iq
variable{tg e a b:Do}{te:TE}{qe:QE}{tl:TA}{ql:QA}{pos p:Pos}
def pR(g:X.K=K)(h:PE X e te):PI X tg e (xw K te):=by subst g;exact oy h
def uO(g:X.K=K)(h:PE X e te):PI X tg e (Fm K te):=by subst g;exact L3 h
def asL(qe:QE):QI:=λq Q=>qe q λt=>match t with|.l xs=>Q xs|.zl xs=>Q xs|_=>False
def asT(qe:QE):QI:=λq Q=>qe q λt=>match t with|.t xs=>Q xs|_=>False
def km(h:QPE X K e te qe)(P:‹X.K=K›):QPI X K tg e (xw K te) (asL qe):=(pR P h.h,λdl H σ q Q R rd hq k=>h.s dl H σ q _ _ rd hq λv t F H' z r g=>by
 split at g
 ·let(p,vs,G,U,U,h1,h2):=r.r.lst;exact(p,U,(vs,SqL.of h1),k _ _ _ H' z vd (λp hp=>by rw[fy.mp hp];exact(_,r)) g)
 ·let(p,o,vs,U,U,h1,h2):=r.r.zls;exact(p,U,(vs,.inl (.inr (o,h1))),k _ _ _ H' z Kq (λp hp=>by rw[fy.mp hp];exact(_,r)) g)
 exact g.elim)
def iH(h:QPE X K e te qe)(z:‹X.K=K›):QPI X K tg e (Fm K te) (asT qe):=(uO z h.h,λdl H σ q Q R rd hq k=>h.s dl H σ q _ _ rd hq λv t F H' P r g=>by
 split at g
 ·let(p,vs,U,h1,h2):=r.r.tup;exact(p,U,(vs,SqT.of h1),k _ _ _ H' P zu (λp hp=>by rw[fy.mp hp];exact(_,r)) g)
 exact g.elim)
def yK(lo:Int)(n:Nat):ώ:=(Fq n).map λi=>.i (lo+(i:Nat))
def fJ{i:Nat}{x:T}(h:(yK lo n)[i]?=Z x):x=.i (lo+(i:Nat))/\i<n:=by unfold yK at h;rw[kf]at h;let(j,g,U):=mU.mp h;let(h1,h2):=mT.mp g;simp at h1 h2;subst h2;exact(U,h1)
def cv:(yK lo n).length=n:=by simp[yK]
def Pq(ql:QA):QI:=λq Q=>ql q λts=>on1 ts λt=>match t with|.i n=>-(2 ^ 62)<=n/\n<2 ^ 62/\Q (yK 0 n.toNat)|_=>False
def QU(ql:QA):QI:=λq Q=>ql q λts=>match ts with|[.i m,.i n]=>(-(2 ^ 62)<=m/\m<2 ^ 62 /\ -(2 ^ 62)<=n/\n<2 ^ 62)/\Q (yK m (n-m).toNat)|_=>False
def jb(hg:Gl X "range")(hm:X.mg "range"=Y)(P:QPA X K [a] tl ql)(hs:‹AD X a›):QPI X K tg (.Call (.Name "range" p) [a] [] pos) (xv tl) (Pq ql):=(my hg hm P.h hs,λdl H σ q Q R rd hq k=>P.s dl H σ q _ _ rd hq λvs ts F H' V r _ g=>by
 replace g:=on1.inv g;let(t,U,g):=g;split at g
 ·let(v,U,r'):=r.one;let(U,_):=r'.r.int;exact(_,U,g.1,g.2.1,k _ _ [] H' V zw nofun g.2.2)
 exact g.elim)
def asJ(iq:QI):QJ:=λq Q=>iq q λxs=>Q xs q
def fZ(hg:Gl X "range")(hm:X.mg "range"=Y)(P:QPA X K [a] tl ql)(hs:‹AD X a›):QPJ X K tg (.Call (.Name "range" p) [a] [] pos) (xv tl) (asJ (Pq ql)):=(my hg hm P.h hs,λdl bi hs H σ q Q R (F0,z) hq k=>P.s dl H σ q _ _ z.rd hq λvs ts F H' V r _ g=>by
 replace g:=on1.inv g;let(t,U,g):=g;split at g
 ·let(v,U,r'):=r.one;let(U,_):=r'.r.int;exact(_,U,g.1,g.2.1,k _ _ [] H' q (F0,z.evo V) zw g.2.2)
 exact g.elim)
def Bx(hg:Gl X "range")(hm:X.mg "range"=Y)(V:QPA X K [a,b] tl ql)(hs:‹nY [a,b] X.env=[(ϊ,eval a X.env),(ϊ,eval b X.env)]›)(z:‹AD X b›):QPJ X K tg (.Call (.Name "range" p) [a,b] [] pos) (Kr tl) (asJ (QU ql)):=(BI hg hm V.h hs z,λdl bi hs H σ q Q R (F0,P) hq k=>V.s dl H σ q _ _ P.rd hq λvs ts F H' e1 r _ g=>by
 split at g
 ·let(v,w,F1,F2,U,r1,r2):=r.two;let(U,_):=r1.r.int;let(U,_):=r2.r.int;exact(_,_,U,g.1,k _ _ [] H' q (F0,P.evo e1) zw g.2)
 exact g.elim)
def z9(h:QPF X K e te qe)(hK:‹X.K=K›):QPJ X K tg e (xw K te) (asJ (asL qe)):=(pR hK h.h,λdl bi hs H σ q Q R (F0,g) hq k=>h.s dl H σ q _ _ g.rd hq λv t F H' e1 r f n P=>by
 split at P
 ·have V:=(g.evo e1).hold r λj u hj b hb z=>(g.ig hb).no (f b z);let(p,vs,G,U,U,h1,h2):=r.r.lst;exact(p,U,(vs,SqL.of h1),k _ _ _ H' q (F0,V) vd P)
 ·have V:=(g.evo e1).hold r λj u hj b hb z=>(g.ig hb).no (f b z);let(p,o,vs,U,U,h1,h2):=r.r.zls;exact(p,U,(vs,.inl (.inr (o,h1))),k _ _ _ H' q (F0,V) Kq P)
 exact P.elim)
def fL(h:QPF X K e te qe)(hK:‹X.K=K›):QPJ X K tg e (Fm K te) (asJ (asT qe)):=(uO hK h.h,λdl bi hs H σ q Q R (F0,g) hq k=>h.s dl H σ q _ _ g.rd hq λv t F H' e1 r f n P=>by
 split at P
 ·have V:=(g.evo e1).hold r λj u hj b hb z=>(g.ig hb).no (f b z);let(p,vs,U,h1,h2):=r.r.tup;exact(p,U,(vs,SqT.of h1),k _ _ _ H' q (F0,V) zu P)
 exact P.elim)
inductive Tg where
 |nm(i:Nat)|tp (is:List Nat)
def rM(q:Sq):List Nat->ώ->Option Sq
 |[],[]=>Z q|i::is,x::xs=>if i<q.length then rM (q.set i (.r x)) is xs else Y|_,_=>Y
def Tg.put(g:Tg)(x:T)(q:Sq):Option Sq:=match g with|.nm i=>if i<q.length then Z (q.set i (.r x))else Y|.tp is=>match x with|.t xs=>rM q is xs|_=>Y
def vg:List Nat->TGs
 |[]=>M1|i::is=>AF (cU i) (vg is)
def Tg.h(K:BT):Tg->TG
 |.nm i=>cU i|.tp is=>Jv K is.length (vg is)
def Bw{hs:List (V×T)}{is:List Nat}:∀{vs:Ω}{xs:ώ}{G:Θ}{σ:St}{q q':Sq}{F:Nat->Θ}{R:St->Hp->Prop},Rel K dl bi hs H σ q F->aw K dl H vs xs G->(∀b∈G,Nd dl b) ->
  (∀(j:Nat)(u:T),q[j]?=Z (.o u)->∀b∈F j,b ∉ G)->rM q is xs=Z q'->(∀P,fT K dl bi hs H P q'->R P H)->vg is vs σ H R:=by
 induction is with
 |nil =>
  intro vs xs G σ q q' F R r rs _ _ hp k;cases xs with
  |cons _ _=>cases hp
  |nil =>
   cases rs;cases hp;exact(U,k σ (F,r))
 |cons i is ih =>
  intro vs xs G σ q q' F R r rs hn ho hp k;cases xs with
  |nil=>cases hp
  |cons x xs =>
   cases rs with
   |cons r1 r2 =>
    unfold rM at hp;by_cases hi:i<q.length
    ·rw[if_pos hi]at hp;refine(_,_,U,?_);have r':=r.LG hi (r1,λb g=>hn b (vr _ g)) λj u Q _ b g z=>ho j u Q b g (vr _ z);refine ih r' r2 (λb g=>hn b (rz _ g)) (λj u Q b g z=>?_) hp k;obtain⟨_,z',_⟩|⟨ne,Q⟩:=get_set Q
     ·cases z'
     rw[aV ne]at g;exact ho j u Q b g (rz _ z)
    rw[if_neg hi]at hp;cases hp
variable{g:Tg}
def yL{hs:List (V×T)}{v:V}{x:T}{σ:St}{q':Sq}{F:Nat->Θ}{R:St->Hp->Prop}(r:Rel K dl bi hs H σ q F)(P:Rp K dl H v x G)
  (ho:∀(j:Nat)(u:T),q[j]?=Z (.o u)->∀b∈F j,b ∉ G) (hp:g.put x q=Z q') (k:∀z,fT K dl bi hs H z q'->R z H):g.h K v σ H R:=by
 cases g with
 |nm i =>
  replace hp:(if i<q.length then Z (q.set i (.r x))else Y)=Z q':=hp;by_cases hi:i<q.length
  ·rw[if_pos hi]at hp;cases hp;exact k _ (_,r.LG hi P λj u hj _=>ho j u hj)
  rw[if_neg hi]at hp;cases hp
 |tp is =>
  cases x with
  |t xs =>
   let(p,vs,U,h1,h2):=P.r.tup;have hl:∀{is:List Nat}{xs:ώ}{q q':Sq},rM q is xs=Z q'->xs.length=is.length:=λ{is}=>by
    induction is with
    |nil=>intro xs q q' h;cases xs with|nil=>rfl|cons _ _=>cases h
    |cons i is Q=>intro xs q q' h;cases xs with
     |nil=>cases h
     |cons x xs =>
      unfold rM at h;by_cases hi:i<q.length
      ·rw[if_pos hi]at h;simp[Q h]
      rw[if_neg hi]at h;cases h
   exact(p,vs,U,SqT.of h1,by rw[h2.len];exact hl hp,Bw r h2 P.n ho hp k)
  |_=>cases hp
end
variable{tg:Do}{iter:Do}{body:List Ev}{g:Tg}{cap:List (Option Nat)}{iq:QI}{tst:TT}{mf:QT}{te:TE}{qe:QE}{N':Γ}{sc:Scope}{elt:Do}{ifs:List Do}
section
variable{X:Cx}{K:BT}{hs:List (V×T)}{σ:St}{F:Nat->Θ}
def Rel.t7{hv:List (V×T)}(r:Rel K dl bi (hv++hs) H σ q F):Rel K dl bi hs H σ q F:=(r.d,r.g,r.n,r.z,r.o,λp hp=>r.h p (rz _ hp),r.f,r.l)
def Rel.fps{hv:List (V×T)}(r:Rel K dl bi (hv++hs) H σ q F):∃fp:V×T->Θ,∀p∈hv,Rp K dl H p.1 p.2 (fp p)/\∀(i:Nat)(t:T),q[i]?=Z (.o t)->∀b∈F i,b ∉ fp p:=by
 classical
 refine(λp=>if h:p∈hv then(r.h p (vr _ h)).choose else [],λp hp=>?_);have z:=(r.h p (vr _ hp)).choose_spec;simp only[dif_pos hp];exact z
inductive Rb(g:Tg)(qb:QS)(D:cI)(xs:ώ)(q0:Sq):Prop
 |mk(I:Nat->Sq->Prop)(h0:I 0 q0)(step:∀i x q,xs[i]?=Z x->I i q->∃q',g.put x q=Z q'/\qb (D.lp (I (i+1))) q')(fin:∀q,I xs.length q->D.nx q)
def P0(iq:QJ)(g:Tg)(qb:QS):QS:=λD q=>iq q λxs q0=>Rb g qb D xs q0
def bC{wi:TI}{iq:QJ}{tb:TS}{qb:QS}{pos:Pos}(hp:Tw (model X.prog X.w) X.A X.env X.xe)(hc:X.calm=O)(hi:QPJ X K tg iter wi iq)(hg:PG X tg (g.h K))(hb:mR X K body tb qb)
  (hs:∀x,foldedSetIterable iter X.env x=pure x:=by intro _;rfl):QPS X K (.For tg iter body [] pos) (NP wi (g.h K) tb) (P0 iq g qb):=(Eh hp hc hi.h hg hb.h hs,λdl bi hs H σ q Dq D r hq E=>by
 refine hi.s dl bi hs H σ q _ _ r hq λxs TN hv H1 q1 r1 it hz=>?_;let(I,i0,turn,fin):=hz;refine(λi m σ H=>m=xs.length-i/\i<=xs.length/\∃q,fT K dl bi (hv++hs) H σ q/\I i q,(xs.length,ap,Rm _,q1,r1,i0),?_);rintro i m σ H ⟨rfl,aT,q,⟨F,r⟩,hI⟩;have held:∀p∈hv,∃F,Rp K dl H p.1 p.2 F:=λp hp=>let(Fp,h,_):=r.h p (vr _ hp);(Fp,h);by_cases P:i<xs.length
 ·refine .inr (it.go H i r.d held P,λQ H'=>∃q,fT K dl bi (hv++hs) H' Q q/\I (i+1) q,λQ H' h=>(xs.length-(i+1),bd,U,P,h),λv H' y=>?_);let(fp,V):=r.fps;have hx:xs[i]?=Z xs[i]:=by simp[P]
  let(e1,G,rx,hG):=it.yld H i xs[i] fp v H' r.d (λp hp=>(V p hp).1) hx y;let(q',aP,hz):=turn i xs[i] q hx hI;refine yL (r.evo e1) rx (λj u hj b hb z=>?_) aP λaN r2=>hb.s dl bi (hv++hs) H' aN q' _ _ r2 hz (λH σ q r n=>(q,r,n),λH σ q (F,r) n=>E.nx H σ q (F,r.t7) n,λH σ q r n=>(q,r,n),E.rt,λH σ q F0 v t F r=>E.ru H σ q F0 v t F r.t7);obtain h |⟨p,hp,h⟩:=hG b z
  ·exact(r.ig hb).no h
  exact(V p hp).2 j u hj b hb h
 have e:i=xs.length:=bd;subst e;exact .inl (it.stop H r.d held,E.nx H σ q (F,r.t7) (fin q hI)))
def iS(cap:List (Option Nat))(q:Sq):Sq:=cap.map λo=>match o with|none=>.no|some i=>match q[i]? with|some (.o t)=>.r t|some (.r t)=>.r t|_=>.no
def HE(r:RdR K dl H σ q):RdR K dl H (jW cap σ) (iS cap q):=(r.d,λj x t h1 h2=>by
 unfold iS at h1;rw[kf]at h1;cases e:cap[j]? with
 |none=>rw[e]at h1;cases h1
 |some o =>
  rw[e]at h1;cases o with
  |none=>cases h1;cases h2
  |some i =>
   have go:∀y,q[i]?=Z y->y.get=Z t->∃v F,(jW cap σ)[j]?=Z (Z v)/\Rp K dl H v t F:=λy z P=>by
    let(v,F,h3,h4):=r.g i y t z P;refine(v,F,?_,h4);unfold jW;rw[kf,e];show Z ((σ[i]?).join)=_;rw[h3];rfl
   replace h1:(match q[i]? with|some (.o t)=>Sl.r t|some (.r t)=>.r t|_=>.no)=x:=Option.some.inj h1;split at h1
   ·rename_i u eq;subst h1;cases h2;exact go _ eq U
   ·rename_i u eq;subst h1;cases h2;exact go _ eq U
   subst h1;cases h2)
theorem RdR.set{i:Nat}{v:V}{x:T}{G:Θ}(r:RdR K dl H σ q)(hl:i < σ.length)(P:Rp K dl H v x G):RdR K dl H (σ.set i (Z v)) (q.set i (.r x)):=(r.d,λj y t h1 h2=>by
 obtain⟨rfl,rfl,_⟩|⟨ne,h1⟩:=get_set h1
 ·cases h2;exact(v,G,by rw[Ny hl],P)
 let(w,F,h3,h4):=r.g j y t h1 h2;exact(w,F,by rw[JT (λz=>ne z.symm)];exact h3,h4))
def RdR.any{i:Nat}{o:Option V}(r:RdR K dl H σ q)(hn:q[i]?=Z .no):RdR K dl H (σ.set i o) q:=(r.d,λj y t h1 h2=>by
 let(w,F,h3,h4):=r.g j y t h1 h2;refine(w,F,?_,h4);rw[JT]
 ·exact h3
 intro z;subst z;rw[hn]at h1;cases h1;cases h2)
def Tg.ixs:Tg->List Nat
 |.nm i=>[i]|.tp is=>is
def Dw{is:List Nat}:∀{vs:Ω}{xs:ώ}{G:Θ}{σ:St}{q q0 q':Sq}{R:St->Hp->Prop},RdR K dl H σ q->RdR K dl H σ q0->σ.length=q.length->aw K dl H vs xs G->(∀b∈G,Nd dl b)->(∀i∈is,q0[i]?=Z .no)->rM q is xs=Z q' ->
  (∀g,RdR K dl H g q'->RdR K dl H g q0->g.length=σ.length->R g H)->vg is vs σ H R:=by
 induction is with
 |nil =>
  intro vs xs G σ q q0 q' R r z _ rs _ _ hp k;cases xs with
  |cons _ _=>cases hp
  |nil =>
   cases rs;cases hp;exact(U,k σ r z U)
 |cons i is ih =>
  intro vs xs G σ q q0 q' R r z hl rs hn hf hp k;cases xs with
  |nil=>cases hp
  |cons x xs =>
   cases rs with
   |cons r1 Q =>
    unfold rM at hp;by_cases hi:i<q.length
    ·rw[if_pos hi]at hp;refine(_,_,U,(ih (r.set bd (r1,λb P=>hn b (vr _ P))) (z.any (hf i iY)) (by simp[hl]) Q (λb P=>hn b (rz _ P)) (λj hj=>hf j (mm _ hj)) hp λg a b c=>k g a b (c:)))
    rw[if_neg hi]at hp;cases hp
theorem wD:∀{is:List Nat}{xs:ώ}{q q':Sq},rM q is xs=Z q'->xs.length=is.length
 |[],[],_,_,_=>rfl|[],_::_,_,_,h=>by cases h
 |_::_,[],_,_,h=>by cases h
 |i::is,x::xs,q,q',h=>by
  unfold rM at h;by_cases hi:i<q.length
  ·rw[if_pos hi]at h;simp[wD h]
  rw[if_neg hi]at h;cases h
def NU{v:V}{x:T}{q':Sq}{R:St->Hp->Prop}(r:RdR K dl H σ q)(hl:σ.length=q.length)(P:Rp K dl H v x G)(hf:∀i∈g.ixs,q[i]?=Z .no)(hp:g.put x q=Z q')
  (k:∀z,RdR K dl H z q'->RdR K dl H z q->z.length=σ.length->R z H):g.h K v σ H R:=by
 cases g with
 |nm i =>
  replace hp:(if i<q.length then Z (q.set i (.r x))else Y)=Z q':=hp;by_cases hi:i<q.length
  ·rw[if_pos hi]at hp;cases hp;exact k _ (r.set bd P) (r.any (hf i (fy.mpr U))) ap
  rw[if_neg hi]at hp;cases hp
 |tp is =>cases x with|t xs =>let(p,vs,U,h1,h2):=P.r.tup;exact(p,vs,U,SqT.of h1,by rw[h2.len];exact wD hp,Dw r r hl h2 P.n hf hp k)|_=>cases hp
def DZ:QT:=λ_ Q=>Q O
def C7:jX K sD DZ:=λdl H σ q Q R rd hq k=>k O H (.refl rd.d) hq
inductive CompI(cap:List (Option Nat))(g:Tg)(tst:QT)(qe:QE)(q:Sq)(Q:T->Prop)(xs:ώ):Prop
 |mk (hl:xs.length<p6) (I:Nat->ώ->Prop) (h0:I 0 []) (step:∀i x ys,xs[i]?=Z x->I i ys->∃q',g.put x (iS cap q)=Z q'/\tst q' λb=>if b=O then qe q' λy=>I (i+1) (ys++[y])else I (i+1) ys) (fin:∀ys,I xs.length ys->Q (.l ys))
def Ae(cap:List (Option Nat))(iq:QI)(g:Tg)(tst:QT)(qe:QE):QE:=λq Q=>iq q λxs=>CompI cap g tst qe q Q xs
theorem v8{wi:TI}(hi:Py K wi iq)(ht:jX K tst mf)(he:qX K te qe)(hf:(g.ixs.all λi=>cap[i]? == Z Y)=O):qX K (mX cap wi (g.h K) tst te) (Ae cap iq g mf qe):=by
 intro dl H σ q Q R rd hq k;refine hi dl H σ q _ _ rd hq λxs TN hv H1 e1 it held hz=>?_;let(hlen,I,i0,turn,fin):=hz;have bR:=HE (cap:=cap) (rd.evo e1);have cj:∀i∈g.ixs,(iS cap q)[i]?=Z .no:=λi hi=>by
  have z:=JW.mp hf i hi;have z:=(z:);unfold iS;rw[kf,z];rfl
 have cC:(jW cap σ).length=(iS cap q).length:=by simp[jW,iS]
 refine(λi m vs aT H'=>m=xs.length-i/\i<=xs.length/\∃ts F,Evo dl H1 H'/\RdR K dl H' aT (iS cap q)/\aT.length=(iS cap q).length/\(∀p∈hv,∃F,Rp K dl H' p.1 p.2 F)/\Rps K dl H' vs ts F/\(∀b∈F,H b=Y)/\F.Nodup/\vs.length<=i/\I i ts,
(xs.length,ap,Rm _,[],[],.refl e1.d,bR,cC,held,(.nil,nofun),nofun,px,oQ _,i0),?_)
 rintro i m vs aT H' ⟨rfl,cG,ts,F,e2,bz,ck,xy,rs,fr,nd,cF,hI⟩;by_cases aN:i<xs.length
 ·refine .inr (it.go H' i e2.d xy aN,bd,λa0 aP H2=>∃ts F,Evo dl H1 H2/\RdR K dl H2 aP (iS cap q)/\aP.length=(iS cap q).length/\(∀p∈hv,∃F,Rp K dl H2 p.1 p.2 F)/\Rps K dl H2 a0 ts F/\(∀b∈F,H b=Y)/\F.Nodup/\a0.length<=i+1/\I (i+1) ts,
λa0 aP H2 h=>(xs.length-(i+1),Nat.sub_succ_lt_self _ _ aN,U,aN,h),λv H2 y=>?_)
  have hx:xs[i]?=Z xs[i]:=by simp[aN]
  obtain⟨fp,ct⟩:∃fp:V×T->Θ,∀p∈hv,Rp K dl H' p.1 p.2 (fp p):=by
   classical
   refine(λp=>if h:p∈hv then(xy p h).choose else [],λp hp=>?_);simp only[dif_pos hp];exact(xy p hp).choose_spec
  let(e3,G,rx,hG):=it.yld H' i xs[i] fp v H2 e2.d ct hx y;let(q',b0,hz):=turn i xs[i] ts hx hI;have Kv:∀{H3:Hp},Evo dl H' H3->∀p∈hv,∃F,Rp K dl H3 p.1 p.2 F:=λ{H3} e p hp=>let(F,r):=xy p hp;(F,r.evo e2.d e);refine NU (bz.evo e3) ck rx cj b0 λa3 r3 bc l3=>(ht dl H2 a3 q' _ _ r3 hz λb H4 e4 hz=>?_);cases b with
  |false=>exact(ts,F,(e2.trans e3).trans e4,bc.evo e4,bd,Kv (e3.trans e4),(rs.evo e2.d e3).evo e3.d e4,fr,nd,bd,hz)|true =>
   refine he dl H4 a3 q' _ _ (r3.evo e4) hz λw t G' H5 e5 a5 f5 n5 hz=>?_;have E:=(e2.trans e3).trans (e4.trans e5);have bg:=((rs.evo e2.d e3).evo e3.d (e4.trans e5));refine(ts++[t],F++(G'++[]),E,bc.evo (e4.trans e5),bd,Kv (e3.trans (e4.trans e5)),(bg.r.append (.cons a5.r .nil),λb P=>?_),λb P=>?_,?_,by simp;lia,hz)
   ·obtain P|P:=rh.mp P
    ·exact rs.n b P
    rw[u3]at P;exact a5.n b P
   ·obtain P|P:=rh.mp P
    ·exact fr b P
    rw[u3]at P;exact((e1.trans e2).trans (e3.trans e4)).free (f5 b P)
   rw[u3];refine O3.mpr (nd,n5,λx hx y hy cE=>?_);subst cE;have br:=(rs.evo e2.d e3).evo e3.d e4;exact fA.no (br.r.there x hx) (f5 x hy)
 have e:i=xs.length:=bd;subst e;refine .inl (it.stop H' e2.d xy,bd,λD hD=>?_);exact k _ _ _ _ ((e1.trans e2).new hD) (rs.lst e2.d hD) (λb P=>by
  obtain e|P:=ot.mp P
  ·rw[e];exact(e1.trans e2).free hD
  exact fr b P) (rs.fresh hD nd) (fin ts hI)
structure QB(X:Cx)(K:BT)(N':Γ)(sc:Scope)(tg:Do)(g:Tg)(ifs:List Do)(tst:TT)(mf:QT)(elt:Do)(te:TE)(qe:QE):Prop where
 b:∀cl C s₂ H₂ fp,PG (blk X N' sc cl C s₂ H₂ fp) tg (g.h K)/\PTs (blk X N' sc cl C s₂ H₂ fp) ifs tst/\PE (blk X N' sc cl C s₂ H₂ fp) elt te
 t:jX K tst mf
 e:qX K te qe
def bX(h:∀cl C s₂ H₂ fp,PG (blk X N' sc cl C s₂ H₂ fp) tg (g.h K)/\QPF (blk X N' sc cl C s₂ H₂ fp) K elt te qe):QB X K N' sc tg g [] sD DZ elt te qe:=
 (λcl C s₂ H₂ fp=>((h cl C s₂ H₂ fp).1,uE,(h cl C s₂ H₂ fp).2.h),C7,(h [] 0 X.s₀ (λ_=>Y) []).2.s)
def DU{c:Do}(h:∀cl C s₂ H₂ fp,PG (blk X N' sc cl C s₂ H₂ fp) tg (g.h K)/\QPT (blk X N' sc cl C s₂ H₂ fp) K c tst mf/\QPF (blk X N' sc cl C s₂ H₂ fp) K elt te qe):QB X K N' sc tg g [c] tst mf elt te qe:=
 (λcl C s₂ H₂ fp=>((h cl C s₂ H₂ fp).1,Ai (h cl C s₂ H₂ fp).2.1.h,(h cl C s₂ H₂ fp).2.2.h),(h [] 0 X.s₀ (λ_=>Y) []).2.1.s,(h [] 0 X.s₀ (λ_=>Y) []).2.2.s)
def b6{pos:Pos}{wi:TI}(P:X.calm=O)(hi:QPI X K tg iter wi iq)(z:j6 X sc N' cap)(q:QB X K N' sc tg g ifs tst mf elt te qe)
  (hf:‹(g.ixs.all λi=>cap[i]? == Z Y)=true›)
  (V:‹sc.kind=.function›) (dJ:autoParam (∀y∈sc.names,y.2 ≠ .cell) zdc._auto_1) (eU:autoParam (∀y∈sc.names,y.2=.local->sc.names.lookup y.1=Z .local) zdc._auto_1)
  (Q:‹(sc.names.all λy=>y.2 != .free ||(X.env.kindOf y.1==Z .cell||X.env.kindOf y.1==Z .free))=true›)
  (hs:∀x,foldedSetIterable iter X.env x=pure x:=by intro _;rfl):QPF X K (.ListComp elt [(tg,iter,ifs,0)] sc pos) (mX cap wi (g.h K) tst te) (Ae cap iq g mf qe):=
 (Am P hi.h z q.b V dJ eU Q hs,v8 hi.s q.t q.e hf)
def gC{i:Nat}{y:Str}{pos dF py:Pos}{wi:TI}(hN:X.N.Nodup)(z:X.N[i]?=Z y)(hy:Loc X.env.scope y)
  (hc:X.calm=O) (hi:QPI X K tg iter wi iq) (V:j6 X sc N' cap) (Q:QB X K N' sc tg g ifs tst mf elt te qe)
  (P:‹(g.ixs.all λi=>cap[i]? == Z Y)=true›)
  (q:‹swapsWith (.ListComp elt [(tg,iter,ifs,0)] sc pos) (Z (.Name y py)) dF.line X.env=pure true›)
  (hf:AT X y:=by first|exact .inl rfl|exact .inr rfl|assumption)
  (eV:‹sc.kind=.function›) (dJ:autoParam (∀y∈sc.names,y.2 ≠ .cell) zdc._auto_1) (eU:autoParam (∀y∈sc.names,y.2=.local->sc.names.lookup y.1=Z .local) zdc._auto_1)
  (ff:‹(sc.names.all λy=>y.2 != .free ||(X.env.kindOf y.1==Z .cell||X.env.kindOf y.1==Z .free))=true›)
  (hs:∀x,foldedSetIterable iter X.env x=pure x:=by intro _;rfl):QPS X K (.Assign [.Name y py] (.ListComp elt [(tg,iter,ifs,0)] sc pos) dF) (fV (mX cap wi (g.h K) tst te) (cU i)) (pM i (Ae cap iq g mf qe)):=
 (uF hN z hy hc hi.h V Q.b q hf eV dJ eU ff hs,zU (v8 hi.s Q.t Q.e P))
end
section
variable{X:Cx}{K:BT}{hs:List (V×T)}{σ:St}{F:Nat->Θ}{e o:Do}{apos aN:Pos}
def zip_inj:∀{vs us:Ω},vs.length=ns.length->us.length=ns.length->ns.zip vs=ns.zip us->vs=us:=by
 induction ns with
 |nil=>intro vs us h1 h2 _;rw[NA.mp h1,NA.mp h2]
 |cons n r q =>
  intro vs us h1 h2 e;cases vs with
  |nil=>cases h1
  |cons v vs=>cases us with
   |nil=>cases h2
   |cons u us =>
    injection e with g z
    injection g with _ g
    rw[g,q (Nat.succ.inj h1) (Nat.succ.inj h2) z]
def aB.uniq{v:V}{t:T}{F:Θ}(h:aB K dl H v t F):∀{F':Θ},aB K dl H v t F'->F=F':=
 aB.rec (motive_1:=λv t F _=>∀{F'},aB K dl H v t F'->F=F') (motive_2:=λv t F _=>∀{F'},aw K dl H v t F'->F=F') (motive_3:=λv t F _=>∀{F'},aR K dl H v t F'->F=F')
  (λh=>(h.im U).symm) (λ_ _ h=>(h.im U).symm) (λ_ _ h=>(h.im U).symm) (λ_ _ h=>(h.im U).symm) (λ_ _ h=>(h.im U).symm)
  (λh1 _ g _ h=>by let(a,vs,e,h2,r):=h.tup;cases e;rw[h1]at h2;cases h2;exact g r)
  (λh1 _ g _ h=>by let(a,vs,G,e,U,h2,r):=h.lst;cases e;rw[h1]at h2;cases h2;rw[g r])
  (λh1 _ g _ h=>by let(a,vs,G,e,U,h2,r):=h.dic;cases e;rw[h1]at h2;cases h2;rw[g r])
  (λ_ _ h=>(h.im U).symm) (λ_ _ h=>(h.im U).symm) (λ_ _ h=>(h.im U).symm) (λ_ _ _ _ h=>(h.im U).symm) (λ_ _ h=>(h.im U).symm) (λ_ _ _ _ h=>(h.im U).symm)
  (λ_ _ _ h=>(h.im U).symm) (λ_ _ _ _ h=>(h.im U).symm) (λh1 _ g _ h=>by let(vs,G,e,U,h2,r):=h.dpp;rw[h1]at h2;cases h2;rw[g r]) (λh1 _ g _ h=>by let(vs,G,e,U,h2,r):=h.lpp;rw[h1]at h2;cases h2;rw[g r]) (λ_ _ _ _ h=>(h.im U).symm) (λ_ _ h=>(h.im U).symm) (λh1 _ h4 hr g _ h=>by
   let(dx,vs,G,e,U,h2,_,h3,r):=h.omm;rw[h1]at h2;injection h2 with h2
   injection h2 with _ e1 e2
   subst e1;have Q:=zip_inj (hr.len.trans h4.symm) (r.len.trans h3.symm) e2;subst Q;rw[g r]) (λ_ _ h=>(h.im U).symm)
  (λh=>by cases h;rfl) (λ_ _ P z _ h=>by cases h with|cons h2 q=>rw[P h2,z q])
  (λh=>by cases h;rfl) (λ_ _ P z _ h=>by cases h with|cons h2 q=>rw[P h2,z q]) h
def Rel.Jq(r:Rel K dl bi hs H σ q F)(e:Evo dl H H'){p:V×T}(hp:p∈hs){Fp:Θ}(h:Rp K dl H' p.1 p.2 Fp){b:J}(g:H b=Y):b ∉ Fp:=λz=>by
 let(Q,h1,_):=r.h p hp;have P:=(h1.evo r.d e).r.uniq h.r;subst P;exact fA.no (h1.r.there b z) g
def Rel.pC{i:Nat}{p:J}{ws:Ω}{xs ys:ώ}{G':Θ}(r:Rel K dl bi hs H σ q F)(hi:q[i]?=Z (.o (.l xs)))(hv:σ[i]?=Z (Z (.ref p)))(Q:F i=p::G)(e:Evo dl H H')
  (rs:aw K dl H' ws ys G') (hn:G'.Nodup) (hG:∀b∈G',b∈G\/(H b=Y/\Nd dl b)):fT K dl bi hs (upd H' p (.lst ws)) σ (q.set i (.o (.l ys))):=by
 have r':=r.evo e;let(o1,o2,o3):=r.o i _ hi;let(v',a5,rp):=r'.g i _ _ hi U;let(p2,a3,G2,e2,eF,h1,h2):=rp.r.lst;rw[Q]at eF;cases eF;rw[Q]at o1;have pG:=(yd.mp o1).1;have a0:=r.ig (by rw[Q];exact iY);have aN:p ∉ G':=λz=>by
  obtain z|z:=hG p z
  ·exact pG z
  exact a0.no z.1
 have pn:=rp.n p (by rw[Q];exact iY);have tf:TF H' (upd H' p (.lst ws)):=(λa us h=>(by rw[ak];exact h;intro z;subst z;rw[h]at h1;cases h1),λa ob u h=>(by rw[ak];exact h;intro z;subst z;rw[h]at h1;cases h1),λa φ h=>(by rw[ak];exact h;intro z;subst z;rw[h]at h1;cases h1),λa aP h=>(by
  by_cases z:a=p
  ·subst z;exact(_,au)
  exact(aP,by rw[ak z];exact h)),λa x h=>(x,NC _,by
  rw[ak];exact h;intro z;subst z;rw[h]at h1;cases h1))
 have aT:=rs.cJ tf (λ_ z=>z) λb P ob eb=>by
  have ne:b≠p:=by intro z;subst z;exact aN P
  rw[ak ne];exact eb
 refine(_,r'.write hi hv (by rw[Q];exact iY) (λ_ _=>(_,U)) (.l au aT,λb P=>?_) (yd.mpr (aN,hn)) λb P=>?_)
 ·obtain z|P:=ot.mp P
  ·rw[z];exact pn
  obtain z|z:=hG b P
  ·exact rp.n b (by rw[Q];exact mm _ z)
  exact z.2
 obtain z|P:=ot.mp P
 ·rw[z,Q];exact .inl iY
 obtain z|z:=hG b P
 ·rw[Q];exact .inl (mm _ z)
 exact .inr (r.fz z.1,λj hj=>(r.ig hj).no z.1,λw u Fp h1 h2=>r.Jq e h2 h1 z.1)
def uC(i:Nat)(qe:QE):QS:=λD q=>match q[i]? with|some (.o (.l xs))=>xs.length<p6/\qe q λt=>D.nx (q.set i (.o (.l (xs++[t]))))|_=>False
abbrev At(X:Cx)(p:Pos)(e:List Do):Prop:=((backTo p (nY e X.env)).all (λx=>!x.1)&&(backToKw p (keywordEach [] X.env)).all (λx=>x.1.isSome)&&decide (e.length+([]:List Keyword).length+(if([]:List Keyword).isEmpty then 0 else 1)<30))=true
def zm(q:X.K=K){i:Nat}(ho:PE X o (bN i))(he:PE X e te)(P:‹attributeBase o "append" X.env (eval o X.env)=eval o X.env›)
  (g:‹At X aN [e]›)
  (Q:‹(apos.endLine==aN.line)=true›) (hs:‹AC X e []›) (z:‹(backTo aN (nY [] X.env)).any (·.1)=false›):
  PE X (.Call (.Attribute o "append" apos) [e] [] aN) (tBM K "list" oj (bN i) (c5 te lU)):=by
 subst q;exact EC PySem.F.plainAttrs_list PySem.F.slot_list_append PySem.F.type_list_append BY ho (bM he fO hs) P g Q hs z
def yw{i:Nat}(he:qX K te qe):jm K (j9 (tBM K "list" oj (bN i) (c5 te lU))) (uC i qe):=λdl bi hs H σ q Dq D (F,r) hq E=>by
 unfold uC at hq;split at hq
 ·rename_i xs ei;let(hz,hq):=hq;let(v,hv,rp):=r.g i _ _ ei U;let(o1,o2,o3):=r.o i _ ei;let(p,vs,G,U,Q,h1,h2):=rp.r.lst;refine(_,hv,.inl (U,vs,SqL.of h1),he dl H σ q _ _ r.rd hq λw t F' H' V r1 f1 n1 aP=>?_);have pn:=rp.n p (by rw[Q];exact iY);refine(p,vs,w,U,U,V.k p _ h1 pn nofun,by rw[h2.len];exact hz,?_);have hG:=λb P=>rp.n b (by rw[Q];exact mm _ P);have aN:=h2.cJ (V.tf r.d) (λ_ z=>z) λb P o eo=>V.k b o eo (hG b P) (.of (h2.there b P) eo);refine E.nx _ σ _ (r.pC ei hv Q V (aN.append (.cons r1.r .nil)) ?_ λb P=>?_) aP
  ·rw[u3];rw[Q]at o1;refine O3.mpr ((yd.mp o1).2,n1,λx hx y hy aT=>?_);subst aT;exact fA.no (h2.there x hx) (f1 x hy)
  obtain P|P:=rh.mp P
  ·exact .inl P
  rw[u3]at P;exact .inr (f1 b P,r1.n b P)
 exact hq.elim
def bF{i:Nat}{dF:Pos}(ho:PE X o (bN i))(he:QPF X K e te qe)(z:‹X.K=K›)(Q:‹attributeBase o "append" X.env (eval o X.env)=eval o X.env›)
  (q:‹At X aN [e]›)
  (V:‹(apos.endLine==aN.line)=true›) (hs:‹AC X e []›) (P:‹(backTo aN (nY [] X.env)).any (·.1)=false›)
  (g:‹swapsWith (.Call (.Attribute o "append" apos) [e] [] aN) Y dF.line X.env=pure false›):
  QPS X K (.Expr (.Call (.Attribute o "append" apos) [e] [] aN) dF) (j9 (tBM K "list" oj (bN i) (c5 te lU))) (uC i qe):=(oq (zm z ho he.h Q q V hs P) g,yw he.s)
def uB(i:Nat)(qe:QE):QS:=λD q=>match q[i]? with
 |some (.o (.l xs))=>qe q λt=>match t with|.l ys=>xs.length+ys.length<=p6/\D.nx (q.set i (.o (.l (xs++ys))))|_=>False
 |_=>False
def zk(q:X.K=K){i:Nat}(ho:PE X o (bN i))(he:PE X e te)(P:‹attributeBase o "extend" X.env (eval o X.env)=eval o X.env›)
  (g:‹At X aN [e]›)
  (Q:‹(apos.endLine==aN.line)=true›) (hs:‹AC X e []›) (z:‹(backTo aN (nY [] X.env)).any (·.1)=false›):
  PE X (.Call (.Attribute o "extend" apos) [e] [] aN) (tBM K "list" oh (bN i) (c5 te lU)):=by
 subst q;exact EC PySem.F.plainAttrs_list PySem.F.slot_list_extend PySem.F.type_list_extend BX ho (bM he fO hs) P g Q hs z
def yu{i:Nat}(he:qX K te qe):jm K (j9 (tBM K "list" oh (bN i) (c5 te lU))) (uB i qe):=λdl bi hs H σ q Dq D (F,r) hq E=>by
 unfold uB at hq;split at hq
 ·rename_i xs ei;let(v,hv,rp):=r.g i _ _ ei U;let(o1,o2,o3):=r.o i _ ei;let(p,vs,G,U,V,h1,h2):=rp.r.lst;refine(_,hv,.inl (U,vs,SqL.of h1),he dl H σ q _ _ r.rd hq λw t F' H' e1 r1 f1 n1 Q=>?_);split at Q
  ·let(p2,ws,G2,U,U,h3,h4):=r1.r.lst;have pn:=rp.n p (by rw[V];exact iY);refine(p,p2,vs,ws,U,U,e1.k p _ h1 pn nofun,h3,by rw[h2.len,h4.len];exact Q.1,?_);have hG:=λb P=>rp.n b (by rw[V];exact mm _ P);have aN:=h2.cJ (e1.tf r.d) (λ_ z=>z) λb P o eo=>e1.k b o eo (hG b P) (.of (h2.there b P) eo);refine E.nx _ σ _ (r.pC ei hv V e1 (aN.append h4) ?_ λb P=>?_) Q.2
   ·rw[V]at o1;refine O3.mpr ((yd.mp o1).2,(yd.mp n1).2,λx hx y hy aP=>?_);subst aP;exact fA.no (h2.there x hx) (f1 x (mm _ hy))
   obtain P|P:=rh.mp P
   ·exact .inl P
   exact .inr (f1 b (mm _ P),r1.n b (mm _ P))
  exact Q.elim
 exact hq.elim
def mh{i:Nat}{dF:Pos}(ho:PE X o (bN i))(he:QPF X K e te qe)(z:‹X.K=K›)(Q:‹attributeBase o "extend" X.env (eval o X.env)=eval o X.env›)
  (q:‹At X aN [e]›)
  (V:‹(apos.endLine==aN.line)=true›) (hs:‹AC X e []›) (P:‹(backTo aN (nY [] X.env)).any (·.1)=false›)
  (g:‹swapsWith (.Call (.Attribute o "extend" apos) [e] [] aN) Y dF.line X.env=pure false›):
  QPS X K (.Expr (.Call (.Attribute o "extend" apos) [e] [] aN) dF) (j9 (tBM K "list" oh (bN i) (c5 te lU))) (uB i qe):=(oq (zk z ho he.h Q q V hs P) g,yu he.s)
end
variable{qo:QE}{to:TE}
section
variable{X:Cx}{K:BT}{hs:List (V×T)}{σ:St}{F:Nat->Θ}{a b e o c:Do}{ta tb:TE}{qa qb qk qv:QE}{pos apos aN:Pos}
def aw.last{ts:ώ}{x:T}{vs:Ω}{F:Θ}(h:aw K dl H vs (ts++[x]) F):∃us w g F2,vs=us++[w]/\aw K dl H us ts g/\aB K dl H w x F2/\F=g++F2:=by
 induction ts generalizing vs F with
 |nil =>
  cases h with
  |cons h1 h2 =>
   cases h2;exact([],_,[],_,U,.nil,h1,ap)
 |cons t ts P =>cases h with|cons h1 h2 =>let(us,w,g,F2,U,z,q,U):=P h2;exact(_::us,w,_,F2,U,.cons h1 z,q,by rw[wh])
def Lx(i j:Nat):QS:=λD q=>match q[i]? with|some (.o (.l xs))=>∃ys x,xs=ys++[x]/\T.ims xs=O/\i≠j/\D.nx ((q.set i (.o (.l ys))).set j (.o x))|_=>False
def cA{xs ys:ώ}:T.ims (xs++ys)=(T.ims xs&&T.ims ys):=by induction xs with|nil=>rfl|cons x r g=>show(x.im&&T.ims (r++ys))=((x.im&&T.ims r)&&T.ims ys);rw[g,Bool.and_assoc]
def Hi{i:Nat}:jm K (fV (C1 K "list" Dz (bN i)) (cU j)) (Lx i j):=λdl bi hs H σ q Dq D (F,r) hq E=>by
 unfold Lx at hq;split at hq
 ·rename_i xs ei;let(ys,x,U,P,aP,hq):=hq;let(v,hv,rp):=r.g i _ _ ei U;let(p,vs,G,U,eF,h1,h2):=rp.r.lst;let(us,w,F1,F2,U,r1,r2,U):=h2.last;rw[cA,ri]at P;obtain rfl:=r1.im P.1;have hx:=by have:=P.2;simpa [T.ims]using this
  obtain rfl:=r2.im hx;refine(_,hv,.inl (U,_,SqL.of h1),p,_,w,U,U,h1,ap,?_);rw[Sh];let(F3,V):=r.pC ei hv eF (.refl r.d) r1 px nofun;have tf:=by
   have tf:TF H (upd H p (.lst us)):=(λa aN h=>(by rw[ak];exact h;intro z;subst z;rw[h]at h1;cases h1),λa ob u h=>(by rw[ak];exact h;intro z;subst z;rw[h]at h1;cases h1),λa φ h=>(by rw[ak];exact h;intro z;subst z;rw[h]at h1;cases h1),λa Q h=>(by
    by_cases z:a=p
    ·subst z;exact(_,au)
    exact(Q,by rw[ak z];exact h)),λa x h=>(x,NC _,by
    rw[ak];exact h;intro z;subst z;rw[h]at h1;cases h1))
   exact r2.cJ tf (λ_ z=>z) nofun
  exact E.nx _ _ _ (V.yV (.refl V.d) (.c tf) nofun px) hq
 exact hq.elim
def DL{i:Nat}(g:X.N.Nodup)(hi:X.N[j]?=Z x)(hx:Loc X.env.scope x)(ho:PE X o (bN i))(q:‹X.K=K›)(z:‹attributeBase o "pop" X.env (eval o X.env)=eval o X.env›)(P:‹(apos.endLine==aN.line)=true›)
  (hs:‹swapsWith (.Call (.Attribute o "pop" apos) [] [] aN) (Z (.Name x pos')) pos.line X.env=pure false›) (hf:AT X x:=by first|exact .inl rfl|exact .inr rfl|assumption):
  QPS X K (.Assign [.Name x pos'] (.Call (.Attribute o "pop" apos) [] [] aN) pos) (fV (C1 K "list" Dz (bN i)) (cU j)) (Lx i j):=
 (by subst q;exact gF g hi hx (y8 PySem.F.plainAttrs_list PySem.F.slot_list_pop PySem.F.type_list_pop zj ho z P) hs hf,Hi)
def DX(g:Tg)(qe:QE):QS:=λD q=>qe q λt=>t.im=O/\Ex2 (λq'=>g.put t q=Z q') D.nx
def Hg(he:iW K te qe):jm K (fV te (g.h K)) (DX g qe):=λdl bi hs H σ q Dq D (F,r) hq E=>he dl H σ q _ _ r.rd hq λv t F' H' e1 V (Q,q',P,hz)=>by
 obtain rfl:=V.r.im Q;exact yL (r.evo e1) V (λ_ _ _ _ _ z=>nomatch z) P λaN r'=>E.nx _ _ _ r' hz
def pH(he:QPE X K e te qe)(hg:PG X tg (g.h K))(hs:‹swapsWithSole [tg] e pos.line X.env=pure false›)(hw:‹swappedStores [tg] e X.env=pure none›)
  (h1:‹(assignEach [tg] X.env).map (·.2)=[assign tg X.env]›):QPS X K (.Assign [tg] e pos) (fV te (g.h K)) (DX g qe):=(uG he.h hg hs hw h1,Hg he.s)
def Oc(i j:Nat)(qa qb:QE):QS:=λD q=>qa q λt=>t.im=O/\qb q λu=>u.im=O/\D.nx ((q.set i (.o t)).set j (.o u))
def Hj{i:Nat}(ha:iW K ta qa)(hb:iW K tb qb):jm K (K3 i j (c5 ta (c5 tb lU))) (Oc i j qa qb):=λdl bi hs H σ q Dq D (F,r) hq E=>by
 refine ha dl H σ q _ _ r.rd hq λv t F1 H1 P V (m1,hq)=>hb dl H1 σ q _ _ (r.rd.evo P) hq λw u F2 H2 e2 Q g=>?_;let(m2,hq):=g;obtain rfl:=V.r.im m1;obtain rfl:=Q.r.im m2;refine(v,w,U,?_);let(F1,R1):=r.yV (P.trans e2) (V.evo P.d e2) nofun px;exact E.nx _ _ _ (R1.yV (.refl R1.d) Q nofun px) hq
def T.key:T->Option Key
 |.i x=>Z (.inl x)|.s x=>Z (.inr x)|_=>Y
theorem aB.key{v:V}{t:T}{F:Θ}{k:Key}(h:aB K dl H v t F)(e:t.key=Z k):v=kV k:=by cases h <;> first|(cases e;rfl)|cases e
def bK(ks:Ϗ)(k:Key):Option T:=(ks.find? λp=>decide (p.1=k)).map (·.2)
def ml(ks:Ϗ)(k:Key)(t:T):Ϗ:=if(ks.any λp=>decide (p.1=k))=O then ks.map (λp=>if p.1=k then(p.1,t)else p)else ks++[(k,t)]
def aR.look{vs:ό}{ts:Ϗ}{F:Θ}(k:Key)(h:aR K dl H vs ts F):(bK ts k=Y/\e9 vs k=Y)\/∃t v G,bK ts k=Z t/\e9 vs k=Z v/\aB K dl H v t G/\∀b∈G,b∈F:=
 h.ind (.inl (U,U)) λk0 v x vs ts F G h r q=>by
  by_cases e:k0=k
  ·subst e;exact .inr (_,_,_,by simp[bK],by simp[e9],h,λb g=>vr _ g)
  obtain⟨h1,h2⟩|⟨t,v,G,h1,h2,h3,h4⟩:=q
  ·refine .inl (?_,?_)
   ·unfold bK at h1 ⊢;rw[Nu,decide_eq_false e];exact h1
   unfold e9 at h2 ⊢;rw[Nu,decide_eq_false e];exact h2
  refine .inr (t,v,G,?_,?_,h3,λb g=>rz _ (h4 b g))
  ·unfold bK at h1 ⊢;rw[Nu,decide_eq_false e];exact h1
  unfold e9 at h2 ⊢;rw[Nu,decide_eq_false e];exact h2
mutual
def T.imk:Ϗ->Bool
 |[]=>O| (_,x)::r=>x.im&&T.imk r
end
theorem aR.im{vs:ό}{ts:Ϗ}{F:Θ}(h:aR K dl H vs ts F):T.imk ts=O->F=[]:=h.ind (λ_=>rfl) (λ_ _ _ _ _ _ _ h _ g=>qH h.im g)
def aR.keys{vs:ό}{ts:Ϗ}{F:Θ}(h:aR K dl H vs ts F)(k:Key):(vs.any λp=>decide (p.1=k))=ts.any λp=>decide (p.1=k):=
 h.ind U λ_ _ _ _ _ _ _ _ _ g=>by rw[RH,RH,g]
def aR.put{k:Key}{w:V}{t:T}(hw:aB K dl H w t []):∀{vs:ό}{ts:Ϗ},aR K dl H vs ts []->aR K dl H (putK vs k w) (ml ts k t) []:=by
 have mp:∀{vs:ό}{ts:Ϗ}{F:Θ},aR K dl H vs ts F->F=[]->aR K dl H (vs.map λp=>if p.1=k then(p.1,w)else p) (ts.map λp=>if p.1=k then(p.1,t)else p) []:=by
  intro vs ts F h;induction ts generalizing vs F with
  |nil=>intro _;cases h;exact .nil
  |cons p ts q =>
   cases h with
   |@cons k0 v x vs _ F1 F2 h1 h2 =>
    intro e;let(Q,P):=JV.mp e;subst Q P;have z:=q h2 U;rw[E3,E3];by_cases g:k0=k
    ·rw[if_pos g,if_pos g];exact .cons hw z
    rw[if_neg g,if_neg g];exact .cons h1 z
 have sn:∀{vs:ό}{ts:Ϗ}{F:Θ},aR K dl H vs ts F->aR K dl H (vs++[(k,w)]) (ts++[(k,t)]) F:=by
  intro vs ts F h;induction ts generalizing vs F with
  |nil=>cases h;exact .cons hw .nil
  |cons p ts q =>cases h with|cons h1 h2=>exact .cons h1 (q h2)
 intro vs ts h;unfold putK ml;rw[h.keys k];split
 ·exact mp h U
 exact sn h
def oo:QPF X K (.Dict [] [] pos) CZ (qC (.d [])):=(Ey,λdl H σ q Q R rd hq k=>λp hp=>k _ _ [p] _ ((Evo.refl rd.d).new hp) (.d au .nil,λb g=>by rw[fy.mp g];exact rd.d.nd0 hp) (λb g=>by rw[fy.mp g];exact hp) ap hq)
inductive Ll(neg:Bool)(y:V)(x:V)(H:Hp)(Q:VK):Prop
 |mk(a o:_)(h1:x=.ref a)(h2:gp H a y o)(h3:Q (.bl (if neg then !o.isSome else o.isSome)) H)
def Mg(P:X.A.units+1<cLine):OpR X (compareOp .In) (Ll ϊ):=by intro gd s σ H y x u v Q I z K h;let(a,o,U,g,q):=h;cases K;exact QM P I g z λs' V=>(.bl _,H,V,U,q)
def BO(P:X.A.units+1<cLine):OpR X (compareOp .NotIn) (Ll O):=by intro gd s σ H y x u v Q I z K h;let(a,o,U,g,q):=h;cases K;exact JC P I g z λs' V=>(.bl _,H,V,U,q)
def QR:T->Option Str
 |.s x=>Z x|_=>Y
abbrev txs:ώ->Option (Γ):=picks QR
theorem aw.txs{vs:Ω}{ts:ώ}{F:Θ}{bs:Γ}(h:aw K dl H vs ts F)(e:L2.txs ts=Z bs):vs=bs.map V.str:=
 h.picks (λv t F a h e=>by cases t <;> first|(cases e;exact h.str.1)|cases e) e
def G6(bs:Γ):txs (bs.map T.s)=Z bs:=by induction bs with|nil=>rfl|cons b r g=>show(txs (r.map T.s)).map (b :: ·)=_;rw[g];rfl
def Og(qo qe:QE):QE:=λq Q=>qo q λs=>match s with
 |.s sep=>qe q λt=>match t with|.l xs=>Ex4 (λys=>txs xs=Z ys) (λys=>(ys.map (·.length)).sum+ys.length*sep.length<=16777216) (λys=>(.s (Txt.join sep ys))) Q|_=>False
 |_=>False
def HW(ho:QPE X K o to qo)(he:QPE X K e te qe)(hK:‹X.K=K›)(dM:‹attributeBase o "join" X.env (eval o X.env)=eval o X.env›)
  (qI:‹At X aN [e]›)
  (dI:‹(apos.endLine==aN.line)=true›) (hs:‹AC X e []›) (eT:‹(backTo aN (nY [] X.env)).any (·.1)=false›):
  QPF X K (.Call (.Attribute o "join" apos) [e] [] aN) (tBM K "str" (rJoin K) to (c5 te lU)) (Og qo qe):=(by
 subst hK;exact EC PySem.F.plainAttrs_str PySem.F.slot_str_join PySem.F.type_str_join IV ho.h (bM he.h fO hs) dM qI dI hs eT,λdl H σ q Q R rd hq k=>ho.s dl H σ q _ _ rd hq λv t F H1 g V hq=>by
  split at hq
  ·let(U,_):=V.r.str;refine(U,he.s dl H1 σ q _ _ (rd.evo g) hq λw u F2 H2 e2 P hq=>?_);split at hq
   ·let(ys,hy,hz,hq):=hq;let(p,vs,G,U,eF,h1,h2):=P.r.lst;have ev:=h2.txs hy;subst ev;exact(_,p,ys,U,U,SqL.of h1,hz,k _ _ [] H2 (g.trans e2) (.c (.s _)) nofun px hq)
   exact hq.elim
  exact hq.elim)
def Ke(i:Nat)(qk qv:QE):QS:=λD q=>qv q λt=>match q[i]? with
 |some (.o (.l xs))=>qk q λu=>match u with|.i k=>∃j,ixN xs.length k=Z j/\T.ims xs=O/\t.im=O/\D.nx (q.set i (.o (.l (xs.set j t))))|_=>False
 |_=>False
end
def kR(vs ws:Ω):Bool:=vs.length==ws.length&&(Fq vs.length).all λj=>match vs[j]?,ws[j]? with|some x,Z y=>eqV x y|_,_=>ϊ
variable{its:Δ}
section
variable{X:Cx}{K:BT}
def Vals.at'{vs:Ω}(r:Vals vs its)(h:j<its.toArray.size):∃v,vs[j]?=Z v/\RelV v its.toArray[j]:=by
 have hl:=r.length;have g:=(h:);have hv:j<vs.length:=bd;let(u,h1,h2):=r.get (i:=j) (x:=vs[j]) (by simp[hv]);have:its[j]?=Z its[j]:=by simp[g]
 rw[this]at h1;cases h1;exact(vs[j],by simp[hv],(h2:))
def jc{vs:Ω}{v:V}(h:vs.all dU=O)(e:vs[j]?=Z v):dU v=true:=JW.mp h v (nZ e)
inductive N3(K:BT)(x:V)(y:V)(H:Hp)(Q:VK):Prop
 |mk(p q vs ws:_)(h1:x=.ref p)(h2:y=.ref q)(h3:((SqL K H p vs/\SqL K H q ws)\/(SqT K H p vs/\SqT K H q ws)))(h4:vs.all dU=O)(h5:ws.all dU=O)(h6:Q (.bl (kR vs ws)) H)
def Me(hu:X.A.units+1<cLine):OpR X (compareOp .Eq) (N3 X.K):=by
 intro gd s σ H x y v u Q I rx ry h;let(p,q,vs,ws,U,U,hs,f1,f2,k):=h;cases rx;cases ry;obtain⟨h1,h2⟩|⟨h1,h2⟩:=hs
 ·let(its,z,p1,_):=I.list h1;let(bO,g,p2,_):=I.list h2;have l1:=z.length;have l2:=g.length;by_cases hl:its.length=bO.length
  ·refine SeqAt.eq_listAt (e:=λj=>match vs[j]?,ws[j]? with|some x,Z y=>eqV x y|_,_=>ϊ) p1.isList p2.isList (hl:) bd (λj g1 g2=>?_) (.bl _,H,I,U,?_)
   ·let(a,V,ra):=z.at' g1;let(b,P,rb):=g.at' g2;simp only[V,P];exact mJ ra rb (jc f1 V) (jc f2 P)
   have e:kR vs ws=(Fq its.toArray.size).all λj=>match vs[j]?,ws[j]? with|some x,Z y=>eqV x y|_,_=>false:=by unfold kR;rw[show(vs.length==ws.length)=O from by lia,Sg,ti,l1]
   rw[<- e];exact k
  refine SeqAt.eq_list_lengthsAt p1.isList p2.isList (hl:) bd (.bl _,H,I,U,?_);have e:kR vs ws=false:=by unfold kR;rw[show(vs.length==ws.length)=ϊ from by simp;lia,Bool.false_and]
  rw[<- e];exact k
 let(its,z,p1,_):=I.tuple h1;let(bO,g,p2,_):=I.tuple h2;have l1:=z.length;have l2:=g.length;refine SeqAt.eq_tupleAt (e:=λj=>match vs[j]?,ws[j]? with|some x,Z y=>eqV x y|_,_=>ϊ) (p1) (p2) bd (λj g1 g2=>?_) (.bl _,H,I,U,?_)
 ·let(a,V,ra):=z.at' g1;let(b,P,rb):=g.at' g2;simp only[V,P];exact mJ ra rb (jc f1 V) (jc f2 P)
 have e:kR vs ws=((Fq (min its.toArray.size bO.toArray.size)).all (λj=>match vs[j]?,ws[j]? with|some x,Z y=>eqV x y|_,_=>ϊ)&&its.toArray.size==bO.toArray.size):=by
  unfold kR;rw[ti,ti,<- l1,<- l2,Bool.and_comm];by_cases hl:vs.length=ws.length
  ·rw[hl,Nat.min_self]
  rw[show(vs.length==ws.length)=ϊ from by simpa using hl,S1,S1]
 rw[<- e];exact k
def eqF(xs ys:ώ):Bool:=kR (xs.map T.v) (ys.map T.v)
def D9:Q2:=λt u Q=>match t,u with|.l xs,.l ys=>(fls xs&&fls ys)=O/\Q (.b (eqF xs ys))|.t xs,.t ys=>(fls xs&&fls ys)=O/\Q (.b (eqF xs ys))|t,u=>qEq t u Q
def HG(K:BT):R2:=λx y H Q=>rEq x y H Q\/N3 K x y H Q
def zc(g:X.A.units+1<cLine)(q:X.K=K):OpR X (compareOp .Eq) (HG K):=by subst q;exact Kj.or (Me g)
def ud:cb K (HG K) D9:=by
 intro dl H x y t u F G Q R D P q hq k;unfold D9 at hq;split at hq
 ·let(p,vs,G1,U,U,h1,h2):=P.r.lst;let(V,g,G2,U,U,h3,h4):=q.r.lst;let(f,hq):=hq;rw[ri]at f;let(U,U):=h2.vs f.1;let(U,U):=h4.vs f.2;exact .inr (p,V,_,_,U,U,.inl (SqL.of h1,SqL.of h3),iP f.1,iP f.2,k _ _ [] H (.refl D) (.c (.b _)) nofun px hq)
 ·let(p,vs,U,h1,h2):=P.r.tup;let(V,g,U,h3,h4):=q.r.tup;let(f,hq):=hq;rw[ri]at f;let(U,U):=h2.vs f.1;let(U,U):=h4.vs f.2;exact .inr (p,V,_,_,U,U,.inr (SqT.of h1,SqT.of h3),iP f.1,iP f.2,k _ _ [] H (.refl D) (.c (.b _)) nofun px hq)
 exact .inl (Le dl H x y t u F G Q R D P q hq k)
end
end L2
namespace PySem
open Sem (wp)
section
variable{prog:Da}{w:Cl}{A:Db}{E:Φ}
def nR:typeLookup (.type "tuple") "keys"=pure none:=am_miss_of_fast bn
def qE:typeLookup (.type "list") "keys"=pure none:=am_miss_of_fast bn
set_option maxRecDepth 8000 in
theorem nS{s:ϋ}{a:J}{o:Obj}{xs:Array B}{k:Nat}{Q:Option B->ϋ->Prop}
  (hx:s.heap.get? a=Z o) (K:o.cls=.type "tuple") (P:o.data=.seq xs k) (hd:o.dict=Y) (V:A.handled=Y)
  (h:∀h' tk,(∀b o,s.heap.get? b=Z o->h'.get? b=Z o)->Q Y {s with heap:=h',toks:=tk}):
  wpAny (model prog w) A (getAttr? (.ref a) "keys") Q E s:=by
 let(c,aN,dat,sl):=o;simp only at K P hd;subst K P hd;let(hp,g,d,tk,os):=s;have hT:∀q,((hp,g,d,q,os):ϋ).TypeIs (.ref a) "tuple":=λ_=>(_,hx,U);have f1:=sub_AttributeError;have f3:=F.slot_tuple_getattribute.lookup;have f4:=F.slot_tuple_getattribute.bind (.ref a);have f5:=am_tuple_getattr_none;unfold getAttr? getAttrBy? getAttrBy;repeat (any_goals (first|assumption|exact hT _|((with_reducible show wpAny _ _ (call (B.builtin "tuple.__getattribute__") _ _) _ _ _);refine call_meets F.slot_tuple_getattribute (hT _) am_entry_tuple_getattribute (F.args_tuple_getattribute_2 _ _) (meets_getattribute_miss_tuple a xs k sl "keys" _ nR bn bn) (hx,V,λh' q e z=>?_))|wp_step))
 let(t',u',he):=z.there;show wpAny _ _ (getattributeRaised _ _ _ _ _ _ _) _ _ _;unfold getattributeRaised;repeat (any_goals (first|assumption|wp_step))
 exact h _ _ z.keeps
set_option maxRecDepth 8000 in
theorem qD{s:ϋ}{a:J}{o:Obj}{xs:Array B}{k:Nat}{Q:Option B->ϋ->Prop}
  (hx:s.heap.get? a=Z o) (K:o.cls=.type "list") (P:o.data=.seq xs k) (hd:o.dict=Y) (V:A.handled=Y)
  (h:∀h' tk,(∀b o,s.heap.get? b=Z o->h'.get? b=Z o)->Q Y {s with heap:=h',toks:=tk}):
  wpAny (model prog w) A (getAttr? (.ref a) "keys") Q E s:=by
 let(c,aN,dat,sl):=o;simp only at K P hd;subst K P hd;let(hp,g,d,tk,os):=s;have hT:∀q,((hp,g,d,q,os):ϋ).TypeIs (.ref a) "list":=λ_=>(_,hx,U);have f1:=sub_AttributeError;have f3:=F.slot_list_getattribute.lookup;have f4:=F.slot_list_getattribute.bind (.ref a);have f5:=am_list_getattr_none;unfold getAttr? getAttrBy? getAttrBy;repeat (any_goals (first|assumption|exact hT _|((with_reducible show wpAny _ _ (call (B.builtin "list.__getattribute__") _ _) _ _ _);refine call_meets F.slot_list_getattribute (hT _) am_entry_list_getattribute (F.args_list_getattribute_2 _ _) (meets_getattribute_miss_list a xs k sl "keys" _ qE bn bn) (hx,V,λh' q e z=>?_))|wp_step))
 let(t',u',he):=z.there;show wpAny _ _ (getattributeRaised _ _ _ _ _ _ _) _ _ _;unfold getattributeRaised;repeat (any_goals (first|assumption|wp_step))
 exact h _ _ z.keeps
end
namespace F
def dh:entryFor table "dict.update.loop"=Z Builtin.«dict.update.loop»:=entryFor_of_tree bv
def cf:plainId "dict.update.loop"=true:=bn
end F
section
variable{prog:Da}{w:Cl}{A:Db}{R:Result->ϋ->Prop}{I:J}{fp wr:Θ}{n:Nat}{P:Nat->B->Prop}{St:Nat->Dd->Prop}{κ:Type}[DecidableEq κ]{knd:KeyKind prog w κ}
def rJ(kvs:List (κ×B))(k:κ)(v:B):(stored kvs k v).length<=kvs.length+1:=by unfold stored;split <;> simp
def rV(kvs:List (κ×B)):∀(more:List (κ×B)),(merged kvs more).length<=kvs.length+more.length:=by intro more;induction more generalizing kvs with|nil=>exact oQ _|cons p r g =>have h1:=g (stored kvs p.1 p.2);have h2:=rJ kvs p.1 p.2;show(merged (stored kvs p.1 p.2) r).length<=_;simp only[p7];lia
theorem fS(W:Walks prog w A.in1 I fp wr n P St)(S:J)(a3:S ∉ fp)(res:B)(h0:Dd)(kvs pairs:List (κ×B))(hsz:kvs.length+pairs.length<=p6)(br:pairs.length=n)
  (hp:∀i v,P i v->∃(a:J)(o:Obj)(key val:B)(k:κ)(m:Nat),v=.ref a/\pairs[i]?=Z (k,val)/\knd.is k key=O/\h0.get? a=Z o/\o.cls=.type "tuple" /\ o.data=.seq #[key,val] m/\a ∉ wr/\a≠S):
  ∀(j i:Nat)(s:ϋ),n-i=j->i<=n->St i s.heap->s.heap.DictOf knd S (merged kvs (pairs.take i))->(∀b o,b ∉ wr->b≠S->h0.get? b=Z o->s.heap.get? b=Z o) ->
  (∀h' tk,(∀b o,b ∉ wr->b≠S->s.heap.get? b=Z o->h'.get? b=Z o)->h'.DictOf knd S (merged kvs pairs)->R (.ok (.ret res)) {s with heap:=h',toks:=tk}) ->
  codeAny (model prog w) A (.builtin "dict.update.loop" ([.ref S,.ref I,rawInt i,res],[])) R s:=by
 have a0:=λh=>a3 (W.sub _ h);intro j;induction j with
 |zero =>
  intro i s hk hi Q hS V hR;have bR:i=n:=bd;subst bR;refine codeAny_builtin F.dh ?_;refine gV (W.done s _ _ Q λh' tk g=>?_);refine gV (sr (sr (hR h' tk (λb o K _ e=>g b o K e) ?_)));rw[<- br,uj]at hS;let(o,es,ep,ho,r):=hS;exact(o,es,ep,g S o a0 ho,r)
 |succ j ih =>
  intro i s hk hi Q hS V hR;have aP:=Nat.lt_of_sub_eq_succ hk;refine codeAny_builtin F.dh ?_;refine gV (W.item i s _ _ aP Q λv h' tk hP Qn g=>?_);let(a,o,key,val,k,m,U,bg,MY,ho,hc,hd,aT,b0):=hp i v hP;have aN:=g a o aT (V a o aT b0 ho);have ck:h'.DictOf knd S (merged kvs (pairs.take i)):=by let(o,es,ep,ho,r):=hS;exact(o,es,ep,g S o a0 ho,r)
  refine gV (RA (gV (wpAny_tryCatch ?_)));refine gV (RF (o,aN,hc) ?_);refine gV (wpAny_seqItems aN hd (sr ?_));have cC:=by have h1:=rV kvs (pairs.take i);rw[vM]at h1;omega
  refine RA (wpAny_dictSet_pairs MY ck λct Jt bc=>?_);have e:=merged_take_succ kvs pairs i (k,val) bg;rw[<- e]at Jt;have fr:∀b o,b≠S->h'.get? b=Z o->ct.get? b=Z o:=λb o K eb=>(bc.2 b K).trans eb;exact sr (SJ F.cf _,ih (i+1) _ (by rw[Nat.sub_succ,hk];rfl) aP (W.frame _ _ _ Qn λb K o eb=>fr b o (λz=>a3 (z▸K)) eb) Jt (λb o K q eb=>fr b o q (g b o K (V b o K q eb))) λh3 a5 bz cj=>(hR h3 a5 (λb o K q eb=>bz b o K q (fr b o q (g b o K eb))) cj))
end
section
variable{prog:Da}{w:Cl}{A:Db}{s:ϋ}{κ:Type}[DecidableEq κ]{knd:KeyKind prog w κ}
theorem lP{S p:J}{its:Array B}{kvs pairs:List (κ×B)}{id:String}{res:B}{R:Result->ϋ->Prop}(Q:A.handled=Y)(hS:s.heap.DictOf knd S kvs)(aP:p≠S)
  (ho:∃(o:Obj)(n:Nat),s.heap.get? p=Z o/\o.dict=Y/\o.data=.seq its n/\(o.cls=.type "tuple" \/ o.cls=.type "list")) (hsz:kvs.length+pairs.length<=p6) (aT:pairs.length=its.size)
  (hp:∀(i:Nat)(v:B),its[i]?=Z v->∃(a:J)(o:Obj)(key val:B)(k:κ)(m:Nat),v=.ref a/\pairs[i]?=Z (k,val)/\knd.is k key=O/\s.heap.get? a=Z o/\o.cls=.type "tuple" /\ o.data=.seq #[key,val] m)
  (hR:∀h' tk,(∀b o,b≠S->s.heap.get? b=Z o->h'.get? b=Z o)->h'.DictOf knd S (merged kvs pairs)->R (.ok (.ret res)) {s with heap:=h',toks:=tk}):
  wpAny (model prog w) A.in1 (Builtin.Dict.updateFrom id S (.ref p) [] res) (λfin s'=>match fin with|.done f=>R (.ok f) s' |.again c'=>c'.quiet=O/\codeAny (model prog w) A c' R s') (λe s'=>R (.error e) s') s:=by
 let(o,n,hg,P,q,g):=ho;have fin:∀(h1:Dd) tk h2 I St,(∀b o,s.heap.get? b=Z o->h1.get? b=Z o)->(∀b o,h1.get? b=Z o->h2.get? b=Z o)->h1.objs.size<=I->Walks prog w A.in1 I [I,p] [I] its.size (λi v=>its[i]?=Z v) St->St 0 h2 ->
   codeAny (model prog w) A (.builtin "dict.update.loop" ([.ref S,.ref I,rawInt 0,res],[])) R {s with heap:=h2,toks:=tk}:=by
  intro h1 tk h2 I St k1 k2 hI W aN;have K:∀b o,s.heap.get? b=Z o->b≠I:=λb o e z=>by
   have:=rg (k1 b o e);exact absurd (u4 this hI) (by rw[z];exact Gj _)
  have a0:S ∉ [I,p]:=λz=>by
   let(o,_,_,e,_):=hS;obtain z|z:=ot.mp z
   ·exact K S o e z
   exact aP (fy.mp z).symm
  refine fS (knd:=knd) W S a0 res s.heap kvs pairs hsz aT (λi v hP=>?_) its.size 0 _ U (Rm _) aN ?_ (λb o _ _ e=>k2 b o (k1 b o e)) λh' V hk a3=>?_
  ·let(a,oa,key,val,k,m,e1,e2,e3,e4,e5,e6):=hp i v hP;refine(a,oa,key,val,k,m,e1,e2,e3,e4,e5,e6,λz=>K a oa e4 (fy.mp z),λz=>?_);let(o,_,_,e,hc,hd,_):=hS;rw[<- z,e4]at e;cases e;rw[e6]at hd;cases hd
  ·let(o,es,ep,e,r):=hS;exact(o,es,ep,k2 _ _ (k1 _ _ e),r)
  exact hR h' V (λb o hb e=>hk b o (λz=>K b o e (fy.mp z)) hb (k2 b o (k1 b o e))) a3
 obtain g|g:=g
 ·refine gV (RF (o,hg,g) ?_);refine gV (nS hg g q P Q λh1 tk k1=>?_);refine gV (RP ?_);have hT:h1.IsTuple p its:=(o,k1 _ _ hg,g,n,q);exact gV (wpAny_pyIter_tuple hT (sr (SJ F.cf _,(fin h1 tk _ h1.objs.size _ k1 (λb o e=>jo _ e) (oQ _) (Walks.tuple (show A.in1.handled=Y from Q) _ p (x8 (rg (k1 _ _ hg))) its) ((_,qg _ U,U,U),hT.push _)))))
 refine gV (RF (o,hg,g) ?_);refine gV (qD hg g q P Q λh1 tk k1=>?_);refine gV (RP ?_);have hT:h1.IsList p its:=(o,k1 _ _ hg,g,n,q);exact gV (wpAny_pyIter_list hT (sr (SJ F.cf _,(fin h1 tk _ h1.objs.size _ k1 (λb o e=>jo _ e) (oQ _) (Walks.list (show A.in1.handled=Y from Q) _ p (x8 (rg (k1 _ _ hg))) its) ((_,qg _ U,U,U),hT.push _)))))
end
end PySem
namespace L2
open PySem PySem.Spec PyProof.Rows
variable{gd:Ξ}{H:Hp}{a:J}{xs:Ω}
section
variable{X:Cx}
def Inv.KU{σ:St}{s:ϋ}(I:Inv X gd σ H s)(h:H a=Z (.tup xs)):∃its:Δ,Vals xs its/\jZ s.heap a its.toArray/\xs.length<=p6:=by let(z,its,r,p):=(I.hok a _ h);exact(its,r,p,z)
def ED{σ:St}{s:ϋ}(I:Inv X gd σ H s):∀{ps:Θ}{kvs:ό}{us:Δ},Vals (ps.map V.ref) us->ps.length=kvs.length->(∀(i:Nat)(p:J)(kv:Key×V),ps[i]?=Z p->kvs[i]?=Z kv->H p=Z (.tup [kV kv.1,kv.2])) ->
  ∃pairs:List (Key×B),KV kvs pairs/\∀(i:Nat)(v:B),us[i]?=Z v->∃(a:J)(o:Obj)(key val:B)(k:Key)(m:Nat),v=.ref a/\pairs[i]?=Z (k,val)/\(bp X.prog X.w).is k key=O/\s.heap.get? a=Z o/\o.cls=.type "tuple" /\ o.data=.seq #[key,val] m:=by
 intro ps;induction ps with
 |nil =>
  intro kvs us r hl _;have e:kvs=[]:=by cases kvs with|nil=>rfl|cons _ _=>simp at hl
  subst e;cases r;exact([],.nil,λi v h=>by simp at h)
 |cons p ps ih =>
  intro kvs us r hl h;cases kvs with
  |nil=>simp at hl|cons kv kvs =>
   cases r with
   |@cons _ u _ us P K =>
    let(pairs,h1,h2):=ih K (hl:) λi p kv q g=>h (i+1) p kv (q:) (g:);have hp:=h 0 p kv ap ap;let(its,z,(o,ho,hc,m,hd),_):=I.tuple (SqT.of hp);cases z with
    |@cons _ key _ rest k1 k2 =>
     cases k2 with
     |@cons _ val _ Rf k3 k4 =>
      cases k4;refine((kv.1,val)::pairs,.cons (U,k3) h1,λi v hv=>?_);cases i with
      |zero =>
       simp at hv;subst hv;cases(P);exact(p,o,key,val,kv.1,m,U,ap,kK k1,ho,hc,hd)
      |succ i =>let(a,Q,Qh,PJ,k,m',q,g,e3):=h2 i v (hv:);exact(a,Q,Qh,PJ,k,m',q,(g:),e3)
inductive ux(xs:Ω)(H:Hp)(Q:VK):Prop
 |mk(p:J)(ps:Θ)(kvs:ό)(h1:xs=[.ref p])(h2:(H p=Z (.tup (ps.map V.ref))\/H p=Z (.lst (ps.map V.ref))))(h3:ps.length=kvs.length)(h4:(∀(i:Nat)(a:J)(kv:Key×V),ps[i]?=Z a->kvs[i]?=Z kv->H a=Z (.tup [kV kv.1,kv.2])))(h5:∀d,H d=Y->Q (.ref d) (upd H d (.dK (fQ [] kvs))))
theorem la(hc:X.calm=O):cY X (.type "dict") ux:=by
 intro gd s σ H xs us Q I r h;let(p,ps,kvs,U,hp,hl,aN,q):=h;let(u,U,ru):=vals1 r;cases ru;have hh:=I.ok.hd hc;obtain⟨its,z,K,ob⟩:∃its:Δ,Vals (ps.map V.ref) its/\(ps.map V.ref).length<=p6/\∃(o:Obj)(n:Nat),s.heap.get? p=Z o/\o.dict=Y/\o.data=.seq its.toArray n/\(o.cls=.type "tuple" \/ o.cls=.type "list"):=by
  obtain hp|hp:=hp
  ·let(its,z,((o,ho,h1,n,h2),o',P,h3),K):=I.KU hp;rw[ho]at P;cases P;exact(its,z,K,o,n,ho,h3,h2,.inl h1)
  let(K,its,n,z,e):=(I.hok p _ hp);exact(its,z,K,_,n,e,U,U,.inr U)
 let(pairs,kv,MW):=ED I z hl aN;refine callType_codes (Q₁:=λobj g=>obj=.ref s.heap.objs.size/\g={s with heap:=s.heap.push {cls:=.type "dict",data:=.dict #[]}}) F.kt_called_dict (F.kt_typeCall_dict_1 _) F.entry_dict_init (kt_code_dict_new _ (U,U)) ?_;rintro obj g ⟨rfl,rfl⟩;have zy:(s.heap.push {cls:=.type "dict",data:=.dict #[]}).DictOf (bp X.prog X.w) s.heap.objs.size []:=Heap.DictOf.new s.heap;refine(zy.typeIs,F.args_dict_init_2 _ _,(gV (gV (wpAny_notOrdered_dict zy.typeIs (sr ?_)))));let(o,n,ho,a0,aT,a3):=ob;have aP:=z.length;rw[e7]at aP K;have a5:=kv.length;refine lP (pairs:=pairs) hh zy (x8 (rg ho)) (o,n,jo _ ho,a0,aT,a3) (by simp only[Sk];lia) (by rw[ti];lia) (λi v hv=>?_) λh' tk hk hd=>?_
 ·let(a,oa,key,val,k,m,e1,e2,e3,e4,e5,e6):=MW i v (hv:);exact(a,oa,key,val,k,m,e1,e2,e3,jo _ e4,e5,e6)
 refine(U,.ref s.heap.objs.size,_,I.laid (λb u e=>hk b u (x8 (rg e)) (jo _ e)) (oQ _) (vy ?_ ?_ (KV.merge kv .nil) hd),U,q _ (I.hok.fresh (oQ _)))
 ·have:=fR kvs [];simp only[Sk]at this;lia
 have:=I.big;exact beq_eq_false_iff_ne.mpr (Rl this)
end
def fN:ώ->Option (Ϗ)
 |[]=>Z []|.t [k,x]::r=>match k.key,fN r with|some k,Z r=>Z ((Prod.mk k x)::r)|_,_=>Y
 |_=>Y
def cm(ks more:Ϗ):Ϗ:=more.foldl (λacc p=>ml acc p.1 p.2) ks
section
variable{K:BT}{dl:Dl}
def wV{x:T}{r:ώ}{g:Ϗ}(h:fN (x::r)=Z g):∃k y k0 q,x=.t [k,y]/\k.key=Z k0/\fN r=Z q/\g=(k0,y)::q:=by
 unfold fN at h;split at h
 ·rename_i z;cases z
 ·rename_i k y r' z;cases z;split at h
  ·cases h;exact(_,_,_,_,U,(by assumption),(by assumption),U)
  cases h
 cases h
def aw.pairs{vs:Ω}{xs:ώ}{F:Θ}(h:aw K dl H vs xs F):∀{g:Ϗ},F=[]->fN xs=Z g ->
  ∃(ps:Θ)(kvs:ό),vs=ps.map V.ref/\ps.length=kvs.length/\(∀(i:Nat)(a:J)(kv:Key×V),ps[i]?=Z a->kvs[i]?=Z kv->H a=Z (.tup [kV kv.1,kv.2]))/\aR K dl H kvs g []:=
 h.ind (M:=λvs xs F=>∀{g:Ϗ},F=[]->fN xs=Z g ->   ∃(ps:Θ)(kvs:ό),vs=ps.map V.ref/\ps.length=kvs.length/\(∀(i:Nat)(a:J)(kv:Key×V),ps[i]?=Z a->kvs[i]?=Z kv->H a=Z (.tup [kV kv.1,kv.2]))/\aR K dl H kvs g []) (λ{g} _ h=>by cases h;exact([],[],U,U,λi a kv h=>by simp at h,.nil)) λ_ _ _ _ _ _ h _ ih g e q=>by
  let(e1,e2):=JV.mp e;let(k,y,k0,r0,U,ek,er,U):=wV q;let(ps,kvs,U,hl,ht,hk):=ih e2 er;let(a,ws,U,ha,Q):=h.tup;cases Q with|@cons w1 _ _ _ G1 G2 P z =>cases z with|@cons w2 _ _ _ G3 G4 h2 h3 =>cases h3;have e3:=P.key ek;subst e3;let(z1,z2):=JV.mp e1;rw[u3]at z2;subst z1 z2;refine(a::ps,(k0,w2)::kvs,U,by simp[hl],λi b kv h1 h2=>?_,.cons h2 hk);cases i with|zero =>simp at h1 h2;subst h1 h2;exact ha|succ i=>exact ht i b kv (h1:) (h2:)
theorem aR.cm{kvs':ό}{kts':Ϗ}{kvs:ό}{g:Ϗ}{F:Θ}(h:aR K dl H kvs g F):F=[]->∀{vs:ό}{ts:Ϗ},aR K dl H vs ts []->aR K dl H (fQ vs kvs) (L2.cm ts g) []:=
 h.ind (λ_ _ _ h=>h) λ_ _ _ _ _ _ _ h1 _ q e _ _ h=>by
  let(P,z):=JV.mp e;subst P;exact q z (aR.put h1 h)
def Ia:QC:=λts Q=>on1 ts λt=>match t with|.t xs=>T.ims xs=O/\Ex3 (λg=>fN xs=Z g) (λg=>(.d (cm [] g))) Q|.l xs=>T.ims xs=O/\Ex3 (λg=>fN xs=Z g) (λg=>(.d (cm [] g))) Q|_=>False
def oZ:so K ux Ia:=by
 intro dl H vs ts F Q R D r hq k;have go:∀p ws xs,vs=[.ref p]->(H p=Z (.tup ws)\/H p=Z (.lst ws))->aw K dl H ws xs []->(Ex3 (λg=>fN xs=Z g) (λg=>(.d (cm [] g))) Q)->ux vs H R:=by rintro p ws xs rfl hp rs ⟨g,e,hq⟩;let(ps,kvs,U,hl,P,V):=rs.pairs U e;refine(p,ps,kvs,U,hp,hl,P,λd hd=>?_);have ev:=(Evo.refl D).new (o:=.dK (fQ [] kvs)) hd;have h2:=aR.cm (kvs':=[]) (kts':=[]) V U .nil;exact k _ _ [d] _ ev (.d au (h2.cJ (ev.tf D) (λ_ z=>z) nofun),λb q=>by rw[fy.mp q];exact D.nd0 hd) (λb q=>by rw[fy.mp q];exact hd) ap hq
 replace hq:=on1.inv hq;let(t,U,hq):=hq;cases t with|t xs =>let(v,U,r'):=r.one;let(p,ws,U,h1,h2):=r'.r.tup;have e:=h2.im hq.1;subst e;exact go p ws _ U (.inl h1) h2 hq.2|l xs =>let(v,U,r'):=r.one;let(p,ws,G,U,_,h1,h2):=r'.r.lst;have e:=h2.im hq.1;subst e;exact go p ws _ U (.inr h1) h2 hq.2|_=>exact hq.elim
end
variable{j:Nat}{x:Str}{py:Pos}{P:Da}{mg:Υ}{base:Dd}{fd:Ch}{ps:Γ}
section
variable{X:Cx}{K:BT}{a b:Do}{ta tb:TE}{qa qb:QE}{pos:Pos}
def Lo{i:Nat}{y:Str}{q pt:Pos}{kt k2 g}(hc:X.calm=O)(hN:X.N.Nodup)(hi:X.N[i]?=Z x)(hj:X.N[j]?=Z y)(z:i≠j)
  (hx:BC X x) (V:BC X y) (Q:QPE X K a ta qa) (P:QPE X K b tb qb)
  (hw:swappedStores [.Tuple [.Name x q,.Name y py] kt pt] (.Tuple [a,b] k2 g) X.env=pure (Z [x,y]))
  (hs:‹swapsWithSole [.Tuple [.Name x q,.Name y py] kt pt] (.Tuple [a,b] k2 g) pos.line X.env=pure false›)
  (h1:‹nY [a,b] X.env=(ϊ,eval a X.env)::nY [b] X.env›) (h2:‹AC X b []›):
  QPS X K (.Assign [.Tuple [.Name x q,.Name y py] kt pt] (.Tuple [a,b] k2 g) pos) (K3 i j (c5 ta (c5 tb lU))) (Oc i j qa qb):=
 (LJ hc hN hi hj z hx V (bM Q.h (bM P.h fO h2) h1) hw hs,Hj Q.s P.s)
def pP:PSp:=λts Q=>on2 ts λt u=>match t with
 |.dj=>match u with|.i m=>0<m/\m<18446744073709551616/\∀r,0<=r->r<m->Q (.i r)|_=>False
 |_=>False
theorem jV{w:Cl}{K:BT}{k:Nat}{f:J}(F:aS P w K mg base CX0 k f fd ps C3):aS P w K mg base CX0 k f fd ps (spQ K pP):=by
 refine F.imp λvs H Q E h=>?_;let(dl,ts,Fp,Qp,D,r,h,fin):=h;replace h:=on2.inv h;let(t,u,U,h):=h;split at h
 ·split at h
  ·let(v,w',F1,F2,U,r1,r2):=r.two;let(a,l,U,hm,_):=r1.r.dea;let(U,_):=r2.r.int;refine(a,l,_,U,D _ hm,h.1,h.2.1,λr H' r0 aN D' q=>fin _ _ [] H' (λb o e n _=>q b o e (n _ hm).1 (n _ hm).2,λp hp=>?_,λb x e=>(x,NC _,by
    let(s2,n2,l2,Q2):=D _ hm;exact q b _ e (iI e Q2.hd (λz=>nomatch z)) (iI e Q2.hl (λz=>nomatch z)))) (.c (.i _)) nofun px (h.2.2 r r0 aN))
   by_cases e:p=(a,l)
   ·rw[e];exact D'
   let(s1,n1,l1,Q1):=D p hp;let(s2,n2,l2,Q2):=D _ hm;let(s3,n3,l3,Q3):=D';have pa:p.1≠a:=λz=>by
    have z1:=Q1.hd;have z2:=Q2.hd;rw[z]at z1;rw[z1]at z2;have z3:=by injection (Option.some.inj z2)
    have z4:=congrArg (λkv=>e9 kv (.inr "left")) z3;exact e (Prod.ext z (V.ref.inj (Option.some.inj z4)))
   have pl:=iI Q1.hd Q2.hl (λz=>nomatch z);have aP:=iI Q1.hl Q2.hd (λz=>nomatch z);by_cases g:p.2=l
   ·exact(s1,n1,l3,q _ _ Q1.hd pa pl,by rw[g];exact Q3.hl,Q1.s0,Q1.s1,Q1.n0,Q3.l0)
   exact(s1,n1,l1,q _ _ Q1.hd pa pl,q _ _ Q1.hl aP g,Q1.s0,Q1.s1,Q1.n0,Q1.l0)
  exact h.elim
 exact h.elim
end
section
variable{X:Cx}{K:BT}{a b e o:Do}{tk tv:TE}{qk qv:QE}{pos pos':Pos}
theorem aw.set{dl:Dl}{H:Hp}{w:V}{t:T}(hw:aB K dl H w t []):∀{vs:Ω}{xs:ώ}{F:Θ}(j:Nat),aw K dl H vs xs F->F=[]->aw K dl H (vs.set j w) (xs.set j t) []
 |_,_,_,_,.nil,_=>.nil|_,_,_,0,.cons h r,e=>by
  let(q,g):=JV.mp e;subst q g;exact .cons hw r
 |_,_,_,j+1,.cons h r,e=>by
  let(q,g):=JV.mp e;subst q g;exact .cons h (aw.set hw j r U)
def C8{i:Nat}(hk:iW K tk qk)(hv:iW K tv qv):jm K (fV tv (FD (bN i) tk Dy)) (Ke i qk qv):=λdl bi hs H σ q Dq D (F,r) hq E=>by
 refine hv dl H σ q _ _ r.rd hq λw t F1 H1 Q r1 hq=>?_;split at hq
 ·rename_i xs ei;let(v,P,rp):=(r.evo Q).g i _ _ ei U;refine(v,P,hk dl H1 σ q _ _ (r.rd.evo Q) hq λy u F2 H2 e2 r2 hq=>?_);split at hq
  ·let(j,hj,hm,ht,hq):=hq;let(U,_):=r2.r.int;obtain rfl:=r1.r.im ht;have V:=rp.evo Q.d e2;let(p,vs,G,U,eF,h1,h2):=V.r.lst;have eG:=h2.im hm;subst eG;exact(p,vs,_,j,U,U,h1,by rw[h2.len];exact hj,(E.nx _ _ _ (r.pC ei P eF (Q.trans e2) (aw.set (r1.evo Q.d e2).r j h2 U) px nofun) hq))
  exact hq.elim
 exact hq.elim
def HK{i:Nat}(ho:PE X o (bN i))(q:QPE X K a tk qk)(hv:QPE X K b tv qv)(hs:‹swapsWithSole [.Subscript o a pos'] b pos.line X.env=pure false›)(hw:‹swappedStores [.Subscript o a pos'] b X.env=pure none›)
  (h1:‹(assignEach [.Subscript o a pos'] X.env).map (·.2)=[assign (.Subscript o a pos') X.env]›)
  (z:∀v,assign (.Subscript o a pos') X.env v=(do
let g <- holding [v] (eval o X.env)
let iv <- holding [v,g] (eval a X.env)
standAt pos'
holding [v,g,iv] (setItem g iv v)
release [v,g,iv] []):=by intro _;rfl):QPS X K (.Assign [.Subscript o a pos'] b pos) (fV tv (FD (bN i) tk Dy)) (Ke i qk qv):=
 (uG hv.h (Er ho q.h set_list z) hs hw h1,C8 q.s hv.s)
end
variable{elts:List Do}{pos':Pos}{t1:Bool}{t2:Bool}
section
variable{X:Cx}{K:BT}{dl:Dl}
def lO(xs ys:ώ):ώ:=(xs.zip ys).map λp=>.t [p.1,p.2]
def gs{xs ys:ώ}{i:Nat}{z:T}(h:(lO xs ys)[i]?=Z z):∃x y,xs[i]?=Z x/\ys[i]?=Z y/\z=.t [x,y]:=by unfold lO at h;rw[kf]at h;let(p,hp,U):=mU.mp h;rw[Rv]at hp;exact(p.1,p.2,hp.1,hp.2,U)
def cZ{xs ys:ώ}:(lO xs ys).length=min xs.length ys.length:=by simp[lO]
def Fg{b:J}{xs ys:ώ}:q9 K dl (Itz K O O a b) (lO xs ys) [(.ref a,.t xs),(.ref b,.t ys)] where
 go:=λH i D h hi=>by
  let(F,r):=h (.ref a,.t xs) ap;let(F',r'):=h (.ref b,.t ys) ap;let(p,vs,e,h1,h2):=r.r.tup;cases e;let(p',g,e',Q,P):=r'.r.tup;cases e';rw[cZ]at hi;have l1:i<vs.length:=by rw[h2.len];lia
  have l2:i<g.length:=by rw[P.len];lia
  exact(vs,g,vs[i],g[i],SqT.of h1,SqT.of Q,by simp[l1],by simp[l2])
 yld:=λH i x fp v H' D h hx y=>by
  have r:=h (.ref a,.t xs) ap;have r':=h (.ref b,.t ys) ap;let(p,vs,e,h1,h2):=r.r.tup;cases e;let(p',g,e',Q,P):=r'.r.tup;cases e';let(x1,y1,bg,bc,U):=gs hx;let(w1,G1,bz,a5,aP):=h2.get bg;let(w2,G2,br,a3,aN):=P.get bc;let(q,u1,u2,hq,U,U,a0,aT):=y;have e1:=a0 vs (SqT.of h1);rw[bz]at e1;cases e1;have e2:=aT g (SqT.of Q);rw[br]at e2;cases e2;have rs:=Rps.cons (a5,λb V=>r.n b (aP b V)) (Rps.cons (a3,λb V=>r'.n b (aN b V)) (.nil,nofun));refine((Evo.refl D).new hq,_,rs.tup D hq,λc V=>.inr ?_);rw[u3]at V;obtain z|z:=rh.mp V
  ·exact(_,ap,aP c z)
  exact((.ref b,.t ys),ap,aN c z)
 stop:=λH D h=>by
  let(F,r):=h (.ref a,.t xs) ap;let(F',r'):=h (.ref b,.t ys) ap;let(p,vs,e,h1,h2):=r.r.tup;cases e;let(p',g,e',Q,P):=r'.r.tup;cases e';refine(vs,g,SqT.of h1,SqT.of Q,?_);rw[cZ,h2.len,P.len];lia
variable{a b:Do}{ta:TE}{tl:TA}{ql:QA}{pos p:Pos}
def asZ(ql:QA):QI:=λq Q=>ql q λts=>match ts with|[.t xs,.t ys]=>Q (lO xs ys)|_=>False
def uM{x1}{ta:TA}(z:X.K=K)(hg:Gl X "zip")(hm:X.mg "zip"=Y)(P:bootBuiltins "zip"=Z (.type "zip"))(q:PA X [a,b] ta)(hs:nY [a,b] X.env=[(ϊ,eval a X.env),(ϊ,eval b X.env)])(g:AD X b):
  PI X (.Tuple elts x1 pos') (.Call (.Name "zip" p) [a,b] [] pos) (Fl K t1 t2 ta):=by subst z;exact L1 hg hm P q hs g
def Lr{x1}(hg:Gl X "zip")(hm:X.mg "zip"=Y)(cL:bootBuiltins "zip"=Z (.type "zip"))(ha:QPA X K [a,b] tl ql)(hs:‹nY [a,b] X.env=[(ϊ,eval a X.env),(ϊ,eval b X.env)]›)(V:‹AD X b›)(hK:‹X.K=K›):
  QPI X K (.Tuple elts x1 pos') (.Call (.Name "zip" p) [a,b] [] pos) (Fl K O O tl) (asZ ql):=(uM hK hg hm cL ha.h hs V,λdl H σ q Q R rd hq k=>ha.s dl H σ q _ _ rd hq λvs ts F H' e1 r _ P=>by
 split at P
 ·let(v,w,F1,F2,U,r1,r2):=r.two;let(l1,z,U,h1,h2):=r1.r.tup;let(l2,g,U,h3,h4):=r2.r.tup;exact(l1,l2,U,(z,SqT.of h1),(g,SqT.of h3),k _ _ _ H' e1 Fg (λp hp=>by
   simp only[ot,ya,or_false]at hp;obtain rfl|rfl:=hp
   ·exact(_,r1)
   exact(_,r2)) P)
 exact P.elim)
end
inductive oX(K:BT)(vs:Ω)(H:Hp)(Q:VK)(_:XK):Prop
 |mk(a:J)(ns:Ψ)(h1:vs=[.ref a])(h2:FzL K H a (ns.map V.int))(h3:ns.length<=63)(h4:∀H',Q (.bl O) H')
theorem Pd{K:BT}(h:JU H)(g:SqL K H a xs):FzL K H a xs:=by
 obtain(z |⟨o,z⟩)|z:=g
 ·obtain e |⟨o,ys,e⟩:=h a
  ·rw[e]at z;cases z
  rw[e]at z;cases z
 ·exact .inl (o,z)
 exact .inr z
variable{H':Hp}
theorem FzL.same{K:BT}(h:FzL K H a xs)(s:jY H H'):FzL K H' a xs:=by
 obtain⟨o,z⟩|z:=h
 ·exact .inl (o,s _ _ z)
 exact .inr z
variable{qual:Str}{N:Γ}{n:Nat}{rest:List Ev}
theorem Fun.Qf{w:Cl}{K:BT}{st:Ev}{f:J}{k:Nat}{s1:Ev}(F:Fun K x qual st f fd)(S:az N ["_law_script"] (aq st))(hN:N.length=n+2)(g:bD st=s1::rest)
  (gc:∀(cdv:B)(A:Db)(outer:List Env)(s:ϋ)(H:Hp)(E:XK),cn k (A.deeper (envOfC qual (aq st) s.heap.objs.size f cdv)) ->
∃t1 t qs,PS (kX CX0 P w K mg base N qual (aq st) f cdv A outer s H E).nox s1 t1/\mR (kX CX0 P w K mg base N qual (aq st) f cdv A outer s H E).nox K rest t qs /\
(∀(a:J)(ns:Ψ)(D:Ends),SqL K H a (ns.map V.int)->ns.length<=63->(∀(d l:J)(H':Hp),H d=Y->H l=Y->lI H' d l->jY H H'->D.nx ([Z (.ref a),Z (.ref d)]++CB n Y) H')->t1 D ([Z (.ref a),Y]++CB n Y) H) /\
∀ns:Ψ,ns.length<=63->qs {nx:=λ_=>False,rt:=λt=>t=.b O} ([.r (.z ns),.r .dj]++CB n .no)):aS P w K mg base CX0 (k+1) f fd ["_law_script"] (oX K):=by
 refine F.ok S (λvs H Q E h=>?_) (λcdv A outer s H vs Q E hr h=>?_)
 ·let(a,ns,U,_):=h;rfl
 let(a,ns,U,hS,hlen,k):=h;let(t1,t,qs,h1,q,r1,hq):=gc cdv A outer s H E hr;rw[g];refine(_,bq h1 q.h,?_);have es:start N [V.ref a]=[Z (.ref a),Y]++CB n none:=by unfold start;rw[hN];rfl
 rw[es];refine r1 a ns _ hS.sq hlen λd l H' hd hl D1 sm=>?_;have Dq:Dls [(d,l)] H':=λp hp=>by rw[fy.mp hp];exact D1
 have rp:Rps K [(d,l)] H' [.ref a,.ref d] [.z ns,.dj] ([]++([]++[])):=(.cons (.z (hS.same sm)) (.cons (.x (l:=l) (fy.mpr U)) .nil),nofun);have R:=me (n:=n+2) Dq rp ap;refine q.s [(d,l)] H' [] H' _ _ _ _ R (hq ns hlen) (λ_ _ _ _ z=>z.elim,λ_ _ _ _ z=>z.elim,λ_ _ _ _ z=>z.elim,λv t F H2 _ r' _ _ _ hz=>?_,λ_ _ _ _ _ _ _ _ _ _ _ _ z=>z.elim);subst hz;let(U,_):=r'.r.bl;exact k H2
variable{tp:Bool}
section
variable{X:Cx}{K:BT}{dl:Dl}
def g7(xs:ώ):ώ:=xs.zipIdx.map λp=>.t [.i (p.2:Nat),p.1]
def eZ{xs:ώ}{i:Nat}{z:T}(h:(g7 xs)[i]?=Z z):∃x,xs[i]?=Z x/\z=.t [.i (i:Nat),x]:=by unfold g7 at h;rw[kf]at h;let(p,hp,U):=mU.mp h;rw[List.getElem?_zipIdx]at hp;let(x,hx,U):=mU.mp hp;exact(x,hx,ap)
def b9{xs:ώ}:(g7 xs).length=xs.length:=by simp[g7]
def Aw{xs:ώ}:q9 K dl (Ite K O a) (g7 xs) [(.ref a,.t xs)] where
 go:=λH i D h hi=>by
  let(F,r):=h (.ref a,.t xs) ap;let(p,vs,e,h1,h2):=r.r.tup;cases e;rw[b9]at hi;have l1:i<vs.length:=by rw[h2.len];omega
  exact(vs,vs[i],SqT.of h1,by simp[l1])
 yld:=λH i x fp v H' D h hx y=>by
  have r:=h (.ref a,.t xs) ap;let(p,vs,e,h1,h2):=r.r.tup;cases e;let(x1,aN,U):=eZ hx;let(w1,G1,aP,V,g):=h2.get aN;let(q,u1,hq,U,U,Q):=y;have e1:=Q vs (SqT.of h1);rw[aP]at e1;cases e1;have rs:Rps K dl H [.int (i),w1] [.i (i),x1] ([]++(G1++[])):=Rps.cons (.i _,nofun) (Rps.cons (V,λb P=>r.n b (g b P)) (.nil,nofun));refine((Evo.refl D).new hq,_,rs.tup D hq,λc P=>.inr ?_);rw[u3]at P;exact(_,ap,g c P)
 stop:=λH D h=>by
  let(F,r):=h (.ref a,.t xs) ap;let(p,vs,e,h1,h2):=r.r.tup;cases e;exact(vs,SqT.of h1,by rw[b9,h2.len];exact oQ _)
variable{e a:Do}{ta:TE}{tl:TA}{ql:QA}{pos p:Pos}
def QV(ql:QA):QI:=λq Q=>ql q λts=>match ts with|[.t xs]=>Q (g7 xs)|_=>False
def kA{x1}{ta:TA}(q:X.K=K)(hg:Gl X "enumerate")(hm:X.mg "enumerate"=Y)(z:bootBuiltins "enumerate"=Z (.type "enumerate"))(g:PA X [a] ta)(hs:AD X a):
  PI X (.Tuple elts x1 pos') (.Call (.Name "enumerate" p) [a] [] pos) (sQ K tp ta):=by subst q;exact Ik hg hm z g hs
def Ab{x1}(hg:Gl X "enumerate")(hm:X.mg "enumerate"=Y)(cL:bootBuiltins "enumerate"=Z (.type "enumerate"))(V:QPA X K [a] tl ql)(hs:‹AD X a›)(hK:‹X.K=K›):
  QPI X K (.Tuple elts x1 pos') (.Call (.Name "enumerate" p) [a] [] pos) (sQ K O tl) (QV ql):=(kA hK hg hm cL V.h hs,λdl H σ q Q R rd hq k=>V.s dl H σ q _ _ rd hq λvs ts F H' e1 r _ z=>by
 split at z
 ·let(v,U,P):=r.one;let(l1,g,U,h1,h2):=P.r.tup;exact(l1,U,(g,SqT.of h1),k _ _ _ H' e1 Aw (λp hp=>by rw[fy.mp hp];exact(_,P)) z)
 exact z.elim)
def aw.snoc{v:V}{t:T}(hv:aB K dl H v t []){vs:Ω}{ts:ώ}{F:Θ}(h:aw K dl H vs ts F):F=[]->aw K dl H (vs++[v]) (ts++[t]) []:=
 h.ind (λ_=>.cons hv .nil) λ_ _ _ _ _ _ h _ g e=>by
  let(z,q):=JV.mp e;subst z;exact .cons h (g q)
def aw.rev{vs:Ω}{ts:ώ}{F:Θ}(h:aw K dl H vs ts F):F=[]->aw K dl H vs.reverse ts.reverse []:=
 h.ind (λ_=>.nil) λ_ _ _ _ _ _ h _ g e=>by
  let(z,q):=JV.mp e;subst z;rw[Rz,Rz];exact aw.snoc h (g q) U
end
variable{d:J}
section
variable{K:BT}{dl:Dl}{v:V}{F:Θ}
def aB.QF{o:Obj}{vs:ό}{ts:Ϗ}(h:aB K dl H v (.fd o vs ts) F):∃a,v=.ref a/\F=[]/\H a=Z (.frz o (.dK vs))/\aR K dl H vs ts []:=by cases h with|fd h r=>exact(_,rfl,rfl,h,r)
variable{a:Do}
def lI.oth{l a:J}{o:HO}(D:lI H d l)(h1:a≠d)(h2:a≠l):lI (upd H a o) d l:=by let(s,n,ls,Q):=D;exact(s,n,ls,by rw[ak h1.symm];exact Q.hd,by rw[ak h2.symm];exact Q.hl,Q.s0,Q.s1,Q.n0,Q.l0)
end
variable{ns:Γ}
section
variable{K:BT}{dl:Dl}{F:Θ}
theorem aw.lookup{f:Str}{vs:Ω}{ts:ώ}{F:Θ}{u:T}(r:aw K dl H vs ts F)(h:(ns.zip ts).lookup f=Z u):∃w G,(ns.zip vs).lookup f=Z w/\aB K dl H w u G/\∀b∈G,b∈F:=by
 induction ns generalizing vs ts F with
 |nil=>cases h
 |cons n ns q =>
   cases r with
   |nil=>cases h
   |cons h1 r =>
  rw[List.zip_cons_cons,x6]at h ⊢;cases e:(f==n)with
  |true =>
   rw[e]at h;cases h;exact(_,_,U,h1,λb g=>vr _ g)
  |false =>rw[e]at h;let(w,G,a1,a2,z):=q r h;exact(w,G,a1,a2,λb g=>rz _ (z b g))
end
abbrev QW:=J->Γ->ώ->Prop
abbrev QX:=Sq->(T->Prop)->QW->Prop
def Q6(K:PySem.W.Frag)(te:(St->XK)->TE)(qx:QX):Prop:=∀(dl:Dl)(H:Hp)(σ:St)(q:Sq)(Q:T->Prop)(W:QW)(R:V->Hp->Prop)(Es:St->XK),RdR K dl H σ q->qx q Q W ->
 (∀v t F H',Evo dl H H'->Rp K dl H' v t F->(∀b∈F,H b=Y)->F.Nodup->Q t->R v H')->(∀a C ns us H',Evo dl H H'->Rp K dl H' (.ref a) (.xc C ns us) []->W C ns us->Es σ (.ref C) (Z a) H')->te Es σ H R
structure QPX(X:Cx)(K:BT)(e:Do)(te:(St->XK)->TE)(qx:QX):Prop where
 h:∀Es,gU (CX1 X.prog X.w) X Es->PE X e (te Es)
 s:Q6 K te qx
abbrev QSX:=(Sq->QW)->QS
def XOk(K:PySem.W.Frag)(dl:Dl)(bi:Hp)(hs:List (V×T))(W:Sq->QW)(Es:St->XK):Prop:=∀H σ q a C ns us,fT K dl bi hs H σ q->Rp K dl H (.ref a) (.xc C ns us) []->W q C ns us->Es σ (.ref C) (Z a) H
def KH(K:PySem.W.Frag)(ts:(St->XK)->TS)(qs:QSX):Prop:=∀(dl:Dl)(bi:Hp)(hs:List (V×T))(H:Hp)(σ:St)(q:Sq)(Dq:cI)(D:Ends)(W:Sq->QW)(Es:St->XK),fT K dl bi hs H σ q->qs W Dq q->zP K dl bi hs Dq D->XOk K dl bi hs W Es->ts Es D σ H
structure zL(X:Cx)(K:BT)(st:Ev)(ts:(St->XK)->TS)(qs:QSX):Prop where
 h:∀Es,gU (CX1 X.prog X.w) X Es->lE X Es->PS X st (ts Es)
 s:KH K ts qs
structure nq(X:Cx)(K:BT)(st:List Ev)(ts:(St->XK)->TS)(qs:QSX):Prop where
 h:∀Es,gU (CX1 X.prog X.w) X Es->lE X Es->PSs X st (ts Es)
 s:KH K ts qs
variable{dl:Dl}{bi:Hp}{q:Sq}
section
variable{X:Cx}{K:BT}{st:Ev}{sa sb:List Ev}{e c:Do}{pos p aN:Pos}{tx:(St->XK)->TE}{qx:QX}{tc:TT}{qc:QT}{t:TS}{qt:QS}{ts us:(St->XK)->TS}{qs qr:QSX}
def jH(h:QPS X K st t qt):zL X K st (λ_=>t) (λ_=>qt):=(λ_ _ _=>h.h,λdl bi hs H σ q Dq D _ _ r hq E _=>h.s dl bi hs H σ q Dq D r hq E)
def z7(h:mR X K rest t qt):nq X K rest (λ_=>t) (λ_=>qt):=(λ_ _ _=>h.h,λdl bi hs H σ q Dq D _ _ r hq E _=>h.s dl bi hs H σ q Dq D r hq E)
def iE(h:zL X K st ts qs):nq X K [st] ts qs:=(λEs a b=>dZ (h.h Es a b),h.s)
def cT(h1:zL X K st ts qs)(h2:nq X K rest us qr):nq X K (st::rest) (λEs=>K0 (ts Es) (us Es)) (λW D q=>qs W {D with nx:=λq'=>qr W D q'} q):=
 (λEs a b=>bq (h1.h Es a b) (h2.h Es a b),λdl bi hs H σ q Dq D W Es r hq E x=>h1.s dl bi hs H σ q _ _ W Es r hq (λH σ q r' g=>h2.s dl bi hs H σ q _ _ W Es r' g E x,E.bk,E.ct,E.rt,E.ru) x)
def DK(z:QPT X K c tc qc)(Q:nq X K sa ts qs)(P:nq X K sb us qr):zL X K (.If c sa sb pos) (λEs=>K5 tc (ts Es) (us Es)) (λW D q=>qc q λb=>if b=O then qs W D q else qr W D q):=
 (λEs a b=>Eg z.h (Q.h Es a b) (P.h Es a b),λdl bi hs H σ q Dq D W Es (F,r) hq E x=>z.s dl H σ q _ _ r.rd hq λb H' V g=>by
  cases b with
  |true=>exact Q.s dl bi hs H' σ q Dq D W Es (F,r.evo V) g E x
  |false=>exact P.s dl bi hs H' σ q Dq D W Es (F,r.evo V) g E x)
def XOk.at{hs:List (V×T)}{W:Sq->QW}{Es:St->XK}{σ:St}{F:Nat->Θ}(x:XOk K dl bi hs W Es)(r:Rel K dl bi hs H σ q F):∀a C ns us H',Evo dl H H'->Rp K dl H' (.ref a) (.xc C ns us) []->W q C ns us->Es σ (.ref C) (Z a) H':=
 λa C ns us H' z g hw=>x H' σ q a C ns us (F,r.evo z) g hw
def HJ(he:QPX X K e tx qx):zL X K (.Return (Z e) pos) (λEs=>G7 (tx Es)) (λW D q=>qx q D.rt (W q)):=
 (λEs a _=>mq (he.h Es a),λdl bi hs H σ q Dq D W Es (F,r) hq E x=>he.s dl H σ q _ _ _ Es r.rd hq (λv t F' H' g z f1 n1 P=>E.rt v t F' H' g.d z (λb Q=>r.fz (f1 b Q)) n1 (r.evo g).f P) (x.at r))
def HI{i:Nat}(P:X.N.Nodup)(hi:X.N[i]?=Z x)(hx:Loc X.env.scope x)(he:QPX X K e tx qx)(hs:‹swapsWith e (Z (.Name x pos')) pos.line X.env=pure false›)(hf:AT X x:=by first|exact .inl rfl|exact .inr rfl|assumption):
  zL X K (.Assign [.Name x pos'] e pos) (λEs=>fV (tx Es) (cU i)) (λW D q=>qx q (λt=>D.nx (q.set i (.o t))) (W q)):=
 (λEs a _=>gF P hi hx (he.h Es a) hs hf,λdl bi hs H σ q Dq D W Es (F,r) hq E x=>he.s dl H σ q _ _ _ Es r.rd hq (λv t F' H' Q g f1 n1 z=>E.nx H' _ _ (r.yV Q g f1 n1) z) (x.at r))
variable{C:J}{fn:Γ}{bm:Δ}
def PL{o o':HO}:upd (upd H a o) a o'=upd H a o':=by
 funext b;by_cases h:b=a
 ·rw[h,au,au]
 rw[ak h,ak h,ak h]
theorem pF(V:X.K=K)(P:X.calm=O)(M:mQ K fn C bm Y)(kp:W.keepIn K (.ref C)=O)(hg:Gl X x)(hm:X.mg x=Z (.ref C))(g:autoParam (AS x) zdc._auto_1):
  zL X K (.Raise (Z (.Call (.Name x p) [] [] aN)) Y pos) (λEs=>CU K fn Es (zS C)) (λW _ q=>W q C [] []):=by
 subst V;refine(λEs _ b=>Ee P b (BJ M kp hg hm g),λdl bi hs H σ q Dq D W Es (F,r) hq E x a Q=>(a,C,bm,Y,Y,U,M,au,?_));rw[PL];have ev:=(Evo.refl r.d).new (o:=.ext (XAt a C Y ϊ)) Q;exact x.at r a C [] [] _ ev (.e (vs:=[]) (.inl (U,au)) .nil,nofun) hq
end
abbrev Gi:=ώ->(T->Prop)->QW->Prop
inductive yt(K:BT)(ps:Gi)(vs:Ω)(H:Hp)(Q:VK)(E:XK):Prop
 |mk(dl:Dl)(ts:ώ)(F:Θ)(Qp:T->Prop)(Wp:QW)(h1:Dls dl H)(h2:Rps K dl H vs ts F)(h3:ps ts Qp Wp)(h4:(∀v t F' H',Evo dl H H'->Rp K dl H' v t F'->(∀b∈F',H b=Y)->F'.Nodup->Qp t->Q v H'))(h5:∀a C ns us H',Evo dl H H'->Rp K dl H' (.ref a) (.xc C ns us) []->Wp C ns us->E (.ref C) (Z a) H')
section
variable{X:Cx}{K:BT}{e:Do}{es:List Do}{tl:TA}{ql:QA}{pos p:Pos}{k:Nat}{f:J}{prs:Γ}{ps:Gi}
theorem HH(F:aS X.prog X.w X.K X.mg X.base (CX1 X.prog X.w) k f fd prs (yt K ps))(hr:cn k X.A)(hg:Gl X x)(hm:X.mg x=Z (.ref f))(hk:W.keepIn X.K (.ref f)=O)(hb:Binds X.K fd prs [])(ha:QPA X K (e::es) tl ql)
  (V:autoParam (AS x) zdc._auto_1) (he:‹AC X e es›) (P:‹AM X pos es›):
  QPX X K (.Call (.Name x p) (e::es) [] pos) (λEs=>yp (yt K ps) Es tl) (λq Q W=>ql q λts=>ps ts Q W):=
 (λEs a=>EB F hr hg hm hk hb a ha.h V he P,λdl H σ q Q W R Es rd hq k1 k2=>ha.s dl H σ q _ _ rd hq λvs ts F H1 g r1 _ z =>
(dl,ts,F,Q,W,g.d,r1,z,λv t F' H' e r f n z=>k1 v t F' H' (g.trans e) r (λb hb=>g.free (f b hb)) n z,λa C ns us H' e r hw=>k2 a C ns us H' (g.trans e) r hw))
end
theorem Fun.OC{w:Cl}{K:PySem.W.Frag}{st:Ev}{f:J}{k:Nat}{g:Gi}(F:Fun K x qual st f fd)(S:az N ps (aq st))(len:∀ts Q W,g ts Q W->ts.length=ps.length)
  (gc:∀(cdv:B)(A:Db)(outer:List Env)(s:ϋ)(H:Hp)(E:XK),cn k (A.deeper (envOfC qual (aq st) s.heap.objs.size f cdv)) ->
∃t qs,nq (kX (CX1 P w) P w K mg base N qual (aq st) f cdv A outer s H E) K (bD st) t qs/\∀ts Q W,g ts Q W->qs (λ_=>W) {nx:=λ_=>Q .n,rt:=Q} (ts.map Sl.r++CB (N.length-ts.length) .no)):aS P w K mg base (CX1 P w) (k+1) f fd ps (yt K g):=by
 have aN:ps.length<=N.length:=by have:=congrArg zN S.pre;rw[vM]at this;omega
 refine F.okX S (λvs H Q E h=>?_) (λcdv A outer s H vs Q E hr h=>?_)
 ·let(dl,ts,F,Qp,Wp,_,r,h,_):=h;rw[r.r.len];exact len ts Qp Wp h
 let(dl,ts,Fp,Qp,Wp,D,r,h,fin,fix):=h;let(t,qs,hb,hq):=gc cdv A outer s H E hr;refine(t λ_=>E,hb.h _ y9 yN,?_);have hlen:=len ts Qp Wp h;have hl:=r.r.len;have z:=hq ts Qp Wp h;have R:=me (n:=N.length) D r bd;rw[<- hl]at z;refine hb.s dl H [] H _ _ _ _ _ _ R z (λH' σ q (F,r') V=>?_,λ_ _ _ _ V=>V.elim,λ_ _ _ _ V=>V.elim,λv t F H' D' r' f' n' fr V=>?_,λ_ _ _ _ _ _ _ _ _ _ _ _ z=>z.elim) λH' σ q a C ns us (F,r') rp hw=>?_
 ·exact fin .non .n [] H' (r'.f.evo r'.d) (.n,nofun) nofun px V
 ·exact fin v t F H' (fr.evo D') r' f' n' V
 exact fix a C ns us H' (r'.f.evo r'.d) rp hw
abbrev QH:=J->Γ->ώ->QS
def Q9(K:BT)(th:TH)(qh:QH):Prop:=∀(dl:Dl)(bi:Hp)(hs:List (V×T))(H:Hp)(σ:St)(q:Sq)(Dq:cI)(D:Ends)(a C:J)(ns:Γ)(us:ώ),fT K dl bi hs H σ q->Rp K dl H (.ref a) (.xc C ns us) []->qh C ns us Dq q->zP K dl bi hs Dq D->th a C D σ H
structure QPH(X:Cx)(K:BT)(hs:List ExceptHandler)(th:TH)(qh:QH):Prop where
 h:PH X hs th
 s:Q9 K th qh
variable{hs:List ExceptHandler}{body:List Ev}
section
variable{X:Cx}{K:BT}{fn:Γ}{C':J}{bm':Δ}{Ca:Option J}{p pos:Pos}{b0:Ev}{vX:List Ev}{rest:List ExceptHandler}{ts:TS}{qs:QS}{tr:TH}{qr:QH}
def HR:QH:=λ_ _ _ _ _=>False
def DQ:QPH X K hs FA HR:=(Ep,λ_ _ _ _ _ _ _ _ _ _ _ _ _ _ h _=>h.elim)
def N8(K:BT)(fn:Γ)(C':J)(qs:QS)(qr:QH):QH:=λC ns us D q=>∃bm ini,mQ K fn C bm ini/\if(B.ref C::bm).contains (.ref C')=O then qs D q else qr C ns us D q
def Ls(V:X.K=K)(hg:Gl X x)(hm:X.mg x=Z (.ref C'))(c':mQ K fn C' bm' Ca)(g:∀a,mR (X.inX a) K (b0::vX) ts qs)(hr:QPH X K rest tr qr)(P:autoParam (AS x) zdc._auto_1):
  QPH X K (.ExceptHandler (Z (.Name x p)) Y (b0::vX) pos::rest) (Pb K fn C' ts tr) (N8 K fn C' qs qr):=by
 subst V;refine(L5 hg hm c' (λa=>(g a).h) hr.h P,λdl bi hs H σ q Dq D a C ns us r Q hq E=>?_);let(bm,ini,c,hq):=hq;refine(bm,ini,c,λz=>?_,λz=>?_)
 ·rw[if_pos z]at hq;exact(g a).s dl bi hs H σ q Dq D r hq E
 rw[if_neg (by rw[z];decide)]at hq;exact hr.s dl bi hs H σ q Dq D a C ns us r Q hq E
def Lm{h0:ExceptHandler}{th:TH}{qh:QH}{tb:(St->XK)->TS}{qb:QSX}(P:∀pn xe,nq (X.nJ pn xe) K body tb qb)(z:QPH X K (h0::hs) th qh)(g:‹X.stack=X.env::X.outer›)(hf:‹X.env.frame=Z X.env.locals›):
  QPS X K (.Try body (h0::hs) [] [] pos) (NN th tb) (λD q=>qb (λq' C ns us=>qh C ns us D q') D q):=
 (LI g hf (λEs pn xe a b=>(P pn xe).h Es a b) z.h,λdl bi hs H σ q Dq D r hq E=>(P [] λ_ _=>False).s dl bi hs H σ q Dq D _ _ r hq E λH σ q a C ns us r Q hw=>(a,C,U,U,z.s dl bi hs H σ q Dq D a C ns us r Q hw E))
end
section
variable{X:Cx}{K:BT}{a b e:Do}{ta tb:TE}{qa qb:QE}{pos:Pos}
def PX(qa qb:QE):QE:=λq Q=>qa q λt=>qb q λu=>match t,u with|.l xs,.i k=>Ex2 (λx=>atI xs k=Z x) Q|_,_=>False
def pK(ha:QPF X K a ta qa)(hb:QPE X K b tb qb)(hs:lF b:=by intro _ _;rfl)(hK:‹X.K=K›):QPF X K (.Subscript a b pos) (tOp (rIx K) ta tb) (PX qa qb):=by
 refine(by subst hK;exact wR Fe ha.h hb.h hs,λdl H σ q Q R rd hq k=>(ha.s dl H σ q _ _ rd hq λv t F H1 e1 P f1 n1 V=>(hb.s dl H1 σ q _ _ (rd.evo e1) V λw u G H2 e2 r2 g=>?_)));have P:=P.evo e1.d e2;split at g
 ·let(U,U):=r2.r.int;let(p,vs,G,U,U,h1,h2):=P.r.lst;let(z,hz,hq):=g;let(j,hj,hi):=lg hz h2.len.symm;let(v,G',hv,rv,hs):=h2.M0 hj;have sub:∀c∈G',c∈p::G:=λc hc=>mm _ (hs.subset hc);exact .inl (p,vs,_,v,U,U,SqL.of h1,qU hi hv,k v z G' H2 (e1.trans e2) (Rp.sub rv P.n sub) (λc hc=>f1 c (sub c hc)) ((yd.mp n1).2.sublist hs) hq)
 exact g.elim
inductive Lk(K:BT)(x:V)(y:V)(H:Hp)(Q:VK):Prop
 |mk(p q vs ws:_)(h1:x=.ref p)(h2:y=.ref q)(h3:SqL K H p vs)(h4:SqL K H q ws)(h5:vs.all dU=O)(h6:ws.all dU=O)(h7:Q (.bl (!kR vs ws)) H)
def Mb(hu:X.A.units+1<cLine):OpR X (compareOp .NotEq) (Lk X.K):=by
 intro gd s σ H x y v u Q I rx ry h;let(p,q,vs,ws,U,U,h1,h2,f1,f2,k):=h;cases rx;cases ry;let(its,z,p1,_):=I.list h1;let(bO,g,p2,_):=I.list h2;have l1:=z.length;have l2:=g.length;by_cases hl:its.length=bO.length
 ·refine SeqAt.RcNeAt.lists (e:=λj=>match vs[j]?,ws[j]? with|some x,Z y=>eqV x y|_,_=>ϊ) p1.isList p2.isList (hl:) bd (λj g1 g2=>?_) X.prog X.w X.xe _ (.bl _,H,I,U,?_)
  ·let(a,V,ra):=z.at' g1;let(b,P,rb):=g.at' g2;simp only[V,P];exact mJ ra rb (jc f1 V) (jc f2 P)
  have e:kR vs ws=(Fq its.toArray.size).all λj=>match vs[j]?,ws[j]? with|some x,Z y=>eqV x y|_,_=>false:=by unfold kR;rw[show(vs.length==ws.length)=O from by simp;omega,Sg,ti,l1];try rfl
  rw[<- e];exact k
 refine SeqAt.RcNeAt.lists_lengths p1.isList p2.isList (hl:) bd X.prog X.w X.xe _ (.bl _,H,I,U,?_);have e:kR vs ws=false:=by unfold kR;rw[show(vs.length==ws.length)=ϊ from by simp;omega,Bool.false_and]
 rw[e]at k;exact k
def Oe:Q2:=λt u Q=>match t,u with|.l xs,.l ys=>(fls xs&&fls ys)=O/\Q (.b (!eqF xs ys))|_,_=>False
def Ma(g:X.A.units+1<cLine)(q:X.K=K):OpR X (compareOp .NotEq) (Lk K):=by subst q;exact Mb g
def Hl:cb K (Lk K) Oe:=by
 intro dl H x y t u F G Q R D P q hq k;unfold Oe at hq;split at hq
 ·let(p,vs,G1,U,U,h1,h2):=P.r.lst;let(V,g,G2,U,U,h3,h4):=q.r.lst;let(f,hq):=hq;rw[ri]at f;let(U,U):=h2.vs f.1;let(U,U):=h4.vs f.2;exact(p,V,_,_,U,U,SqL.of h1,SqL.of h3,iP f.1,iP f.2,k _ _ [] H (.refl D) (.c (.b _)) nofun px hq)
 exact hq.elim
def FI{xs:ώ}(h:∀x∈xs,eqV x.v x.v=O):eqF xs xs=true:=by unfold eqF kR;simp only[beq_self_eq_true,Sg,JW,Ro,e7];intro i hi;simp only[kf,mu hi,Option.map_some];exact h _ (Qj hi)
end
variable{p1:Pos}{p2:Pos}{f7:Pos}
section
variable{X:Cx}{K:BT}{a e:Do}{te:TE}{qe:QE}{tl:TA}{ql:QA}{pos p:Pos}
def Pt(ql:QA):QJ:=λq Q=>ql q λts=>match ts with|[.t xs]=>T.ims xs=O/\Q (g7 xs) q|_=>False
def HQ{x1}(hg:Gl X "enumerate")(hm:X.mg "enumerate"=Y)(cL:bootBuiltins "enumerate"=Z (.type "enumerate"))(ha:QPA X K [a] tl ql)(hs:‹AD X a›)(hK:‹X.K=K›):
  QPJ X K (.Tuple elts x1 pos') (.Call (.Name "enumerate" p) [a] [] pos) (sQ K O tl) (Pt ql):=(kA hK hg hm cL ha.h hs,λdl bi hs H σ q Q R (F0,r0) hq k=>ha.s dl H σ q _ _ r0.rd hq λvs ts F H' e1 r _ g=>by
 split at g
 ·let(i1,g):=g;let(v,U,V):=r.one;obtain rfl:=V.r.im i1;have q1:=(r0.evo e1).hold V λj u hj b hb z=>nomatch z;let(l1,P,U,h1,h2):=V.r.tup;exact(l1,U,(P,SqT.of h1),k _ _ _ H' q (F0,q1) Aw g)
 exact g.elim)
def Lz(qe:QE):QE:=λq Q=>qe q λt=>match t with|.l xs=>T.ims xs=O/\Q (.l xs.reverse)|_=>False
def wQ(hK:X.K=K)(hc:X.calm=O)(V:Gl X "list")(P:X.mg "list"=Y)(Q:Gl X "reversed")(z:X.mg "reversed"=Y)(he:PE X e te)
  (q:AD X e) (g:nY [.Call (.Name "reversed" p2) [e] [] f7] X.env=[(ϊ,eval (.Call (.Name "reversed" p2) [e] [] f7) X.env)]):
  PE X (.Call (.Name "list" p1) [.Call (.Name "reversed" p2) [e] [] f7] [] pos) (oV K te):=by subst hK;exact pT hc V P Q z he q g
def m4{p1 p2 f7:Pos}(hc:X.calm=O)(a0:Gl X "list")(aP:X.mg "list"=Y)(aT:Gl X "reversed")(aN:X.mg "reversed"=Y)(he:QPE X K e te qe)
  (V:‹AD X e›) (P:‹nY [.Call (.Name "reversed" p2) [e] [] f7] X.env=[(ϊ,eval (.Call (.Name "reversed" p2) [e] [] f7) X.env)]›) (hK:‹X.K=K›):
  QPF X K (.Call (.Name "list" p1) [.Call (.Name "reversed" p2) [e] [] f7] [] pos) (oV K te) (Lz qe):=
 (wQ hK hc a0 aP aT aN he.h V P,λdl H σ q Q R rd hq k=>he.s dl H σ q _ _ rd hq λv t F H1 e1 r g=>by
  split at g
  ·let(i1,g):=g;let(l,vs,G,U,U,h1,h2):=r.r.lst;obtain rfl:=h2.im i1;refine(l,vs,U,SqL.of h1,λp hp=>?_);have rs:Rps K dl H1 vs.reverse _ []:=(h2.rev U,nofun);exact k _ _ [p] _ (e1.new hp) (rs.lst e1.d hp) (λb hb=>by rw[fy.mp hb];exact e1.free hp) ap g
  exact g.elim)
end
variable{A:Db}
section
variable{K:BT}
def dG{vs:Ω}{ts:ώ}{F:Θ}(h:aw K dl H vs ts F){v:V}(hv:vs[j]?=Z v):∃t G,ts[j]?=Z t/\aB K dl H v t G:=by
 have hl:=h.len;have g:j<ts.length:=by rw[<- hl];exact(mT.mp hv).1
 let(w,G,hw,r,_):=h.get (show ts[j]?=Z ts[j]from by simp[g]);rw[hv]at hw;cases hw;exact(_,G,by simp[g],r)
def Kt{k:Nat}(hr:cn k A):A.units+150<cLine:=by have:=hr.un;lia
end
section
def TF.dict{p:J}{kv kw:ό}(hp:H p=Z (.dK kv)):TF H (upd H p (.dK kw)):=
 have ne:∀{a:J}{o:HO},H a=Z o->(∀kv,o ≠ .dK kv)->a≠p:=λh n e=>by rw[e,hp]at h;exact n _ (Option.some.inj h).symm
 (λa vs h=>by rw[ak (ne h nofun)];exact h,λa o u h=>by rw[ak (ne h nofun)];exact h,λa φ h=>by rw[ak (ne h nofun)];exact h,λa xs h=>(xs,by rw[ak (ne h nofun)];exact h),λa x h=>(x,NC _,by rw[ak (ne h nofun)];exact h))
end
section
variable{X:Cx}{σ:St}{s:ϋ}{x:Int}
def Inv.Kk(I:Inv X gd σ H s){u:HO}(q:H a=Z u)(g:∀o v,u ≠ .frz o v):∀o v,X.bi a≠Z (.frz o v):=λo v e=>by
 have:=I.base.iO a o v e;rw[q]at this;exact g o v (Option.some.inj this)
def Inv.CT(I:Inv X gd σ H s)(g:H a=Z (.lst [.int x])):Inv X gd σ (upd H a (.room x)) s:=by let(_,its,n,r,e):=(I.hok a _ g);exact I.zZ g nofun nofun nofun (I.Kk g (λ_ _ z=>nomatch z)) (its,n,r,e)
def Inv.Mj(I:Inv X gd σ H s)(g:H a=Z (.room x)):Inv X gd σ (upd H a (.lst [.int x])) s:=by let(its,n,r,e):=(I.hok a _ g);exact I.zZ g nofun nofun nofun (I.Kk g (λ_ _ z=>nomatch z)) (by show 1<=p6;decide,its,n,r,e)
end
section
variable{X:Cx}{K:BT}{a b e o:Do}{ta tb te:TE}{qa qb qe:QE}{pos:Pos}
inductive DE(x:V)(y:V)(H:Hp)(Q:VK):Prop
 |mk(p r:_)(h1:x=.ref p)(h2:y=.int 0)(h3:H p=Z (.room r))(h4:Q (.int r) H)
def Au:IxR X DE:=by intro value slice gd s σ H x y v u Q I K z h hs;let(p,m,U,U,hq,q):=h;cases K;let(t,U):=z;let(its,n,r,e):=(I.hok p _ hq);have pl:PlainL s.heap p its.toArray:=(_,n,e,U,U,U);let(w,P,g):=r.get (show [V.int m][0]?=Z (.int m)from U);have fin:EP X gd σ Q w s:=(.int m,H,I,g,q);exact item_listR pl.isList (NC 0) am (P:) fin hs
inductive Dx(o:V)(i:V)(v:V)(H:Hp)(Q:(Hp->Prop)):Prop
 |mk(p x y:_)(h1:o=.ref p)(h2:i=.int 0)(h3:v=.int y)(h4:H p=Z (.room x))(h5:Q (upd H p (.room y)))
def Dp:Nv X Dx:=by intro gd s σ H o i v ov iv u Q I P V K h;let(p,x,y,U,U,U,hp,q):=h;have I1:=I.Mj hp;refine thn (set_list gd s σ _ (.ref p) (.int 0) (.int y) ov iv u (λH'=>H'=upd H p (.lst [.int y])) I1 P V K (p,[.int x],0,0,U,U,au,U,by rw[i6];rfl)) λ_ s' z=>?_;let(H',I',z):=z;subst z;have g:=I'.CT au;rw[i6]at g;exact(_,g,q)
def J1(te:TE):TE:=λσ H Q=>te σ H λv H1=>∃a x,v=.ref a/\H1 a=Z (.lst [.int x])/\Q v (upd H1 a (.room x))
def Im(he:PE X e te):PE X e (J1 te):=by left;refine thn (he gd s σ H _ I h) λu s' g=>?_;let(v,H',K,r,a,x,P,z,q):=g;exact(v,_,K.CT z,r,q)
def Evo.fresh{a:J}{o:HO}(e:Evo dl H H')(g:H a=Y)(nd:Nd dl a):Evo dl H (upd H' a o):=
 (λb u h n r=>by rw[ak (aI h g)];exact e.k b u h n r,λp hp=>(e.d p hp).oth (nd p hp).1 (nd p hp).2,λb x h=>let(y,q,z):=e.r b x h;(y,q,by rw[ak (aI h g)];exact z))
def Ob(qe:QE):QE:=λq Q=>qe q λt=>match t with|.l [.i x]=>Q (.rm x)|_=>False
def HU(he:QPF X K e te qe):QPF X K e (J1 te) (Ob qe):=(Im he.h,λdl H σ q Q R rd hq k=>he.s dl H σ q _ _ rd hq λv t F H1 e1 P f1 n1 g=>by
 cases t with
 |l xs =>
  cases xs with
  |cons y V =>
   cases y with
   |i x =>
    cases V with
    |nil =>
     let(p,vs,G,U,U,h1,h2):=P.r.lst;cases h2 with
     |cons h3 h4 =>
      cases h4;let(U,U):=h3.int;exact(p,x,U,h1,k _ (.rm x) [] _ (e1.fresh (f1 p iY) (P.n p iY)) (.rm au (NC _),nofun) nofun px g)
    |cons _ _=>exact g.elim
   |_=>exact g.elim
  |nil=>exact g.elim
 |_=>exact g.elim)
def LA:Q2:=λt u Q=>match t,u with|.rm m,.i k=>k=0/\∀r,r<=m->Q (.i r)|_,_=>False
def Hq:Gf K DE LA:=by
 intro dl H x y t u F G Q R D q g hq k;unfold LA at hq;cases t with
 |rm m =>
  cases u with|i k =>let(p,m,U,h1,h2,_):=q.r.roo;let(U,_):=g.r.int;let(U,hq):=hq;exact(p,m,U,U,h1,k _ (.i m) [] H (.refl D) (.i m,nofun) (hq m h2))|_=>exact hq.elim
 |_=>exact hq.elim
def HV(q:QPE X K a ta qa)(g:QPE X K b tb qb)(hs:lF b:=by intro _ _;rfl):QPE X K (.Subscript a b pos) (tOp DE ta tb) (qOp LA qa qb):=(wR Au q.h g.h hs,uc Hq q.s g.s)
def yS(i:Nat)(qe:QE):QS:=λD q=>match q[i]? with
 |some x=>match x.get with
  |some (.rm u)=>qe q λt=>match t with|.i k=>0<=k/\D.nx (q.set i (.r (.rm (u-k))))|_=>False
  |_=>False
 |none=>False
def Kc:R2:=rI0 λi j=>.int (i-j)
def Dm{α:Type}{xs:List α}{i:Nat}{x:α}(h:xs[i]?=Z x):xs.set i x=xs:=by let(hl,e):=mT.mp h;subst e;exact R9 hl
def Br{i:Nat}(he:iW K te qe):jm K (fV (tOp Kc (tOp DE (bN i) (tC (.int 0))) te) (FD (bN i) (tC (.int 0)) Dx)) (yS i qe):=λdl bi hs H σ q Dq D (F,r) hq E=>by
 unfold yS at hq;split at hq
 ·rename_i x ex;split at hq
  ·rename_i u eg;let(v,hv,rp):=r.g i x _ ex eg;let(p,m,U,h1,h2,hF):=rp.r.roo;refine(_,hv,p,m,U,U,h1,he dl H σ q _ _ r.rd hq λw t F1 H1 V r1 Q=>?_);split at Q
   ·rename_i k;let(hk,Q):=Q;let(U,_):=r1.r.int;let(y,hy,e2):=V.r p m h1;have nd:=r.d.nd h1 nofun nofun;refine(m,k,U,U,_,hv,p,y,m-k,U,U,U,e2,?_);have ev:Evo dl H (upd H1 p (.room (m-k))):=by
     refine(λb o P n nr=>?_,λd hd=>(V.d d hd).oth (nd d hd).1 (nd d hd).2,λb z P=>?_)
     ·have ne:b≠p:=λz=>by rw[z,h1]at P;exact nr _ (Option.some.inj P).symm
      rw[ak ne];exact V.k b o P n nr
     by_cases eb:b=p
     ·subst eb;rw[h1]at P;cases P;exact(_,Int.sub_le_self _ hk,au)
     let(z',aN,e3):=V.r b z P;exact(z',aN,by rw[ak eb];exact e3)
    have R2:=(r.evo ev).LG (t:=.rm (u-k)) (mT.mp ex).1 (.rm au bd,nofun) (λ_ _ _ _ _ _=>ya);rw[Dm hv]at R2;exact E.nx _ _ _ (_,R2) Q
   exact Q.elim
  exact hq.elim
 exact hq.elim
def wu{i:Nat}{p3 g Q P z:Pos}{j1 j2:Nat}(ho:PE X (.Name x p1) (bN i))(V:PE X (.Name x p3) (bN i))(he:QPE X K e te qe)
  (hs:‹swapsWithSole [.Subscript (.Name x p1) (.Constant (.int 0) j1 g) pos'] (.BinOp (.Subscript (.Name x p3) (.Constant (.int 0) j2 Q) P) .Sub e z) pos.line X.env=pure false›) (hw:‹swappedStores [.Subscript (.Name x p1) (.Constant (.int 0) j1 g) pos'] (.BinOp (.Subscript (.Name x p3) (.Constant (.int 0) j2 Q) P) .Sub e z) X.env=pure none›)
  (h1:‹(assignEach [.Subscript (.Name x p1) (.Constant (.int 0) j1 g) pos'] X.env).map (·.2)=[assign (.Subscript (.Name x p1) (.Constant (.int 0) j1 g) pos') X.env]›)
  (ha:∀v,assign (.Subscript (.Name x p1) (.Constant (.int 0) j1 g) pos') X.env v=(do
let q <- holding [v] (eval (.Name x p1) X.env)
let iv <- holding [v,q] (eval (.Constant (.int 0) j1 g) X.env)
standAt pos'
holding [v,q,iv] (setItem q iv v)
release [v,q,iv] []):=by intro _;rfl):
  QPS X K (.Assign [.Subscript (.Name x p1) (.Constant (.int 0) j1 g) pos'] (.BinOp (.Subscript (.Name x p3) (.Constant (.int 0) j2 Q) P) .Sub e z) pos) (fV (tOp Kc (tOp DE (bN i) (tC (.int 0))) te) (FD (bN i) (tC (.int 0)) Dx)) (yS i qe):=
 (uG (cw za (wR Au V bt (λ_ _=>rfl)) he.h) (Er ho bt Dp ha) hs hw h1,Br he.s)
end
def qw(H:Hp)(a:J):Hp:=λb=>if b=a then Y else H b
def jQ:qw H a a=none:=if_pos U
def qm{b:J}(h:b≠a):qw H a b=H b:=if_neg h
inductive spM(K:BT)(j:Nat)(ps:PSp)(vs:Ω)(H:Hp)(Q:VK)(_:XK):Prop
 |mk(dl:Dl)(ts:ώ)(a:J)(ks:Ϗ)(Qp:T->Prop)(h1:Dls dl H)(h2:vs.length=ts.length)(h3:vs[j]?=Z (.ref a))(h4:ts[j]?=Z (.dp a ks))(h5:Rp K dl H (.ref a) (.dp a ks) [a])(h6:(∀i v t,i≠j->vs[i]?=Z v->ts[i]?=Z t->Rp K dl H v t []))(h7:ps ts Qp)(h8:∀ks' H',Frm dl (qw H a) H'->Dls dl H'->Rp K dl H' (.ref a) (.dp a ks') [a]->Qp (.dp a ks')->Q .non H')
theorem yM{K:BT}{vs:Ω}{ts:ώ}{ks:Ϗ}(D:Dls dl H)(hl:vs.length=ts.length)(hv:vs[j]?=Z (.ref a))(ht:ts[j]?=Z (.dp a ks))(r0:Rp K dl H (.ref a) (.dp a ks) [a])(ro:∀i v t,i≠j->vs[i]?=Z v->ts[i]?=Z t->Rp K dl H v t [])(hj:j<ts.length):Rel K dl (qw H a) [] H (start N vs) ((ts.map Sl.r).set j (.o (.dp a ks))++CB (N.length-ts.length) .no) (λi=>if i=j then [a]else []):=by
 have lk:∀i y,((ts.map Sl.r).set j (.o (.dp a ks))++CB (N.length-ts.length) Sl.no)[i]?=Z y->(i=j/\y=.o (.dp a ks))\/(i≠j/\∃t,ts[i]?=Z t/\y=.r t)\/(ts.length<=i/\y=.no):=λi y h=>by
  by_cases hi:i<ts.length
  ·rw[A0 (hi:)]at h;obtain⟨Q,q,_⟩|⟨Q,q⟩:=get_set h
   ·exact .inl (Q,q)
   rw[kf,mu hi]at q;exact .inr (.inl (Q,ts[i],ap,(Option.some.inj q).symm))
  rw[CC (hi:),RW]at h;split at h
  ·exact .inr (.inr (bd,(Option.some.inj h).symm))
  cases h
 have g:∀i v,vs[i]?=Z v->(start N vs)[i]?=Z (Z v):=λi v e=>by
  have hi:=(mT.mp e).1;show(vs.map Z++CB (N.length-vs.length) Y)[i]?=_;rw[A0 (hi:),kf,e];rfl
 refine(D,λi y t h1 h2=>?_,λi y h1 h2=>?_,λi hi=>?_,λi t h1=>?_,λp hp=>(by cases hp),(λb o h _ _=>?_,λb x h=>(x,NC _,?_)),?_)
 ·obtain⟨rfl,rfl⟩|⟨ne,u,e,rfl⟩|⟨_,rfl⟩:=lk i y h1
  ·cases h2;refine(.ref a,g _ _ hv,?_);rw[if_pos rfl];exact r0
  ·cases h2;obtain⟨v,ev⟩:∃v,vs[i]?=Z v:=(vs[i]'(by rw[hl];exact(mT.mp e).1),mu _);refine(v,g _ _ ev,?_);rw[if_neg ne];exact ro i v t ne ev e
  cases h2
 ·obtain⟨rfl,rfl⟩|⟨ne,u,e,rfl⟩|⟨hi,rfl⟩:=lk i y h1
  ·cases h2
  ·cases h2
  exact if_neg bd
 ·refine if_neg ?_;simp at hi;lia
 ·obtain⟨rfl,e⟩|⟨ne,u,e,z⟩|⟨_,z⟩:=lk i _ h1
  ·refine(ap,λb P=>?_,λk hk b P=>?_)
   ·simp only[if_pos]at P;rw[fy.mp P];exact jQ
   simp only[if_neg hk];exact ya
  ·cases z
  cases z
 ·by_cases e:b=a
  ·rw[e,jQ]at h;cases h
  rw[qm e]at h;exact h
 ·by_cases e:b=a
  ·rw[e,jQ]at h;cases h
  rw[qm e]at h;exact h
 show _=(vs.map Z++CB (N.length-vs.length) Y).length;simp[hl]
theorem Fun.okM{w:Cl}{K:BT}{st:Ev}{f:J}{k:Nat}{aN:PSp}(F:Fun K x qual st f fd)(S:az N ps (aq st))(len:∀ts Q,aN ts Q->ts.length=ps.length)
  (gc:∀(cdv:B)(A:Db)(outer:List Env)(s:ϋ)(H:Hp)(E:XK),cn k (A.deeper (envOfC qual (aq st) s.heap.objs.size f cdv)) ->
∃t qs,mR (kX CX0 P w K mg base N qual (aq st) f cdv A outer s H E).nox K (bD st) t qs/\∀ts Q a ks,aN ts Q->ts[j]?=Z (.dp a ks)->qs {nx:=λq=>∃ks',q[j]?=Z (.o (.dp a ks'))/\T.imk ks'=O/\Q (.dp a ks'),rt:=λ_=>False,ru:=λq r=>r=.n/\∃ks',q[j]?=Z (.o (.dp a ks'))/\T.imk ks'=O/\Q (.dp a ks')} ((ts.map Sl.r).set j (.o (.dp a ks))++CB (N.length-ts.length) .no)):aS P w K mg base CX0 (k+1) f fd ps (spM K j aN):=by
 refine F.ok S (λvs H Q E h=>?_) (λcdv A outer s H vs Q E hr h=>?_)
 ·let(dl,ts,a,ks,Qp,_,hl,_,_,_,_,h,_):=h;rw[hl];exact len ts Qp h
 let(dl,ts,a,ks,Qp,D,hl,hv,ht,r0,ro,h,fin):=h;let(t,qs,hb,hq):=gc cdv A outer s H E hr;refine(t,hb.h,?_);have z:=hq ts Qp a ks h ht;have hj:=(mT.mp ht).1;have R:=yM (N:=N) D hl hv ht r0 ro hj;refine hb.s dl (qw H a) [] H _ _ _ _ (_,R) z (λH' σ q hr V=>?_,λ_ _ _ _ V=>V.elim,λ_ _ _ _ V=>V.elim,λ_ _ _ _ _ _ _ _ _ V=>V.elim,λH' σ q F v t' F' r' rv _ _ _ V=>?_)
 ·let(F,r'):=hr;let(ks',e1,aP,V):=V;let(v',_,rp):=r'.g j _ _ e1 U;let(aT,G,U,eF,g1,g2):=rp.r.dpp;obtain rfl:=g2.im aP;rw[eF]at rp;exact fin ks' H' r'.f r'.d rp V
 let(U,ks',e1,aP,V):=V;let(U,_):=rv.r.non;let(v',_,rp):=r'.g j _ _ e1 U;let(aT,G,U,eF,g1,g2):=rp.r.dpp;obtain rfl:=g2.im aP;rw[eF]at rp;exact fin ks' H' r'.f r'.d rp V
section
variable{K:BT}{hs:List (V×T)}{σ:St}{F:Nat->Θ}
def Rel.Qc{i:Nat}{t t':T}{v:V}(r:Rel K dl bi hs H σ q F)(hi:q[i]?=Z (.o t))(hv:σ[i]?=Z (Z v))(hF:F i=[a])(ha:∃kvs,H a=Z (.dK kvs))(f:Frm dl (qw H a) H')(D:Dls dl H')(hr:Rp K dl H' v t' [a]):fT K dl bi hs H' σ (q.set i (.o t')):=by
 let(kvs,ha):=ha;have ne:∀{b:J}{o:HO},H b=Z o->(∀kv,o ≠ .dK kv)->b≠a:=λh n e=>by rw[e,ha]at h;exact n _ (Option.some.inj h).symm
 have cut:∀{b:J}{o:HO},H b=Z o->b≠a->qw H a b=Z o:=λh n=>by rw[qm n];exact h
 have tf:TF H H':=(λb vs h=>f.k b _ (cut h (ne h nofun)) (r.d.nd h nofun nofun) nofun,λb o u h=>f.k b _ (cut h (ne h nofun)) (r.d.nd h nofun nofun) nofun,
λb φ h=>f.k b _ (cut h (ne h nofun)) (r.d.nd h nofun nofun) nofun,λb xs h=>(by
  by_cases hn:Nd dl b
  ·exact(xs,f.k b _ (cut h (ne h nofun)) hn nofun)
  obtain⟨p,hp,z⟩:∃p∈dl,¬(b≠p.1/\b≠p.2):=Classical.byContradiction λc=>hn λp hp=>Classical.byContradiction λz=>c (p,hp,z);let(s,n,ls,Q):=r.d p hp;let(s',n',ls',Q'):=D p hp;have h1:=iI h Q.hd (λz=>nomatch z);have h2:=Classical.byContradiction λz'=>z (h1,z');exact(_,by rw[h2];exact Q'.hl)),λb x h=>f.r b x (cut h (ne h nofun)))
 have st:∀{w:V}{u:T}{Fw:Θ},Rp K dl H w u Fw->a ∉ Fw->Rp K dl H' w u Fw:=λ{w u Fw} h np =>
  (h.r.cJ tf (λ_ z=>z) λb hb o e=>f.k b o (cut e λz=>np (z▸hb)) (h.n b hb) (.of (h.r.there b hb) e),h.n)
 let(o1,o2,o3):=r.o i t hi;refine(F,D,λj x u h1 h2=>?_,λj x h1 h2=>?_,λj P=>r.z j (by rw[O4]at P;exact P),λj u h1=>?_,λp hp=>?_,(λb o h n nr=>?_,λb x h=>?_),by simp[r.l])
 ·obtain⟨rfl,rfl,_⟩|⟨ne',h1⟩:=get_set h1
  ·cases h2;exact(v,hv,by rw[hF];exact hr)
  let(w,h3,h4):=r.g j x u h1 h2;exact(w,h3,st h4 (o3 j ne' a (by rw[hF];exact iY)))
 ·obtain⟨rfl,rfl,_⟩|⟨ne',h1⟩:=get_set h1
  ·cases h2
  exact r.n j x h1 h2
 ·obtain⟨rfl,e,_⟩|⟨ne',h1⟩:=get_set h1
  ·exact(o1,o2,o3)
  exact r.o j u h1
 ·let(Fp,h1,h2):=r.h p hp;refine(Fp,st h1 (h2 i t hi a (by rw[hF];exact iY)),λj u P b hb z=>?_);obtain⟨rfl,e,_⟩|⟨ne',P⟩:=get_set P
  ·exact h2 j t hi b hb z
  exact h2 j u P b hb z
 ·have n0:b≠a:=λz=>by rw[z,o2 a (by rw[hF];exact iY)]at h;cases h
  exact f.k b o (cut (r.f.k b o h n nr) n0) n nr
 have n0:b≠a:=λz=>by rw[z,o2 a (by rw[hF];exact iY)]at h;cases h
 let(y,hy,e1):=r.f.r b x h;let(y',aN,e2):=f.r b y (cut e1 n0);exact(y',SQ aN hy,e2)
end
section
variable{X:Cx}{K:BT}{e a b o:Do}{es:List Do}{te tk tv:TE}{tl:TA}{qe qk qv:QE}{ql:QA}{pos p:Pos}{k:Nat}{f:J}{prs:Γ}{ps:PSp}{i:Nat}
structure Gg(X:Cx)(K:BT)(es:List Do)(tl:TA)(i j:Nat)(ql:QA):Prop where
 h:PA X es tl
 s:∀(dl:Dl)(H:Hp)(σ:St)(q:Sq)(v0:V)(Q:ώ->Prop)(R:Ω->Hp->Prop),RdR K dl H σ q->σ[i]?=Z (Z v0)->ql q Q ->
  (∀vs ts H',Evo dl H H'->vs.length=ts.length->vs[j]?=Z v0->(∀n v t,n≠j->vs[n]?=Z v->ts[n]?=Z t->Rp K dl H' v t [])->Q ts->R vs H')->tl σ H R
def aw.im1{vs:Ω}{ts:ώ}{F:Θ}(h:aw K dl H vs ts F)(g:T.ims ts=O):∀(n:Nat)(v:V)(t:T),vs[n]?=Z v->ts[n]?=Z t->aB K dl H v t []:=by obtain rfl:=h.im g;intro n v t h1 h2;let(z,G,q,r,s):=h.M0 h2;rw[h1]at q;cases q;rw[RD.mp s]at r;exact r
def dC(hx:PE X e (bN i))(hr:QPA X K es tl ql)(hs:‹AC X e es›):Gg X K (e::es) (c5 (bN i) tl) i 0 (λq Q=>ql q λts=>T.ims ts=O/\Q (.n::ts)):=
 (bM hx hr.h hs,λdl H σ q v0 Q R rd hv hq k=>(v0,hv,hr.s dl H σ q _ _ rd hq λvs ts F H1 V g l1 P=>k _ (.n::ts) H1 V (by simp[g.r.len]) U (λn v t ne h1 h2=>by
  cases n with
  |zero=>exact absurd U ne
  |succ n=>exact(g.r.im1 P.1 n v t (h1:) (h2:),nofun)) P.2))
def ja(he:QPE X K e te qe)(hr:Gg X K es tl i j ql)(hs:‹AC X e es›):Gg X K (e::es) (c5 te tl) i (j+1) (λq Q=>qe q λt=>t.im=O/\ql q λts=>Q (t::ts)):=
 (bM he.h hr.h hs,λdl H σ q v0 Q R rd hv hq k=>he.s dl H σ q _ _ rd hq λv t F H1 g P V=>hr.s dl H1 σ q v0 _ _ (rd.evo g) hv V.2 λvs ts H2 e2 l2 hj ho z=>by
  have r2:=P.evo g.d e2;obtain rfl:=P.r.im V.1;exact k (v::vs) (t::ts) H2 (g.trans e2) (by simp[l2]) (hj:) (λn w u ne h1 h2=>by
   cases n with
   |zero=>simp at h1 h2;subst h1 h2;exact r2
   |succ n=>exact ho n w u (λz=>ne (by rw[z])) (h1:) (h2:)) z)
def Kg(i j:Nat)(ps:PSp)(ql:QA):QS:=λD q=>onO q i λt=>match t with
 |.d ks=>T.imk ks=O/\∀a,ql q λts=>ps (ts.set j (.dp a ks)) λt=>match t with|.dp _ ks'=>D.nx (q.set i (.o (.d ks')))|_=>False
 |.dp a ks=>T.imk ks=O/\ql q λts=>ps (ts.set j (.dp a ks)) λt=>match t with|.dp _ ks'=>D.nx (q.set i (.o (.dp a ks')))|_=>False
 |_=>False
def D3(i:Nat)(qk qv:QE):QS:=λD q=>match q[i]? with
 |some (.o (.dp a xs))=>qv q λt=>qk q λu=>match u.key with|some k=>xs.length<p6/\T.imk xs=O/\t.im=O/\D.nx (q.set i (.o (.dp a (ml xs k t))))|none=>False
 |_=>False
def Rel.HC{hs:List (V×T)}{σ:St}{F:Nat->Θ}{i:Nat}{p:J}{ws:ό}{xs ys:Ϗ}(r:Rel K dl bi hs H σ q F)(hi:q[i]?=Z (.o (.dp p xs)))(hv:σ[i]?=Z (Z (.ref p)))(e:Evo dl H H')
  (rs:aR K dl H' ws ys []):fT K dl bi hs (upd H' p (.dK ws)) σ (q.set i (.o (.dp p ys))):=by
 have r':=r.evo e;let(v',Q,rp):=r'.g i _ _ hi U;rw[hv]at Q;let(aP,G2,e2,eF,h1,h2):=rp.r.dpp;have pn:=rp.n p (by rw[eF];exact iY);have P:aR K dl (upd H' p (.dK ws)) ws ys []:=rs.cJ (TF.dict h1) (λ_ z=>z) nofun;exact(_,r'.write hi hv (by rw[eF];exact iY) (λaN h=>by rw[h1]at h;cases h) (.dp au P,λb hb=>by rw[fy.mp hb];exact pn) ap λb hb=>by rw[fy.mp hb,eF];exact .inl iY)
def C9{i:Nat}(hk:iW K tk qk)(hv:iW K tv qv):jm K (Dt (bN i) tk tv) (D3 i qk qv):=λdl bi hs H σ q Dq D (F,r) hq E=>by
 unfold D3 at hq;split at hq
 ·rename_i p xs ei;refine hv dl H σ q _ _ r.rd hq λw t F1 H1 P r1 hq=>?_;let(v,z,rp):=(r.evo P).g i _ _ ei U;refine(v,z,hk dl H1 σ q _ _ (r.rd.evo P) hq λy u F2 H2 V r2 hq=>?_);split at hq
  ·rename_i k ek;let(hz,hm,ht,hq):=hq;obtain rfl:=r1.r.im ht;have Q:=rp.evo P.d V;let(vs,G,U,eF,h1,h2):=Q.r.dpp;obtain rfl:=h2.im hm;rw[r2.r.key ek];exact(p,_,U,vQ.k h1 (by rw[h2.len];exact hz),E.nx _ _ _ (r.HC ei z (P.trans V) (aR.put (r1.evo P.d V).r h2)) hq)
  exact hq.elim
 exact hq.elim
def HL{i:Nat}(q:X.A.units+1<cLine)(ho:PE X o (bN i))(g:QPE X K a tk qk)(hv:QPE X K b tv qv)(hs:‹swapsWith b (Z (.Subscript o a pos')) pos.line X.env=pure false›):
  QPS X K (.Assign [.Subscript o a pos'] b pos) (Dt (bN i) tk tv) (D3 i qk qv):=(ou q ho g.h hv.h hs,C9 g.s hv.s)
def Df(ha:Gg X K es tl i j ql):jm K (j9 (mY (spM K j ps) [] E0 tl)) (Kg i j ps ql):=λdl bi hs H σ q Dq D (F,r) hq E=>by
 have go:∀{a:J}{ks:Ϗ}{t:T} W (t1:Ϗ->T),q[i]?=Z (.o t)->σ[i]?=Z (Z (.ref a))->(∀{H:Hp}{G:Θ},aB K dl H (.ref a) t G->aB K dl H (.ref a) (.dp a ks) G)->F i=[a]->(∀{H:Hp}{ks':Ϗ},aB K dl H (.ref a) (.dp a ks') [a]->aB K dl H (.ref a) (t1 ks') [a]) ->
   (∀ks',W (.dp a ks')->Dq.nx (q.set i (.o (t1 ks'))))->(ql q λts=>ps (ts.set j (.dp a ks)) W)->j9 (mY (spM K j ps) [] E0 tl) D σ H:=by
  intro a ks t W t1 hi hv tr hF ba hW hq;refine ha.s dl H σ q (.ref a) _ _ r.rd hv hq λvs ts H1 e1 l1 hj ho hz=>?_;have r1:=r.evo e1;let(v',Q,P):=r1.g i _ _ hi U;rw[hv]at Q;cases Q;rw[hF]at P;rw[u3];have aP:j<ts.length:=by rw[<- l1];exact(mT.mp hj).1
  let(kvs,G,_,_,g1,_):=(tr P.r).dpp;exact(dl,ts.set j (.dp a ks),a,ks,W,r1.d,by simp[l1],hj,Ny aP,(tr P.r,P.n),λn v u ne h1 h2=>ho n v u ne h1 (by rwa [JT (λz=>ne z.symm)]at h2),hz,λks' H' f D' r' hw=>(E.nx _ _ _ (r1.Qc hi hv hF (_,g1) f D' (ba r'.r,r'.n)) (hW ks' hw)))
 replace hq:=onO.inv hq;let(t,V,hq):=hq;cases t with
 |d ks =>
  let(v,hv,P):=r.g i _ _ V U;let(a,vs,G,U,eF,h1,h2):=P.r.dic;obtain rfl:=h2.im hq.1;refine go _ (λks'=>.d ks') V hv (λ{H G} z=>?_) eF (λ{H ks'} z=>?_) (λks' z=>z) (hq.2 a)
  ·let(a',aN,G',e1,U,h3,h4):=z.dic;cases e1;exact .dp h3 h4
  let(aN,G',e1,e2,h3,h4):=z.dpp;rw[e2];exact .d h3 h4
 |dp a ks =>
  let(v,hv,P):=r.g i _ _ V U;let(vs,G,U,eF,h1,h2):=P.r.dpp;obtain rfl:=h2.im hq.1;exact go _ (λks'=>.dp a ks') V hv (λz=>z) eF (λz=>z) (λks' z=>z) hq.2
 |_=>exact hq.elim
theorem dB(F:aS X.prog X.w X.K X.mg X.base CX0 k f fd prs (spM K j ps))(hr:cn k X.A)(hg:Gl X x)(hm:X.mg x=Z (.ref f))(P:W.keepIn X.K (.ref f)=O)(Q:Binds X.K fd prs [])(z:Gg X K (e::es) tl i j ql)
  (q:autoParam (AS x) zdc._auto_1) (he:‹AC X e es›) (g:‹AM X pos es›) (hs:‹swapsWith (.Call (.Name x p) (e::es) [] pos) Y pos'.line X.env=pure false›):
  QPS X K (.Expr (.Call (.Name x p) (e::es) [] pos) pos') (j9 (mY (spM K j ps) [] E0 tl)) (Kg i j ps ql):=(oq (oB F hr hg hm P Q .nil wU z.h q he g) hs,Df z)
end
def T.dof:T->Option (Ϗ)
 |.d ks=>Z ks|.fd _ _ ks=>Z ks|.dp _ ks=>Z ks|_=>Y
variable{kvs:ό}{neg:Bool}{td:TE}
section
variable{X:Cx}{K:BT}{v:V}{F:Θ}{a b c e:Do}{ta tb tk tx te:TE}{qa qb qk qx qe:QE}{pos apos aN:Pos}
theorem aB.dof{t:T}{ks:Ϗ}(h:aB K dl H v t F)(e:t.dof=Z ks):∃a vs G,v=.ref a/\Rd H a (.dK vs)/\aR K dl H vs ks G/\∀b∈G,b∈F:=by
 cases t with
 |d ks' =>
  cases e;let(a,vs,G,U,U,h1,h2):=h.dic;exact(a,vs,G,U,.inl h1,h2,λ_ g=>mm _ g)
 |fd o vs ks' =>
  cases e;let(a,U,U,h1,h2):=h.QF;exact(a,vs,[],U,.inr (_,h1),h2,λ_ g=>g)
 |dp a ks' =>
  cases e;let(vs,G,U,U,h1,h2):=h.dpp;exact(a,vs,G,U,.inl h1,h2,λ_ g=>mm _ g)
 |_=>cases e
def gp.rd{a:J}{k:Key}(e:Rd H a (.dK kvs)):gp H a (kV k) (e9 kvs k):=.inl (kvs,k,e,U,U)
def Kh(neg:Bool):Q2:=λt u Q=>match u.dof with
 |some ks=>match t.key with|some k=>Q (.b (if neg then !(bK ks k).isSome else(bK ks k).isSome))|none=>False
 |none=>False
def v7:cb K (Ll neg) (Kh neg):=by
 intro dl H x y t u F G Q R D r1 V hq k;unfold Kh at hq;split at hq
 ·rename_i ks P;split at hq
  ·rename_i k0 ek;let(p,vs,G,U,h1,h2,_):=V.r.dof P;rw[r1.r.key ek];refine(p,_,U,gp.rd h1,k _ _ [] H (.refl D) (.c (.b _)) nofun px ?_);have e:(e9 vs k0).isSome=(bK ks k0).isSome:=by
    obtain⟨q,g⟩|⟨_,_,_,q,g,_⟩:=h2.look k0
    ·rw[q,g];rfl
    rw[q,g];rfl
   rw[e];exact hq
  exact hq.elim
 exact hq.elim
def D7:Q2:=λt u Q=>match t.dof with
 |some ks=>match u.key with|some k=>Ex2 (λx=>bK ks k=Z x) Q|none=>False
 |none=>False
inductive DF(x:V)(y:V)(H:Hp)(Q:VK):Prop
 |mk(a kvs k v:_)(h1:x=.ref a)(h2:y=kV k)(h3:Rd H a (.dK kvs))(h4:e9 kvs k=Z v)(h5:Q v H)
def Ff:IxR X DF:=by intro value slice gd s σ H x y v u Q I P K h hs;let(a,kvs,k,w,U,U,V,hv,q):=h;cases P;let(z,hd,vs,rel,dd):=ju I.hok V;let(w',hw,g):=jn.some_of (by rw[<- hv];exact rel.val k);exact subscriptTail_builtinR dd.typeIs PySem.F.slot_dict_getitem.lookup (wpAny_getItem_of (kK K) dd.mapOf hw (U,w,H,I.tok _,g,q)) hs
def Dg:Gf K DF D7:=by
 intro dl H x y t u F G Q R D r1 r2 hq k;unfold D7 at hq;split at hq
 ·rename_i ks P;split at hq
  ·rename_i k0 ek;let(z,g,hq):=hq;let(p,vs,G,U,h1,h2,sub):=r1.r.dof P;rw[r2.r.key ek];obtain⟨q,V⟩|⟨t',v,G',q,V,z3,z4⟩:=h2.look k0
   ·rw[q]at g;cases g
   rw[q]at g;cases g;exact(p,vs,k0,v,U,U,h1,V,k v _ G' H (.refl D) (Rp.sub z3 r1.n λb hb=>sub b (z4 b hb)) hq)
  exact hq.elim
 exact hq.elim
def gD(q:QPE X K a ta qa)(g:QPE X K b tb qb)(hs:lF b:=by intro _ _;rfl):QPE X K (.Subscript a b pos) (tOp DF ta tb) (qOp D7 qa qb):=(wR Ff q.h g.h hs,uc Dg q.s g.s)
def Oh(g qk qx:QE):QE:=λq Q=>g q λd=>match d.dof with
 |some ks=>qk q λu=>match u.key with|some k=>qx q λx=>Q ((bK ks k).getD x)|none=>False
 |none=>False
def Ac{d f:Do}{qd:QE}(hu:X.A.units+1<cLine)(hd:QPE X K d td qd)(hk:QPE X K e tk qk)(hx:QPE X K f tx qx)(m:M2 X d "get" apos e f aN:=by exact(U,U,U,U)):QPE X K (.Call (.Attribute d "get" apos) [e,f] [] aN) (C0 td tk tx) (Oh qd qk qx):=
 (Ez hu hd.h hk.h hx.h m,λdl H σ q Q R rd hq k=>hd.s dl H σ q _ _ rd hq λv t F H1 V r1 hq=>by
  split at hq
  ·rename_i ks g;let(p,vs,G,U,h1,h2,sub):=r1.r.dof g;refine(p,U,.inl (vs,h1),hk.s dl H1 σ q _ _ (rd.evo V) hq λy u F2 H2 P r2 hq=>?_);split at hq
   ·rename_i k0 ek;refine hx.s dl H2 σ q _ _ ((rd.evo V).evo P) hq λz w F3 H3 e3 r3 hq=>?_;have rp:=(r1.evo V.d P).evo P.d e3;let(p',a0,G',e',aT,aP,Hc):=rp.r.dof g;cases e';rw[r2.r.key ek];refine(_,gp.rd aT,?_);obtain⟨z1,z2⟩|⟨t,v,G2,z1,z2,z3,z4⟩:=aP.look k0
    ·rw[z2];rw[z1]at hq;exact k _ _ F3 H3 ((V.trans P).trans e3) r3 hq
    rw[z2];rw[z1]at hq;exact k _ _ G2 H3 ((V.trans P).trans e3) (Rp.sub z3 rp.n λb hb=>Hc b (z4 b hb)) hq
   exact hq.elim
  exact hq.elim)
inductive sF(xs:Ω)(H:Hp)(Q:VK):Prop
 |mk(p:J)(kvs:ό)(h1:xs=[.ref p])(h2:Rd H p (.dK kvs))(h3:∀d,H d=Y->Q (.ref d) (upd H d (.dK kvs)))
theorem qS:cY X (.type "dict") sF:=by
 intro gd s σ H xs us Q I r h;let(p,kvs,U,hp,q):=h;let(u,U,ru):=vals1 r;cases ru;let(z,aN,vs,kv,dd):=ju I.hok hp;refine callType_codes (Q₁:=λobj g=>obj=.ref s.heap.objs.size/\g={s with heap:=s.heap.push {cls:=.type "dict",data:=.dict #[]}}) F.kt_called_dict (F.kt_typeCall_dict_1 _) F.entry_dict_init (kt_code_dict_new _ (U,U)) ?_;rintro obj g ⟨rfl,rfl⟩;have P:(s.heap.push {cls:=.type "dict",data:=.dict #[]}).DictOf (bp X.prog X.w) s.heap.objs.size []:=Heap.DictOf.new s.heap;have aT:p<s.heap.objs.size:=by let(o,_,_,e,_):=dd;exact rg e
 have dd':(s.heap.push {cls:=.type "dict",data:=.dict #[]}).DictOf (bp X.prog X.w) p vs:=by let(o,es,ep,e,r):=dd;exact(o,es,ep,jo _ e,r)
 have V:(vs.map (·.1)).Nodup:=by let(o,es,ep,_,_,_,_,_,n):=dd;exact n
 have a3:=Paired.length kv;refine(P.typeIs,F.args_dict_init_2 _ _,?_);refine gV ?_;refine gV (wpAny_notOrdered_dict P.typeIs ?_);refine sr ?_;refine gV (RF dd'.typeIs (gV (gV (gV (Se dd'.typeIs isSubtype_dict_dict (gV (Sm dd'.typeIs F.slot_dict_iter.lookup (sr (wpAny_mergeDict (Rl aT) aN P dd' λh' K a0 aP=>?_)))))))));rw[merged_nil_of_nodup _ V]at K;refine gV (sr (sr (U,.ref s.heap.objs.size,_,I.laid (λb u e=>?_) (oQ _) (vy z ?_ kv K),U,q _ (I.hok.fresh (oQ _)))))
 ·rw[aP.2 b (x8 (rg e))];exact jo _ e
 have:=I.big;exact beq_eq_false_iff_ne.mpr (Rl this)
def sH:QC:=λts Q=>match ts with
 |[t]=>match t.dof with|some ks=>T.imk ks=O/\Q (.d ks)|none=>False
 |_=>False
def uf:so K sF sH:=by
 intro dl H vs ts F Q R D r hq k;unfold sH at hq;split at hq
 ·split at hq
  ·rename_i ks q;let(v,U,P):=r.one;let(p,kvs,G,U,h1,h2,sub):=P.r.dof q;obtain rfl:=h2.im hq.1;refine(p,kvs,U,h1,λd hd=>?_);have ev:Evo dl H (upd H d (.dK kvs)):=(Evo.refl D).new hd;exact k _ _ [d] _ ev (.d au (h2.cJ (ev.tf D) (λ_ z=>z) nofun),λb g=>by rw[fy.mp g];exact D.nd0 hd) (λb g=>by rw[fy.mp g];exact hd) ap hq.2
  exact hq.elim
 exact hq.elim
def J6(te:TE):TE:=λσ H Q=>te σ H λv H1=>∃a kvs,v=.ref a/\H1 a=Z (.dK kvs)/\∀o,Q v (upd H1 a (.frz o (.dK kvs)))
def Io(he:PE X e te):PE X e (J6 te):=by left;refine thn (he gd s σ H _ I h) λu s' g=>?_;let(v,H',P,r,a,kvs,V,z,q):=g;let(_,o,K):=P.freeze z;exact(v,_,K,r,q o)
def Oi(qe:QE):QE:=λq Q=>qe q λt=>match t with|.d ks=>T.imk ks=O/\∀o vs,Q (.fd o vs ks)|_=>False
def TF.Pf{p:J}{kv:ό}{o:Obj}{u:HO}(hp:H p=Z (.dK kv)):TF H (upd H p (.frz o u)):=
 have ne:∀{a:J}{o:HO},H a=Z o->(∀kv,o ≠ .dK kv)->a≠p:=λh n e=>by rw[e,hp]at h;exact n _ (Option.some.inj h).symm
 (λa vs h=>by rw[ak (ne h nofun)];exact h,λa o u h=>by rw[ak (ne h nofun)];exact h,λa φ h=>by rw[ak (ne h nofun)];exact h,λa xs h=>(xs,by rw[ak (ne h nofun)];exact h),λa x h=>(x,NC _,by rw[ak (ne h nofun)];exact h))
def Ad(he:QPF X K e te qe):QPF X K e (J6 te) (Oi qe):=(Io he.h,λdl H σ q Q R rd hq k=>he.s dl H σ q _ _ rd hq λv t F H1 V P f1 n1 g=>by
 split at g
 ·rename_i ks;let(p,vs,G,U,U,h1,h2):=P.r.dic;obtain rfl:=h2.im g.1;exact(p,vs,U,h1,λo=>k _ (.fd o vs ks) [] _ (V.fresh (f1 p iY) (P.n p iY)) (.fd au (h2.cJ (TF.Pf h1) (λ_ z=>z) nofun),nofun) nofun px (g.2 o vs))
 exact g.elim)
end
section
variable{X:Cx}{K:BT}{st:Ev}{t:TS}{qt:QS}
inductive CY(i:Nat)(t:TS)(D:Ends)(σ:St)(H:Hp):Prop
 |mk(a kvs:_)(h1:σ[i]?=Z (Z (.ref a)))(h2:H a=Z (.dK kvs))(h3:∀o,t D σ (upd H a (.frz o (.dK kvs))))
def LL{i:Nat}(h:PS X st t):PS X st (CY i t):=by intro gd s σ H D I z;let(a,kvs,_,g,k):=z;let(_,o,q):=I.freeze g;exact h gd s σ _ D q (k o)
def D8(i:Nat)(qt:QS):QS:=λD q=>match q[i]? with|some (.o (.d ks))=>T.imk ks=O/\∀o vs,qt D (q.set i (.o (.fd o vs ks)))|_=>False
theorem Rel.frz{hs:List (V×T)}{σ:St}{F:Nat->Θ}{i:Nat}{vs:ό}{ks:Ϗ}{o:Obj}(r:Rel K dl bi hs H σ q F)(ei:q[i]?=Z (.o (.d ks)))(hv:σ[i]?=Z (Z (.ref a)))(eF:F i=[a])(rp:Rp K dl H (.ref a) (.d ks) (F i))(h1:H a=Z (.dK vs))(h2:aR K dl H vs ks []):fT K dl bi hs (upd H a (.frz o (.dK vs))) σ (q.set i (.o (.fd o vs ks))):=by
 refine(Bs F i [],?_);have tf:=TF.Pf (o:=o) (u:=.dK vs) h1;have na:=rp.n a (by rw[eF];exact iY);let(o1,o2,o3):=r.o i _ ei;have st:∀{w:V}{u:T}{Fw:Θ},Rp K dl H w u Fw->a ∉ Fw->Rp K dl (upd H a (.frz o (.dK vs))) w u Fw:=λ{w u Fw} h np =>
  (h.r.cJ tf (λ_ z=>z) λb P ob e=>(by have n0:b≠a:=λz=>np (by rw[<- z];exact P);rw[ak n0];exact e),h.n)
 refine(λd hd=>(r.d d hd).oth (na d hd).1 (na d hd).2,λj x u h3 h4=>?_,λj x h3 h4=>?_,λj Q=>?_,λj u h3=>?_,λp hp=>?_,(λb ob P nb nr=>?_,λb x P=>?_),by simp[r.l])
 ·obtain⟨rfl,rfl,_⟩|⟨ne,h3⟩:=get_set h3
  ·cases h4;exact(_,hv,by rw[bh];exact(.fd au (h2.cJ tf (λ_ z=>z) nofun),nofun))
  let(w,h5,h6):=r.g j x u h3 h4;exact(w,h5,by rw[aV ne];exact st h6 (o3 j ne a (by rw[eF];exact iY)))
 ·obtain⟨rfl,rfl,_⟩|⟨ne,h3⟩:=get_set h3
  ·cases h4
  rw[aV ne];exact r.n j x h3 h4
 ·rw[O4]at Q;by_cases e:j=i
  ·rw[e,bh]
  rw[aV e];exact r.z j Q
 ·obtain⟨rfl,e,_⟩|⟨ne,h3⟩:=get_set h3
  ·rw[bh];exact(px,λ_ z=>absurd z ya,λ_ _ _ z=>absurd z ya)
  rw[aV ne];let(p1,p2,p3):=r.o j u h3;refine(p1,p2,λk hk b P=>?_);by_cases ek:k=i
  ·rw[ek,bh];exact ya
  rw[aV ek];exact p3 k hk b P
 ·let(Fp,h3,h4):=r.h p hp;refine(Fp,st h3 (h4 i _ ei a (by rw[eF];exact iY)),λj u Q b P z=>?_);obtain⟨rfl,e,_⟩|⟨ne,Q⟩:=get_set Q
  ·rw[bh]at P;cases P
  rw[aV ne]at P;exact h4 j u Q b P z
 ·have n0:b≠a:=λz=>by rw[z,o2 a (by rw[eF];exact iY)]at P;cases P
  rw[ak n0];exact r.f.k b ob P nb nr
 have n0:b≠a:=λz=>by rw[z,o2 a (by rw[eF];exact iY)]at P;cases P
 rw[ak n0];exact r.f.r b x P
def Di{i:Nat}(h:jm K t qt):jm K (CY i t) (D8 i qt):=λdl bi hs H σ q Dq D (F,r) hq E=>by
 unfold D8 at hq;split at hq
 ·rename_i ks P;let(v,hv,z):=r.g i _ _ P U;let(a,vs,G,U,Q,h1,h2):=z.r.dic;obtain rfl:=h2.im hq.1;exact(a,vs,hv,h1,λo=>h dl bi hs _ σ _ Dq D (r.frz P hv Q z h1 h2) (hq.2 o vs) E)
 exact hq.elim
def yO{i:Nat}(h:QPS X K st t qt):QPS X K st (CY i t) (D8 i qt):=(LL h.h,Di h.s)
end
section
variable{X:Cx}{σ:St}{s:ϋ}{u1 u2 v1 v2:HO}{C:J}{fs:List (Str×V)}
def Inv.Dv(I:Inv X gd σ H s)(ne:d≠a)(V:H a=Z v1)(hd:H d=Z v2)(t1:∀xs,v1 ≠ .tup xs)(t2:∀xs,v2 ≠ .tup xs)(b1:∀ps,v1 ≠ .tbl ps)(b2:∀ps,v2 ≠ .tbl ps)(z1:∀o v,v1 ≠ .frz o v)(z2:∀o v,v2 ≠ .frz o v)(w1:∀c,v1 ≠ .own c)(w2:∀c,v2=.own c->c=a)
  (Qa:bZ X.prog X.w (upd (upd H a u1) d u2) s.heap a u1) (P9:bZ X.prog X.w (upd (upd H a u1) d u2) s.heap d u2):Inv X gd σ (upd (upd H a u1) d u2) s:=by
 have g:∀{b:J}{o:HO},H b=Z o->o≠v1->b≠a:=λe n z=>by rw[z,V]at e;exact n (Option.some.inj e).symm
 have K:∀{b:J}{o:HO},H b=Z o->o≠v2->b≠d:=λe n z=>by rw[z,hd]at e;exact n (Option.some.inj e).symm
 have n0:∀{b:J},H b=Y->b≠a/\b≠d:=λ{b} e=>(λz=>(by rw[z,V]at e;cases e),λz=>(by rw[z,hd]at e;cases e));have st:∀{b:J},b≠a->b≠d->upd (upd H a u1) d u2 b=H b:=λh1 h2=>by rw[ak h2,ak h1]
 refine(I.ok,I.os,I.bare,(I.base.keep,I.base.slot,λb o e n hx=>?_,I.base.there,λb xs e=>?_,λb o v e=>?_,λb ps e=>?_),I.loc,I.cell,?_,λx c e=>?_,λp hp=>?_,λb o e=>?_,I.len)
 ·have:=I.base.free b o e n hx;rw[st (n0 this).1 (n0 this).2];exact this
 ·have:=I.base.lQ b xs e;rw[st (g this λz=>t1 _ z.symm) (K this λz=>t2 _ z.symm)];exact this
 ·have:=I.base.iO b o v e;rw[st (g this λz=>z1 _ _ z.symm) (K this λz=>z2 _ _ z.symm)];exact this
 ·let(more,this):=I.base.lT b ps e;refine(more,?_);rw[st (g this λz=>b1 _ z.symm) (K this λz=>b2 _ z.symm)];exact this
 ·rw[st (n0 I.free).1 (n0 I.free).2];exact I.free
 ·rw[st (n0 (I.df x c e)).1 (n0 (I.df x c e)).2];exact I.df x c e
 ·let(p1,p2,p3):=I.pin p hp;exact(p1,by rw[st (n0 p2).1 (n0 p2).2];exact p2,p3)
 by_cases P:b=d
 ·subst P;rw[au]at e;cases e;exact P9
 by_cases Q:b=a
 ·subst Q;rw[ak P,au]at e;cases e;exact Qa
 rw[st Q P]at e;refine(I.hok b o e).cJ (λ_ _ _ q=>q) (λc q=>?_) λc xs q=>?_
 ·rw[st (g q λz=>w1 _ z.symm) (λz=>by rw[z,hd]at q;exact Q (w2 b (Option.some.inj q)))];exact q
 rw[st (g q λz=>t1 _ z.symm) (K q λz=>t2 _ z.symm)];exact q
def Inv.NL(I:Inv X gd σ H s)(g:H a=Z (.ins C d fs)):d≠a/\fs.length<=1000/\H d=Z (.own a)/\Inv X gd σ (upd (upd H a (.ext (vL a C d))) d (.ext (XD d fs))) s:=by
 let(hd,hl,ne,e,mA,n,r,w):=(I.hok a _ g);exact(ne,hl,hd,I.Dv ne g hd nofun nofun nofun nofun (λ_ _ z=>nomatch z) (λ_ _ z=>nomatch z) nofun (λc z=>by cases z;rfl)
(e,(_,e),λh1 h2 p k=>k _ p) (XD.ok (mA,n,r,w)))
def Inv.P1(I:Inv X gd σ H s)(ne:d≠a)(hl:fs.length<=1000)(g:H a=Z (.ext (vL a C d)))(hd:H d=Z (.ext (XD d fs))):Inv X gd σ (upd (upd H a (.ins C d fs)) d (.own a)) s:=by have e:=(I.hok a _ g).1;let(mA,n,r,w):=(I.hok d _ hd).1;refine I.Dv ne g hd nofun nofun nofun nofun (λ_ _ z=>nomatch z) (λ_ _ z=>nomatch z) nofun (λc z=>nomatch z) (au,hl,ne,e,mA,n,r,w) ?_;let(o,_,_,q,_):=n;exact(o,q)
end
variable{C:J}{prs:Γ}
section
variable{X:Cx}{K:BT}{e:Do}{es:List Do}{te:TE}{qe:QE}{tl:TA}{ql:QA}{pos p:Pos}{f:Str}
def J8(K:BT)(ta:TE)(f:Str):TE:=λσ H Q=>ta σ H λx H1=>∃a C fs v,x=.ref a/\ObH H1 a C fs/\fs.length<=1000/\Cls K C/\cc K C f/\fs.lookup f=Z v/\Q v H1
def Iq(he:PE X e te)(hb:attributeBase e f X.env (eval e X.env)=eval e X.env):PE X (.Attribute e f pos) (J8 X.K te f):=by
 left;refine JG hb (thn (he gd s σ H _ I h) λu s1 z=>?_);let(x,H1,I1,rx,a,C,fs,v,ex,(dx,ne,h1,h2),hl,c,n,l,q):=z;subst ex;obtain rfl:=rx;refine zB (I1.P1 ne hl h1 h2) (by rw[ak ne.symm,au]) c n l λu' s2 I2 ru=>(v,H1,?_,ru,q);let(_,_,_,V):=I2.NL (by rw[ak ne.symm,au]);have e:upd (upd (upd (upd H1 a (.ins C dx fs)) dx (.own a)) a (.ext (vL a C dx))) dx (.ext (XD dx fs))=H1:=by
  funext b;by_cases g:b=dx
  ·rw[g,au,h2]
  by_cases P:b=a
  ·rw[ak g,P,au,h1]
  rw[ak g,ak P,ak g,ak P]
 rw[e]at V;exact V
def Ol(C:J)(f:Str)(qe:QE):QE:=λq Q=>qe q λt=>match t with|.ob C' ns ts=>C'=C/\ns.length<=1000/\Ex2 (λx=>(ns.zip ts).lookup f=Z x) Q|_=>False
def gE(hc:Cls K C)(hn:cc K C f)(he:QPE X K e te qe)(z:‹attributeBase e f X.env (eval e X.env)=eval e X.env›)(hK:‹X.K=K›):QPE X K (.Attribute e f pos) (J8 K te f) (Ol C f qe):=(by subst hK;exact Iq he.h z,λdl H σ q Q R rd hq k=>he.s dl H σ q _ _ rd hq λv t F H1 e1 V g=>by
 split at g
 ·let(U,hl,x,hx,g):=g;let(a,vs,U,U,ho,rs):=V.r.obj;let(w,G,e2,P,s2):=rs.lookup hx;refine(a,_,_,w,U,ho,?_,hc,hn,e2,k _ _ G H1 e1 (P,λb z=>nomatch s2 b z) g);rw[QL];exact vN (Nat.min_le_left _ _) hl
 exact g.elim)
inductive ua(C:J)(ns:Γ)(vs:Ω)(H:Hp)(Q:VK)(_:XK):Prop
 |mk(x dx args:_)(h1:vs=.ref x::args)(h2:args.length=ns.length)(h3:H x=Z (.ins C dx []))(h4:Q .non (upd H x (.ins C dx (ns.zip args))))
def CW(C:J)(ns:Γ)(t:TA):TE:=λσ H Q=>t σ H λvs H1=>vs.length=ns.length/\∀x dx,H1 x=Y->H1 dx=Y->dx≠x->Q (.ref x) (upd (upd H1 x (.ext (vL x C dx))) dx (.ext (XD dx (ns.zip vs))))
theorem Ew{g:J}{k:Nat}(M:Mk X.K C g)(G:aS X.prog X.w X.K X.mg X.base CX0 k g fd prs (ua C ns))(hr:cn (k+1) X.A)(hg:Gl X x)(hm:X.mg x=Z (.ref C))(hb:Binds X.K fd prs [])(ha:PA X (e::es) tl)
  (aN:autoParam (AS x) zdc._auto_1) (he:‹AC X e es›) (V:‹AM X pos es›):
  PE X (.Call (.Name x p) (e::es) [] pos) (CW C ns tl):=by
 left;refine KY (kI I hg hm (W.callWith_K I.ok.mod.kin M.kp (thn (ha pos gd s σ H _ I h) λus s1 (vs,H1,I1,r,q)=>(I1.kIn,(thn (Du (Q:=λv H2=>∃a dx fs,v=.ref a/\H2 a=Z (.ins C dx fs)/\Q v (upd (upd H2 a (.ext (vL a C dx))) dx (.ext (XD dx fs)))) M G hr hb .nil wU I1 r λx dx hx hd ne=>(x,dx,vs,ap,q.1,au,U,x,dx,ns.zip vs,U,au,?_)) λu s' (v,H',I',rv,a,dx,fs,e1,e2,qq)=>?_))) he V) aN)
 ·have e:upd (upd (upd (upd (upd H1 dx (.own x)) x (.ins C dx [])) x (.ins C dx (ns.zip vs))) x (.ext (vL x C dx))) dx (.ext (XD dx (ns.zip vs)))=upd (upd H1 x (.ext (vL x C dx))) dx (.ext (XD dx (ns.zip vs))):=by
   funext b;by_cases z:b=dx
   ·rw[z,au,au]
   by_cases P:b=x
   ·rw[ak z,ak z,P,au,au]
   rw[ak z,ak P,ak P,ak P,ak z,ak z,ak P]
  rw[e];exact q.2 x dx hx hd ne
 let(_,_,_,I2):=I'.NL e2;exact(v,_,I2,rv,qq)
def Ly(C:J)(ns:Γ)(ql:QA):QE:=λq Q=>ql q λts=>T.ims ts=O/\ts.length=ns.length/\Q (.ob C ns ts)
def ko{g:J}{k:Nat}(hK:X.K=K)(M:Mk K C g)(G:aS X.prog X.w X.K X.mg X.base CX0 k g fd prs (ua C ns))(hr:cn (k+1) X.A)(hg:Gl X x)(hm:X.mg x=Z (.ref C))(hb:Binds X.K fd prs [])(ha:QPA X K (e::es) tl ql)
  (aN:autoParam (AS x) zdc._auto_1) (he:‹AC X e es›) (V:‹AM X pos es›):
  QPF X K (.Call (.Name x p) (e::es) [] pos) (CW C ns tl) (Ly C ns ql):=by
 subst hK;refine(Ew M G hr hg hm hb ha.h aN he V,λdl H σ q Q R rd hq k=>ha.s dl H σ q _ _ rd hq λvs ts F H1 e1 P _ hz=>?_);let(z1,z2,z3):=hz;obtain rfl:=P.r.im z1;refine(P.r.len.trans z2,λx dx hx hd ne=>?_);have ev:Evo dl H1 (upd (upd H1 x (.ext (vL x C dx))) dx (.ext (XD dx (ns.zip vs)))):=((Evo.refl e1.d).new hx).new (by rw[ak ne];exact hd);have r2:=P.evo e1.d ev;exact k _ _ [] _ (e1.trans ev) (.ob (dx,ne,by rw[ak ne.symm,au],au) r2.r,nofun) nofun px z3
end
variable{tg:Do}{e:Do}{g:Tg}{b:Do}{tl:TA}{ql:QA}
section
variable{X:Cx}{K:BT}
inductive DA(K:BT)(x:V)(y:V)(H:Hp)(Q:VK):Prop
 |mk(p q vs:_)(h1:x=.ref p)(h2:y=.ref q)(h3:SqL K H p vs)(h4:SqL K H q [])(h5:Q (.bl (!vs.isEmpty)) H)
def pW(hu:X.A.units+1<cLine)(hK:X.K=K):OpR X (compareOp .NotEq) (DA K):=by
 subst hK;intro gd s σ H x y v u Q I V P h;let(p,q,vs,U,U,h1,h2,k):=h;cases V;cases P;let(its,r1,p1,_):=I.list h1;let(z,g,p2,_):=I.list h2;have l1:=r1.length;have l2:=g.length;have e2:z.length=0:=l2.symm;by_cases hl:its.length=z.length
 ·refine SeqAt.RcNeAt.lists (e:=λ_=>O) p1.isList p2.isList (hl:) bd (λj g1 g2=>?_) X.prog X.w X.xe _ (.bl _,H,I,U,?_)
  ·let(a,ea,ra):=g.at' g2;simp at ea
  have e:vs=[]:=NA.mp bd;subst e;have e3:its.toArray.size=0:=by simp;exact NA.mp bd
  rw[e3];exact k
 refine SeqAt.RcNeAt.lists_lengths p1.isList p2.isList (hl:) bd X.prog X.w X.xe _ (.bl _,H,I,U,?_);cases vs with|nil=>exact absurd l1.symm (by rw[<- l2]at hl;exact hl)|cons _ _=>exact k
def yT:Q2:=λt u Q=>match t,u with|.l xs,.l []=>Q (.b (!xs.isEmpty))|_,_=>False
def lZ:cb K (DA K) yT:=by
 intro dl H x y t u F G Q R D P q hq k;unfold yT at hq;cases t with
 |l xs =>
  cases u with
  |l ys =>
   cases ys with
   |nil =>
    let(p,vs,G1,U,U,h1,h2):=P.r.lst;let(V,g,G2,U,U,h3,h4):=q.r.lst;cases h4;refine(p,V,vs,U,U,SqL.of h1,SqL.of h3,k _ _ [] H (.refl D) (.c (.b _)) nofun px ?_);have e:vs.isEmpty=xs.isEmpty:=by have:=h2.len;cases vs <;> cases xs <;> simp at this ⊢
    rw[e];exact hq
   |cons _ _=>exact hq.elim
  |_=>exact hq.elim
 |_=>exact hq.elim
def Ox{w1 w2:TI}(h1:PI X tg e w1)(h2:PI X tg e w2):PI X tg e (λσ H R=>w1 σ H R\/w2 σ H R):=by
 intro gd s σ H R I h;obtain h|h:=h
 ·exact h1 gd s σ H R I h
 exact h2 gd s σ H R I h
def asP(i:Nat):QJ:=λq Q=>match q[i]? with|some (.r (.l xs))=>Q xs q|some (.r (.t xs))=>Q xs q|_=>False
def Lq{i:Nat}(h:PE X e (bN i))(hK:‹X.K=K›):QPJ X K tg e (λσ H R=>xw K (bN i) σ H R\/Fm K (bN i) σ H R) (asP i):=(Ox (pR hK h) (uO hK h),λdl bi hs H σ q Q R (F0,r0) hq k=>by
 have hold:∀{t:T}{v:V},q[i]?=Z (.r t)->Rp K dl H v t (F0 i)->Rel K dl bi ((v,t)::hs) H σ q F0:=λ{t v} e r=>r0.hold r λj u hj b hb=>by
  have ne:i≠j:=λz=>by rw[z,hj]at e;cases e
  exact(r0.o j u hj).2.2 i ne b hb
 unfold asP at hq;split at hq
 ·rename_i xs P;let(v,hv,r):=r0.g i _ _ P U;have r1:=hold P r;let(p,vs,G,U,_,h1,h2):=r.r.lst;exact .inl (_,hv,p,U,(vs,SqL.of h1),k _ _ _ H q (F0,r1) vd hq)
 ·rename_i xs P;let(v,hv,r):=r0.g i _ _ P U;have r1:=hold P r;let(p,vs,U,h1,h2):=r.r.tup;exact .inr (_,hv,p,U,(vs,SqT.of h1),k _ _ _ H q (F0,r1) zu hq)
 exact hq.elim)
def DW(g:Tg)(i:Nat):QS:=λD q=>match q[i]? with|some (.r t)=>Ex2 (λq'=>g.put t q=Z q') D.nx|_=>False
def C6{i:Nat}:jm K (fV (bN i) (g.h K)) (DW g i):=λdl bi hs H σ q Dq D (F,r) hq E=>by
 unfold DW at hq;split at hq
 ·rename_i t Q;let(q',P,hz):=hq;let(v,hv,rp):=r.g i _ _ Q U;exact(v,hv,yL r rp (λj u V b hb=>(r.o j u V).2.2 i (λz=>by rw[z,V]at Q;cases Q) b hb) P λaN r'=>E.nx _ _ _ r' hz)
 exact hq.elim
def uz{i:Nat}{pos:Pos}(he:PE X e (bN i))(hg:PG X tg (g.h K))(hs:‹swapsWithSole [tg] e pos.line X.env=pure false›)(hw:‹swappedStores [tg] e X.env=pure none›)
  (h1:‹(assignEach [tg] X.env).map (·.2)=[assign tg X.env]›):QPS X K (.Assign [tg] e pos) (fV (bN i) (g.h K)) (DW g i):=(uG he hg hs hw h1,C6)
def qF{xs:ώ}:q9 K dl (Ite K ϊ a) (g7 xs) [(.ref a,.l xs)] where
 go:=λH i D h hi=>by
  let(F,r):=h (.ref a,.l xs) ap;let(p,vs,G,e,_,h1,h2):=r.r.lst;cases e;rw[b9]at hi;have l1:i<vs.length:=by rw[h2.len];omega
  exact(vs,vs[i],SqL.of h1,by simp[l1])
 yld:=λH i x fp v H' D h hx y=>by
  have r:=h (.ref a,.l xs) ap;let(p,vs,G,e,eF,h1,h2):=r.r.lst;cases e;let(x1,V,U):=eZ hx;let(w1,G1,aN,Q,aP):=h2.get V;let(q,u1,hq,U,U,P):=y;have e1:=P vs (SqL.of h1);rw[aN]at e1;cases e1;have sub:∀b∈G1,b∈fp (.ref a,.l xs):=λb g=>by rw[eF];exact mm _ (aP b g)
  have rs:Rps K dl H [.int (i),w1] [.i (i),x1] ([]++(G1++[])):=Rps.cons (.i _,nofun) (Rps.cons (Q,λb g=>r.n b (sub b g)) (.nil,nofun));refine((Evo.refl D).new hq,_,rs.tup D hq,λc g=>.inr ?_);rw[u3]at g;exact(_,ap,sub c g)
 stop:=λH D h=>by
  let(F,r):=h (.ref a,.l xs) ap;let(p,vs,G,e,_,h1,h2):=r.r.lst;cases e;exact(vs,SqL.of h1,by rw[b9,h2.len];exact oQ _)
def KD(i:Nat):QJ:=λq Q=>match q[i]? with|some (.o (.l xs))=>Q (g7 xs) (q.set i (.r (.l xs)))|some (.r (.l xs))=>Q (g7 xs) q|_=>False
def DO{a:Do}{x1}{pos p:Pos}{i:Nat}(hg:Gl X "enumerate")(hm:X.mg "enumerate"=Y)(cL:bootBuiltins "enumerate"=Z (.type "enumerate"))(h:PE X a (bN i))(hs:‹AD X a›)(aN:‹AC X a []›)(hK:‹X.K=K›):
  QPJ X K (.Tuple elts x1 pos') (.Call (.Name "enumerate" p) [a] [] pos) (sQ K ϊ (c5 (bN i) lU)) (KD i):=(kA hK hg hm cL (bM h fO aN) hs,λdl bi hs H σ q Q R (F0,V) hq k=>by
 unfold KD at hq;split at hq
 ·rename_i xs e1;let(v,hv,r):=V.g i _ _ e1 U;have r1:=(V.down e1).hold r λj u P b hb=>by
   obtain⟨_,z,_⟩|⟨ne,P⟩:=get_set P
   ·cases z
   exact(V.o j u P).2.2 i (λz=>ne z.symm) b hb
  let(p,vs,G,U,_,h1,h2):=r.r.lst;exact(_,hv,p,U,(vs,SqL.of h1),k _ _ _ H _ (F0,r1) qF hq)
 ·rename_i xs e1;let(v,hv,r):=V.g i _ _ e1 U;have r1:=V.hold r λj u P b hb=>(V.o j u P).2.2 i (λz=>by subst z;rw[e1]at P;cases P) b hb;let(p,vs,G,U,_,h1,h2):=r.r.lst;exact(_,hv,p,U,(vs,SqL.of h1),k _ _ _ H _ (F0,r1) qF hq)
 exact hq.elim)
def QQ(ql:QA):QJ:=λq Q=>ql q λts=>match ts with|[.t xs,.t ys]=>T.ims xs=O/\T.ims ys=O/\Q (lO xs ys) q|_=>False
def DN{a:Do}{pos p:Pos}{x1}(hg:Gl X "zip")(hm:X.mg "zip"=Y)(cL:bootBuiltins "zip"=Z (.type "zip"))(ha:QPA X K [a,b] tl ql)(hs:‹nY [a,b] X.env=[(ϊ,eval a X.env),(ϊ,eval b X.env)]›)(aN:‹AD X b›)(hK:‹X.K=K›):
  QPJ X K (.Tuple elts x1 pos') (.Call (.Name "zip" p) [a,b] [] pos) (Fl K O O tl) (QQ ql):=(uM hK hg hm cL ha.h hs aN,λdl bi hs H σ q Q R (F0,r0) hq k=>ha.s dl H σ q _ _ r0.rd hq λvs ts F H' e1 r _ g=>by
 split at g
 ·let(i1,i2,g):=g;let(v,w,F1,F2,U,r1,r2):=r.two;obtain rfl:=r1.r.im (t:=.t _) i1;obtain rfl:=r2.r.im (t:=.t _) i2;have q1:=((r0.evo e1).hold r2 λj u hj b hb z=>nomatch z).hold r1 λj u hj b hb z=>nomatch z;let(l1,V,U,h1,h2):=r1.r.tup;let(l2,P,U,h3,h4):=r2.r.tup;exact(l1,l2,U,(V,SqT.of h1),(P,SqT.of h3),k _ _ _ H' q (F0,q1) Fg g)
 exact g.elim)
def ID:OpR X (compareOp .IsNot) (λx y H Q=>∃c d,x=.bl c/\y=.bl d/\Q (.bl (c != d)) H):=by intro gd s σ H x y v u Q I z g h;let(c,d,U,U,q):=h;cases z;cases g;exact isnot_bool (.bl _,H,I,U,q)
def Kf:Q2:=λt u Q=>match t,u with|.b c,.b d=>Q (.b (c != d))|_,_=>False
def De:cb K (λx y H Q=>∃c d,x=.bl c/\y=.bl d/\Q (.bl (c != d)) H) Kf:=by
 intro dl H x y t u F G Q R D q g hq k;unfold Kf at hq;cases t with
 |b c =>
  cases u with|b d =>let(U,U):=q.r.bl;let(U,U):=g.r.bl;exact(_,_,U,U,k _ _ [] H (.refl D) (.c (.b _)) nofun px hq)|_=>exact hq.elim
 |_=>exact hq.elim
end
section
variable{X:Cx}{K:BT}{es:List Do}{te:TE}{qe:QE}{tx:(St->XK)->TE}{qx:QX}{ts:(St->XK)->TS}
abbrev QAX:=Sq->(ώ->Prop)->QW->Prop
def Pz(K:PySem.W.Frag)(n:Nat)(te:(St->XK)->TA)(qx:QAX):Prop:=∀(dl:Dl)(H:Hp)(σ:St)(q:Sq)(Q:ώ->Prop)(W:QW)(R:Ω->Hp->Prop)(Es:St->XK),RdR K dl H σ q->qx q Q W ->
 (∀vs ts F H',Evo dl H H'->Rps K dl H' vs ts F->vs.length=n->Q ts->R vs H')->(∀a C ns us H',Evo dl H H'->Rp K dl H' (.ref a) (.xc C ns us) []->W C ns us->Es σ (.ref C) (Z a) H')->te Es σ H R
structure Cz(X:Cx)(K:BT)(es:List Do)(te:(St->XK)->TA)(qx:QAX):Prop where
 h:∀Es,gU (CX1 X.prog X.w) X Es->PA X es (te Es)
 s:Pz K es.length te qx
variable{ta:(St->XK)->TA}{qa:QAX}
def DV(h:QPA X K es tl ql):Cz X K es (λ_=>tl) (λq Q _=>ql q Q):=(λ_ _=>h.h,λdl H σ q Q _ R _ rd hq k _=>h.s dl H σ q Q R rd hq k)
def wx(he:QPX X K e tx qx)(hr:Cz X K es ta qa)(hs:‹AC X e es›):Cz X K (e::es) (λEs=>c5 (tx Es) (ta Es)) (λq Q W=>qx q (λt=>qa q (λts=>Q (t::ts)) W) W):=
 (λEs a=>bM (he.h Es a) (hr.h Es a) hs,λdl H σ q Q W R Es rd hq k kx=>he.s dl H σ q _ _ _ Es rd hq (λv t F H1 P r1 _ _ hz=>hr.s dl H1 σ q _ _ _ Es (rd.evo P) hz (λvs ts G H2 g V l2 z=>k _ _ _ H2 (P.trans g) (.cons (r1.evo P.d g) V) (by simp[l2]) z) λa C ns us H' g V hw=>kx a C ns us H' (P.trans g) V hw) kx)
def sG(he:QPE X K e te qe)(hr:Cz X K es ta qa)(hs:‹AC X e es›):Cz X K (e::es) (λEs=>c5 te (ta Es)) (λq Q W=>qe q λt=>qa q (λts=>Q (t::ts)) W):=
 (λEs a=>bM he.h (hr.h Es a) hs,λdl H σ q Q W R Es rd hq k kx=>he.s dl H σ q _ _ rd hq λv t F H1 P r1 hz=>hr.s dl H1 σ q _ _ _ Es (rd.evo P) hz (λvs ts G H2 g V l2 z=>k _ _ _ H2 (P.trans g) (.cons (r1.evo P.d g) V) (by simp[l2]) z) λa C ns us H' g V hw=>kx a C ns us H' (P.trans g) V hw)
end
def Alk:Nat->T->T->Prop
 | 0,t,u=>(∃x y,t=.s x/\u=.s y)\/∃x y,t=.i x/\u=.i y|n+1,t,u=>(∃x y,t=.s x/\u=.s y)\/(∃x y,t=.i x/\u=.i y)\/∃ts us,t=.t ts/\u=.t us/\∀(j:Nat)(x y:T),ts[j]?=Z x->us[j]?=Z y->Alk n x y
def Dep:Nat->T->Prop
 | 0,t=>(∃x,t=.s x)\/∃x,t=.i x|n+1,t=>(∃x,t=.s x)\/(∃x,t=.i x)\/∃ts,t=.t ts/\∀x∈ts,Dep n x
theorem Dep.s:Dep n (.s x):=by cases n <;> exact .inl (x,U)
theorem Dep.i{x:Int}:Dep n (.i x):=by
 cases n
 ·exact .inr (x,U)
 exact .inr (.inl (x,U))
theorem Dep.t{ts:ώ}(h:∀x∈ts,Dep n x):Dep (n+1) (.t ts):=.inr (.inr (ts,U,h))
def Dep.mono{m:Nat}{t:T}(h:Dep n t)(hm:n<=m):Dep m t:=by
 induction n generalizing m t with
 |zero =>
  obtain⟨x,rfl⟩|⟨x,rfl⟩:=h
  ·exact Dep.s
  exact Dep.i
 |succ n g =>
  obtain⟨x,rfl⟩|⟨x,rfl⟩|⟨ts,rfl,h⟩:=h
  ·exact Dep.s
  ·exact Dep.i
  obtain⟨k,rfl⟩:∃k,m=k+1:=(m-1,bd);exact Dep.t λx hx=>g (h x hx) bd
variable{G:Θ}
section
variable{X:Cx}{K:BT}
def zH{s:ϋ}{t u:T}{v w:V}{F:Θ}{x y:B}(h:(∃x y,t=.s x/\u=.s y)\/∃x y,t=.i x/\u=.i y)(r1:aB K dl H v t F)(Q:aB K dl H w u G)(P:RelV v x)(q:RelV w y):∃c:Bool,(c=O ↔ t=u)/\SeqAt.EqAt A s x y c:=by
 obtain⟨z,g,rfl,rfl⟩|⟨z,g,rfl,rfl⟩:=h
 ·let(U,_):=r1.str;let(U,_):=Q.str;exact(_,(λh=>congrArg T.s (eq_of_beq (show(z==g)=O from h)),λh=>by cases h;exact beq_self_eq_true z),mJ P q U U)
 let(U,_):=r1.int;let(U,_):=Q.int;exact(_,(λh=>congrArg T.i (eq_of_beq (show(z==g)=O from h)),λh=>by cases h;exact beq_self_eq_true z),mJ P q U U)
def vx{ts us:ώ}{n n1 n2:Nat}{e:Nat->Bool}(hn:n1=ts.length)(hm:n2=us.length)(he:∀(j:Nat)(x y:T),ts[j]?=Z x->us[j]?=Z y->(e j=O ↔ x=y)):((Fq (min n1 n2)).all e&&n1==n2)=O ↔ ts=us:=by
 subst hn hm;rw[ri,JW,beq_iff_eq];constructor
 ·rintro⟨h1,h2⟩;exact Ts h2 λi g1 g2=>((he i _ _ (mu g1) (mu g2)).mp (h1 i (Ro.mpr bd)))
 rintro rfl;refine(λj g=>?_,U);have g:j<ts.length:=by have:=Ro.mp g;lia
 exact(he j _ _ (mu g) (mu g)).mpr U
def Ga:∀(n:Nat){t u:T}{v:V}{F G:Θ},Alk n t u->aB K dl H v t F->aB K dl H v u G->t=u:=by
 intro n;have sc:∀{t u:T}{v:V}{F G:Θ},((∃x y,t=.s x/\u=.s y)\/∃x y,t=.i x/\u=.i y)->aB K dl H v t F->aB K dl H v u G->t=u:=λh q g=>by
  obtain⟨z,z',rfl,rfl⟩|⟨z,z',rfl,rfl⟩:=h
  ·let(U,_):=q.str;let(e,_):=g.str;cases e;rfl
  let(U,_):=q.int;let(e,_):=g.int;cases e;rfl
 induction n with
 |zero=>exact λh q g=>sc h q g|succ n ih =>
  intro t u v F G h q g;obtain h|h |⟨ts,us,rfl,rfl,ht⟩:=h
  ·exact sc (.inl h) q g
  ·exact sc (.inr h) q g
  let(a,vs,U,h1,f1):=q.tup;let(b,ws,e,h2,f2):=g.tup;cases e;rw[h1]at h2;cases h2;have l3:=f1.len;have l4:=f2.len;refine congrArg L2.T.t (Ts bd λi g1 g2=>?_);have gv:i<vs.length:=bd;let(t1,G1,Q,aP):=dG f1 (mu gv);let(t2,G2,P,aN):=dG f2 (mu gv);rw[mu g1]at Q;rw[mu g2]at P;cases Q;cases P;exact ih (ht i _ _ (mu g1) (mu g2)) aP aN
def xF{σ:St}{s:ϋ}(I:Inv X gd σ H s)(hK:X.K=K):∀(n:Nat)(A:Db)(t u:T)(v w:V)(F G:Θ)(x y:B),Alk n t u->aB K dl H v t F->aB K dl H w u G->RelV v x->RelV w y->A.units+n<cLine->∃c:Bool,(c=O ↔ t=u)/\SeqAt.EqAt A s x y c:=by
 intro n;induction n with
 |zero =>
  intro A t u v w F G x y P z q rx ry hu;exact zH P z q rx ry
 |succ n ih =>
  intro A t u v w F G x y P z q rx ry hu;obtain h|h |⟨ts,us,rfl,rfl,P⟩:=P
  ·exact zH (.inl h) z q rx ry
  ·exact zH (.inr h) z q rx ry
  let(a,vs,U,h1,f1):=z.tup;let(b,ws,U,h2,f2):=q.tup;cases rx;cases ry;let(its,q1,p1,_):=I.tuple (SqT.of h1);let(Q,q2,p2,_):=I.tuple (SqT.of h2);have l1:=q1.length;have l2:=q2.length;have l3:=f1.len;have l4:=f2.len;have go:∀j,∃c:Bool,∀g1 (g2:j<Q.toArray.size),(∀x y,ts[j]?=Z x->us[j]?=Z y->(c=O ↔ x=y))/\SeqAt.EqAt A.in1 s its.toArray[j] Q.toArray[j] c:=λj=>by
   by_cases g:j<its.toArray.size/\j<Q.toArray.size
   ·let(g1,g2):=g;let(v1,e1,a3):=q1.at' g1;let(v2,e2,a0):=q2.at' g2;let(t1,G1,aT,bc):=dG f1 e1;let(t2,G2,aP,a5):=dG f2 e2;let(c,hc,hE):=ih A.in1 t1 t2 v1 v2 G1 G2 _ _ (P j t1 t2 aT aP) bc a5 a3 a0 (by show A.units+1+n<_;lia);refine(c,λ_ _=>(λx y hx hy=>?_,hE));rw[aT]at hx;rw[aP]at hy;cases hx;cases hy;exact hc
   exact(O,λg1 g2=>absurd (g1,g2) g)
  have hc:=λj=>Classical.choose_spec (go j);have key:((Fq (min its.toArray.size Q.toArray.size)).all (λj=>Classical.choose (go j))&&its.toArray.size==Q.toArray.size)=O ↔ ts=us:=by
   have e1:its.toArray.size=ts.length:=by simp;omega
   have e2:Q.toArray.size=us.length:=by simp;omega
   refine vx (n:=n) e1 e2 λj x y hx hy=>?_;have g1:=(mT.mp hx).1;have g2:=(mT.mp hy).1;exact(hc j bd bd).1 x y hx hy
  by_cases aN:a=b
  ·subst aN;exact(O,(λ_=>Ga (n+1) (.inr (.inr (ts,us,U,U,P))) z q,λ_=>rfl),SeqAt.EqAt.same _)
  refine(_,(λh=>congrArg L2.T.t (key.mp h),λh=>key.mpr (by cases h;rfl)),SeqAt.EqAt.of_refs aN (SeqAt.RcAt.tuples (p1) (p2) bd λj g1 g2=>(hc j g1 g2).2))
def N4(K:BT):R2:=λx y H Q=>HG K x y H Q\/∃dl ts us n F G,aB K dl H x (.t ts) F/\aB K dl H y (.t us) G/\(∀(j:Nat)(x y:T),ts[j]?=Z x->us[j]?=Z y->Alk n x y)/\n<=100/\∀c:Bool,(c=O ↔ ts=us)->Q (.bl c) H
def Mf(hu:X.A.units+150<cLine)(hK:X.K=K):OpR X (compareOp .Eq) (N4 K):=by
 subst hK;refine OpR.or (zc (X:=X) bd U) ?_;intro gd s σ H x y v u Q I rx ry h;let(dl,ts,us,n,F,G,r1,r2,ht,hn,k):=h;let(a,vs,U,h1,f1):=r1.tup;let(b,ws,U,h2,f2):=r2.tup;cases rx;cases ry;let(its,q1,p1,_):=I.tuple (SqT.of h1);let(q,q2,p2,_):=I.tuple (SqT.of h2);have l1:=q1.length;have l2:=q2.length;have l3:=f1.len;have l4:=f2.len;have go:∀j,∃c:Bool,∀(g1:j<its.toArray.size)(g2:j<q.toArray.size),(∀(x y:T),ts[j]?=Z x->us[j]?=Z y->(c=O ↔ x=y))/\SeqAt.EqAt X.A.in1 s its.toArray[j] q.toArray[j] c:=λj=>by
  by_cases g:j<its.toArray.size/\j<q.toArray.size
  ·let(g1,g2):=g;let(v1,e1,aP):=q1.at' g1;let(v2,e2,aN):=q2.at' g2;let(t1,G1,V,a0):=dG f1 e1;let(t2,G2,P,aT):=dG f2 e2;let(c,hc,hE):=xF I U n X.A.in1 t1 t2 v1 v2 G1 G2 _ _ (ht j t1 t2 V P) a0 aT aP aN (by show X.A.units+1+n<_;omega);refine(c,λ_ _=>(λx y hx z=>?_,hE));rw[V]at hx;rw[P]at z;cases hx;cases z;exact hc
  exact(O,λg1 g2=>absurd (g1,g2) g)
 have hc:=λj=>Classical.choose_spec (go j);have key:((Fq (min its.toArray.size q.toArray.size)).all (λj=>Classical.choose (go j))&&its.toArray.size==q.toArray.size)=O ↔ ts=us:=by
  have e1:its.toArray.size=ts.length:=by simp;omega
  have e2:q.toArray.size=us.length:=by simp;omega
  refine vx (n:=n) e1 e2 λj x y hx z=>?_;have g1:=(mT.mp hx).1;have g2:=(mT.mp z).1;exact(hc j bd bd).1 x y hx z
 exact SeqAt.eq_tupleAt (e:=λj=>Classical.choose (go j)) (show s.heap.IsTuple a its.toArray from p1) (show s.heap.IsTuple b q.toArray from p2) bd (λj g1 g2=>(hc j g1 g2).2) (.bl _,H,I,U,k _ key)
def LB:Q2:=λt u Q=>match t,u with|.t ts,.t us=>∃n,n<=100/\(∀(j:Nat)(x y:T),ts[j]?=Z x->us[j]?=Z y->Alk n x y)/\∀c:Bool,(c=O ↔ ts=us)->Q (.b c)|t,u=>D9 t u Q
def Ht:cb K (N4 K) LB:=by
 intro dl H x y t u F G Q R D q g hq k;unfold LB at hq;split at hq
 ·let(n,hn,P,hq):=hq;exact .inr (dl,_,_,n,F,G,q.r,g.r,P,hn,λc V=>k _ _ [] H (.refl D) (.c (.b _)) nofun px (hq c V))
 exact .inl (ud dl H x y t u F G Q R D q g hq k)
end
variable{N':Γ}{sc:Scope}{fp:Θ}
section
variable{X:Cx}{K:BT}{a:Do}{es:List Do}{te ta tb:TE}{qe qa qb:QE}{pos p:Pos}{st:Ev}{k k':Nat}{f:J}
structure Dn(K:BT)(mg:Υ)(x:Str)(st:Ev)(f:J)(fd:Ch)(ps:Γ):Prop where
 F:Fun K x x st f fd
 m:mg x=Z (.ref f)
 b:Binds K fd ps []
def aK{ps:PSp}(F:aS X.prog X.w X.K X.mg X.base CX0 k f fd prs (spQ K ps))(hr:cn k' X.A)(D:Dn X.K X.mg x st f fd prs)(P:QPA X K (e::es) tl ql)(z:k<=k':=by first|decide|omega)(hg:Gl X x:=by exact U)
  (q:autoParam (AS x) zdc._auto_1) (he:‹AC X e es›) (g:‹AM X pos es›):
  QPF X K (.Call (.Name x p) (e::es) [] pos) (mY (spQ K ps) [] E0 tl) (f6 ps ql):=HY F (hr.mono z) hg D.m D.F.kp D.b P q he g
def N7{ps:Gi}(F:aS X.prog X.w X.K X.mg X.base (CX1 X.prog X.w) k f fd prs (yt K ps))(hr:cn k' X.A)(D:Dn X.K X.mg x st f fd prs)(V:QPA X K (e::es) tl ql)(P:k<=k':=by first|decide|omega)(hg:Gl X x:=by exact U)
  (z:autoParam (AS x) zdc._auto_1) (he:‹AC X e es›) (g:‹AM X pos es›):
  QPX X K (.Call (.Name x p) (e::es) [] pos) (λEs=>yp (yt K ps) Es tl) (λq Q W=>ql q λts=>ps ts Q W):=HH F (hr.mono P) hg D.m D.F.kp D.b V z he g
def av:QPA X K [] lU dq:=vK.w aj
def ah{i j}:QPE X K (.Constant (.int i) j pos) (tC (.int i)) (qC (.i i)):=Za bP
def a6(hm:X.mg "len"=Y)(q:QPA X K (e::es) tl ql)(hg:Gl X "len":=by exact U)(z:X.K=K:=by exact U)
  (he:‹AC X e es›) (g:‹AM X pos es›):QPF X K (.Call (.Name "len" p) (e::es) [] pos) (tCB (DD K) tl) (qCB wC ql):=pL (Ct z) Ho hg hm bv q am am he g
def ax(i:Nat)(g:X.N.Nodup)(he:QPF X K e te qe)(hi:‹X.N[i]?=Z x›)(hx:Loc X.env.scope x:=by first|exact .inl rfl|exact .inr U)(hs:‹swapsWith e (Z (.Name x pos')) pos.line X.env=pure false›)(hf:AT X x:=by first|exact .inl rfl|exact .inr rfl|assumption):
  QPS X K (.Assign [.Name x pos'] e pos) (fV te (cU i)) (pM i qe):=Ln g hi hx he hs hf
def bo(i:Nat)(g:X.N.Nodup)(hi:‹X.N[i]?=Z x›)(hx:Loc X.env.scope x:=by first|exact .inl rfl|exact .inr U)(hf:AT X x:=by first|exact .inl rfl|exact .inr rfl|assumption):PG X (.Name x pos) (cU i):=kB g hi hx hf
def cz{cl:List (Str×J)}{s₂:ϋ}{H₂:Hp}(i:Nat)(g:N'.Nodup:=by decide +kernel)(hi:‹N'[i]?=Z x›)(hx:Loc (blk X N' sc cl C s₂ H₂ fp).env.scope x:=by first|exact .inl rfl|exact .inr U)(hf:‹(blk X N' sc cl C s₂ H₂ fp).env.scope.names.lookup x=Z .local›):PG (blk X N' sc cl C s₂ H₂ fp) (.Name x pos) (cU i):=kB g hi hx (.inr hf)
def dy{x1 g:Str}{t1 t2:TG}{j:Nat}(h1:PG X (.Name x1 p1) t1)(h2:PG X (.Name g p2) t2)(P:X.K=K:=by exact U)(z:X.calm=true:=by exact U)
  (hn:‹(assignEach [.Name x1 p1,.Name g p2] X.env).length=2›) (q:‹(assignEach [.Name x1 p1,.Name g p2] X.env).findIdx? (·.1)=none›):PG X (.Tuple [.Name x1 p1,.Name g p2] j pos) (Jv K 2 (AF t1 (AF t2 M1))):=oA P z (cy h1 (cy h2 oz)) hn q
def bx(g:X.A.units+1<cLine)(z:QPE X K a ta qa)(q:QPE X K b tb qb)(P:X.K=K:=by exact U):QPT X K (.Compare a [.Eq] [b] pos) (sE (tOp (HG K) ta tb)) (c8 (qOp D9 qa qb)):=a4 (zc g P) ud (bb _) z q
def z6(q:QPE X K a ta qa)(g:QPE X K b tb qb):=a4 (pos:=pos) An (fF (K:=K) (g':=λi j=>.b (decide (i<j))) λ_ _ _ _=>.b _) (bb _) q g
def DJ(q:QPE X K a ta qa)(g:QPE X K b tb qb):=a4 (pos:=pos) Ao (fF (K:=K) (g':=λi j=>.b (decide (j<i))) λ_ _ _ _=>.b _) (bb _) q g
end
abbrev NI(K:BT)(x:Str)(f:J):Prop:=W.nsIn K mainGlobals x=Z (Z (.ref f))
abbrev LK(K:BT)(f:J)(x q:Str)(st:Ev)(oc:B)(od:Option J)(kV dc pm:B)(an:Option J)(cd ct:B)(sl:Array (Option B)):Prop:=K.lookup f=Z (oc,od,.func (W.fnOf x q (di st) (bD st) (aq st) .none kV dc pm an cd ct),sl)
abbrev CI(K:BT)(cd:B)(x:Str):Prop:=W.codeIn K cd x=O
abbrev KI(K:BT)(f:J):Prop:=W.keepIn K (.ref f)=O
variable{p3:Str}
section
variable{K:BT}{q:Str}{f:J}{st:Ev}{oc kV dc pm cd ct:B}{od an:Option J}{sl:Array (Option B)}
abbrev NB(K:BT)(x:Str):Prop:=W.nsIn K mainGlobals x=Z Y
inductive DY(K:BT)(x:Str)(st:Ev)(f:J):Prop
 |mk(n:NI K x f)(fd:Ch)(F:Fun K x x st f fd)
inductive DM(K:BT)(C:J)(x q:Str)(st:Ev)(f:J):Prop
 |mk(M:Meth K C x f)(fd:Ch)(F:Fun K x q st f fd)
def DY.of(n:NI K x f)(l:LK K f x x st oc od kV dc pm an cd ct sl)(c:CI K cd x)(k:KI K f):DY K x st f:=(n,_,vh l c k)
theorem DM.of(m:W.findIn K (.ref C) x=Z (Z (.ref f)))(l:LK K f x q st oc od kV dc pm an cd ct sl)(c:CI K cd q)(k:KI K f)(i:W.isFn K (.ref f)=O):DM K C x q st f:=((m,i,k),_,vh l c k)
theorem Fun.b1{p1:Str}(F:Fun K x q st f fd)(g:∀kV dc pm an cd ct u1,bindArgs (W.fnOf x q (di st) (bD st) (aq st) .none kV dc pm an cd ct) ([u1],[])=pure [(p1,u1)]:=by intros;rfl):Binds K fd [p1] []:=F.binds λkV dc pm an cd ct us hl=>OQ (P:=λus=>bindArgs _ (us,[])=pure (Tf _ us)) (g kV dc pm an cd ct) us hl
theorem Fun.b2{p1 p2:Str}(F:Fun K x q st f fd)(g:∀kV dc pm an cd ct u1 u2,bindArgs (W.fnOf x q (di st) (bD st) (aq st) .none kV dc pm an cd ct) ([u1,u2],[])=pure [(p1,u1),(p2,u2)]:=by intros;rfl):Binds K fd [p1,p2] []:=F.binds λkV dc pm an cd ct us hl=>OP (P:=λus=>bindArgs _ (us,[])=pure (Tf _ us)) (g kV dc pm an cd ct) us hl
theorem Fun.b3{p1 p2:Str}(F:Fun K x q st f fd)(z:∀kV dc pm an cd ct u1 u2 g,bindArgs (W.fnOf x q (di st) (bD st) (aq st) .none kV dc pm an cd ct) ([u1,u2,g],[])=pure [(p1,u1),(p2,u2),(p3,g)]:=by intros;rfl):Binds K fd [p1,p2,p3] []:=F.binds λkV dc pm an cd ct us hl=>OO (P:=λus=>bindArgs _ (us,[])=pure (Tf _ us)) (z kV dc pm an cd ct) us hl
theorem Fun.b4{p1 p2 Q:Str}(F:Fun K x q st f fd)(V:∀kV dc pm an cd ct u1 u2 z g,bindArgs (W.fnOf x q (di st) (bD st) (aq st) .none kV dc pm an cd ct) ([u1,u2,z,g],[])=pure [(p1,u1),(p2,u2),(p3,z),(Q,g)]:=by intros;rfl):Binds K fd [p1,p2,p3,Q] []:=F.binds λkV dc pm an cd ct us hl=>ON (P:=λus=>bindArgs _ (us,[])=pure (Tf _ us)) (V kV dc pm an cd ct) us hl
theorem Fun.b5{p1 p2 p4 V:Str}(F:Fun K x q st f fd)(hb:∀kV dc pm an cd ct u1 u2 Q z g,bindArgs (W.fnOf x q (di st) (bD st) (aq st) .none kV dc pm an cd ct) ([u1,u2,Q,z,g],[])=pure [(p1,u1),(p2,u2),(p3,Q),(p4,z),(V,g)]:=by intros;rfl):Binds K fd [p1,p2,p3,p4,V] []:=F.binds λkV dc pm an cd ct us hl=>Qe (P:=λus=>bindArgs _ (us,[])=pure (Tf _ us)) (hb kV dc pm an cd ct) us hl
end
mutual
def T.pln:T->Bool
 |.n=>O|.b _=>O|.i _=>O|.s _=>O|.t xs=>T.dR xs|.zl xs=>T.dR xs|.fd _ _ ks=>T.LZ ks|.fz _=>O|_=>ϊ
def T.dR:ώ->Bool
 |[]=>O|x::r=>x.pln&&T.dR r
def T.LZ:Ϗ->Bool
 |[]=>O| (_,x)::r=>x.pln&&T.LZ r
end
def nof{A:Prop}(h:ϊ=O):A:=absurd h su
theorem aB.plain{K:BT}(kt:∀a vs,H a=Z (.tup vs)->H' a=Z (.tup vs))(z:∀a o u,H a=Z (.frz o u)->H' a=Z (.frz o u)){v:V}{t:T}{F:Θ}(h:aB K dl H v t F):t.pln=O->aB K dl H' v t F:=
 aB.rec (motive_2:=λv t F _=>T.dR t=O->aw K dl H' v t F) (motive_3:=λv t F _=>T.LZ t=O->aR K dl H' v t F)
  (λ_=>.n) (λx _=>.b x) (λx _=>.i x) (λx _=>.s x) (λ_ h=>nof h) (λh _ g q=>.t (kt _ _ h) (g q)) (λ_ _ _ h=>nof h) (λ_ _ _ h=>nof h) (λ_ h=>nof h) (λ_ h=>nof h) (λ_ h=>nof h) (λh _ g q=>.fd (z _ _ _ h) (g q)) (λ_ h=>nof h) (λ_ _ _ h=>nof h)
  (λ_ _ h=>nof h) (λ_ _ _ h=>nof h) (λ_ _ _ h=>nof h) (λ_ _ _ h=>nof h) (λh _ g q=>.zl (z _ _ _ h) (g q)) (λ_ h=>nof h) (λ_ _ _ _ _ h=>nof h) (λh _=>.fz (z _ _ _ h)) (λ_=>.nil) (λ_ _ Q P q=>.cons (Q (ri _ _▸q).1) (P (ri _ _▸q).2)) (λ_=>.nil) (λ_ _ Q P q=>.cons (Q (ri _ _▸q).1) (P (ri _ _▸q).2)) h
theorem aw.plain{K:BT}{dl:Dl}{H H':Hp}(kt:∀a vs,H a=Z (.tup vs)->H' a=Z (.tup vs))(g:∀a o u,H a=Z (.frz o u)->H' a=Z (.frz o u)){vs:Ω}{ts:ώ}{F:Θ}(h:aw K dl H vs ts F):T.dR ts=O->aw K dl H' vs ts F:=
 h.ind (λ_=>.nil) (λ_ _ _ _ _ _ h _ z q=>.cons (h.plain kt g (ri _ _▸q).1) (z (ri _ _▸q).2))
theorem aB.L0{K:BT}{v:V}{t:T}{F:Θ}(h:aB K dl H v t F):t.pln=O->F=[]:=
 aB.rec (motive_3:=λ_ _ _ _=>True)
  (λ_=>rfl) (λ_ _=>rfl) (λ_ _=>rfl) (λ_ _=>rfl) (λ_ h=>nof h) (λ_ _ g=>g) (λ_ _ _ h=>nof h) (λ_ _ _ h=>nof h) (λ_ h=>nof h) (λ_ h=>nof h) (λ_ h=>nof h) (λ_ _ _ _=>rfl) (λ_ h=>nof h) (λ_ _ _ h=>nof h)
  (λ_ _ h=>nof h) (λ_ _ _ h=>nof h) (λ_ _ _ h=>nof h) (λ_ _ _ h=>nof h) (λ_ _ _ _=>rfl) (λ_ h=>nof h) (λ_ _ _ _ _ h=>nof h) (λ_ _=>rfl) (λ_=>rfl) (λ_ _ z q=>qH z q) trivial (λ_ _ _ _=>trivial) h
theorem aw.L0{K:BT}{dl:Dl}{H:Hp}{vs:Ω}{ts:ώ}{F:Θ}(h:aw K dl H vs ts F):T.dR ts=O->F=[]:=h.ind (λ_=>rfl) (λ_ _ _ _ _ _ h _ g=>qH h.L0 g)
variable{its:Δ}
section
variable{X:Cx}{K:BT}{σ:St}{s:ϋ}{o:Do}{te:TE}{qe:QE}
def Inv.Jw(I:Inv X gd σ H s)(g:H a=Z (.lst xs)):∃o,Inv X gd σ (upd H a (.frz o (.lst xs))) s:=by
 have q:∀o v,X.bi a≠Z (.frz o v):=λo v e=>by
  have:=I.base.iO a o v e;rw[g]at this;cases this
 let(z,its,n,r,e):=(I.hok a _ g);exact(_,I.zZ g nofun nofun nofun q (e,z,its,n,r,e))
def J7(te:TE):TE:=λσ H Q=>te σ H λv H1=>∃a xs,v=.ref a/\H1 a=Z (.lst xs)/\∀o,Q v (upd H1 a (.frz o (.lst xs)))
def Ip(he:PE X e te):PE X e (J7 te):=by left;refine thn (he gd s σ H _ I h) λu s' g=>?_;let(v,H',P,r,a,xs,V,z,q):=g;let(o,K):=P.Jw z;exact(v,_,K,r,q o)
def Oj(qe:QE):QE:=λq Q=>qe q λt=>match t with|.l ts=>T.dR ts=O/\Q (.zl ts)|_=>False
def kq(he:QPF X K e te qe):QPF X K e (J7 te) (Oj qe):=(Ip he.h,λdl H σ q Q R rd hq k=>he.s dl H σ q _ _ rd hq λv t F H1 e1 P f1 n1 g=>by
 split at g
 ·let(p,vs,G,U,U,h1,h2):=P.r.lst;obtain rfl:=h2.L0 g.1;refine(p,vs,U,h1,λo=>?_);have V:=e1.fresh (o:=.frz o (.lst vs)) (f1 p iY) (P.n p iY);have ne:∀{a:J}{u:HO},H1 a=Z u->(∀xs,u ≠ .lst xs)->a≠p:=λh n z=>by rw[z,h1]at h;exact n _ (Option.some.inj h).symm
  have ts:=h2.plain (H':=upd H1 p (.frz o (.lst vs))) (λa us h=>by rw[ak (ne h nofun)];exact h) (λa o u h=>by rw[ak (ne h nofun)];exact h) g.1;exact k _ (.zl _) [] _ V (.zl au ts,nofun) nofun px g.2
 exact g.elim)
def JJ{σ:St}{s:ϋ}(I:Inv X gd σ H s)(hK:X.K=K){vs ws:Ω}{ts us:ώ}{F:Θ}{q:Δ}(q1:Vals vs its)(q2:Vals ws q)(f1:aw K dl H vs ts F)(f2:aw K dl H ws us G)(ht:∀(j:Nat)(x y:T),ts[j]?=Z x->us[j]?=Z y->Alk n x y)(hu:A.units+n<cLine):
  ∃e:Nat->Bool,(∀(j:Nat)(g1:j<its.toArray.size)(g2:j<q.toArray.size),SeqAt.EqAt A s its.toArray[j] q.toArray[j] (e j))/\∀(j:Nat)(x y:T),ts[j]?=Z x->us[j]?=Z y->(e j=O ↔ x=y):=by
 have l1:=q1.length;have l2:=q2.length;have l3:=f1.len;have l4:=f2.len;have go:∀j,∃c:Bool,∀g1 (g2:j<q.toArray.size),(∀x y,ts[j]?=Z x->us[j]?=Z y->(c=O ↔ x=y))/\SeqAt.EqAt A s its.toArray[j] q.toArray[j] c:=λj=>by
  by_cases g:j<its.toArray.size/\j<q.toArray.size
  ·let(g1,g2):=g;let(v1,e1,aP):=q1.at' g1;let(v2,e2,aN):=q2.at' g2;let(t1,G1,Q,a0):=dG f1 e1;let(t2,G2,P,aT):=dG f2 e2;let(c,hc,hE):=xF I hK n A t1 t2 v1 v2 G1 G2 _ _ (ht j t1 t2 Q P) a0 aT aP aN hu;refine(c,λ_ _=>(λx y hx z=>?_,hE));rw[Q]at hx;rw[P]at z;cases hx;cases z;exact hc
  exact(O,λg1 g2=>absurd (g1,g2) g)
 refine(λj=>Classical.choose (go j),λj g1 g2=>(Classical.choose_spec (go j) g1 g2).2,λj x y hx z=>?_);have g1:=(mT.mp hx).1;have g2:=(mT.mp z).1;exact(Classical.choose_spec (go j) (by simp;lia) (by simp;lia)).1 x y hx z
end
end L2
namespace L2
open PySem PySem.Spec PyProof.Rows
section
variable{K:BT}{dl:Dl}{H:Hp}
end
variable{x:Str}{pos':Pos}
section
variable{X:Cx}{K:BT}{e:Do}{te:TE}{qe:QE}{pos:Pos}
def Om(i:Nat)(qe:QE):QS:=λD q=>∃n,q[i]?=Z (.o (.i n))/\qe q λt=>match t with|.i m=>D.nx (q.set i (.o (.i (n+m))))|_=>False
def z8{i:Nat}(hN:X.N.Nodup)(he:QPE X K e te qe)(hi:‹X.N[i]?=Z x›)(hx:Loc X.env.scope x:=by first|exact .inl rfl|exact .inr U)(hf:AT X x:=by first|exact .inl rfl|exact .inr rfl|assumption):
  QPS X K (.AugAssign (.Name x pos') .Add e pos) (NS i te (ipI λi j=>i+j)) (Om i qe):=(LM hN hi hx he.h MR hf,λdl bi hs H σ q Dq D (F,r) hq E=>by
 let(n,Q,hq):=hq;let(v,hv,V):=r.g i _ _ Q U;let(U,hF):=V.r.int;refine(_,hv,he.s dl H σ q _ _ r.rd hq λw t Fw H1 e1 r1 P=>?_);split at P
 ·rename_i m;let(U,_):=r1.r.int;exact(n,m,U,U,E.nx H1 _ _ (r.yV e1 (.c (.i (n+m))) nofun px) P)
 exact P.elim)
end
variable{n:Nat}
section
variable{X:Cx}{K:BT}{dl:Dl}{H:Hp}
def NZ(K:BT):R2:=λx y H Q=>rNe x y H Q\/∃dl ts us n F G,aB K dl H x (.t ts) F/\aB K dl H y (.t us) G/\(∀(j:Nat)(x y:T),ts[j]?=Z x->us[j]?=Z y->Alk n x y)/\n<=140/\∀c:Bool,(c=O ↔ ts=us)->Q (.bl (!c)) H
def Mc(hu:X.A.units+150<cLine)(hK:X.K=K):OpR X (compareOp .NotEq) (NZ K):=by
 subst hK;refine OpR.or kC ?_;intro gd s σ H x y v u Q I P z h;let(dl,ts,us,n,F,G,r1,V,ht,hn,k):=h;let(a,vs,U,h1,f1):=r1.tup;let(b,ws,U,h2,f2):=V.tup;cases P;cases z;let(its,q,p1,_):=I.tuple (SqT.of h1);let(bO,g,p2,_):=I.tuple (SqT.of h2);have l1:=q.length;have l2:=g.length;have l3:=f1.len;have l4:=f2.len;let(e,hE,he):=JJ (A:=X.A.in1) I U q g f1 f2 ht (by show X.A.units+1+n<_;lia);refine SeqAt.RcNeAt.tuples (p1) (p2) bd hE X.prog X.w X.xe _ (.bl _,H,I,U,k _ ?_);have e1:its.toArray.size=ts.length:=by simp;lia
 have e2:bO.toArray.size=us.length:=by simp;lia
 exact vx (n:=n) e1 e2 he
def HZ:Q2:=λt u Q=>match t,u with|.t ts,.t us=>∃n,n<=140/\(∀(j:Nat)(x y:T),ts[j]?=Z x->us[j]?=Z y->Alk n x y)/\∀c:Bool,(c=O ↔ ts=us)->Q (.b (!c))|t,u=>qNe t u Q
def Hm:cb K (NZ K) HZ:=by
 intro dl H x y t u F G Q R D q g hq k;unfold HZ at hq;split at hq
 ·let(n,hn,P,hq):=hq;exact .inr (dl,_,_,n,F,G,q.r,g.r,P,hn,λc V=>k _ _ [] H (.refl D) (.c (.b _)) nofun px (hq c V))
 exact .inl (gw dl H x y t u F G Q R D q g hq k)
theorem xT:∀{n:Nat}{t:T},Dep n t->Alk n t t
 | 0,_,h=>by
  obtain⟨x,rfl⟩|⟨x,rfl⟩:=h
  ·exact .inl (x,x,U,U)
  exact .inr (x,x,U,U)
 |n+1,_,h=>by
  obtain⟨x,rfl⟩|⟨x,rfl⟩|⟨ts,rfl,h⟩:=h
  ·exact .inl (x,x,U,U)
  ·exact .inr (.inl (x,x,U,U))
  refine .inr (.inr (ts,ts,U,U,λj x y hx g=>?_));rw[hx]at g;cases g;exact xT (h x (nZ hx))
def tG{ts:ώ}(hd:∀x∈ts,Dep n x)(j:Nat)(x y:T)(hx:ts[j]?=Z x)(g:ts[j]?=Z y):Alk n x y:=by rw[hx]at g;cases g;exact xT (hd x (nZ hx))
end
abbrev QPR:=Sq->(Ϗ->Prop)->Prop
def Px(K:BT)(trs:List (TE×TE))(qp:QPR):Prop:=∀(dl:Dl)(H:Hp)(σ:St)(q:Sq)(Q:Ϗ->Prop)(R:List (V×V)->Hp->Prop),RdR K dl H σ q->qp q Q ->
 (∀kvs g H',Evo dl H H'->aR K dl H' kvs g []->kvs.length=trs.length->Q g->R (kvs.map λkv=>(kV kv.1,kv.2)) H')->t8 trs σ H R
structure JS(X:Cx)(K:BT)(pos:Pos)(keys:List (Option Do))(values:List Do)(trs:List (TE×TE))(qp:QPR):Prop where
 h:PPs X pos keys values trs
 s:Px K trs qp
section
variable{X:Cx}{K:BT}{pos:Pos}{ek ev:Do}{ks:List (Option Do)}{vs:List Do}{tk tv:TE}{qk qv:QE}{trs:List (TE×TE)}{qp:QPR}
def HN:JS X K pos [] [] [] (λ_ Q=>Q []):=(Ak,λdl H σ q Q R rd hq k=>k [] [] H (.refl rd.d) .nil U hq)
def Od(qk qv:QE)(qp:QPR):QPR:=λq Q=>qk q λt=>qv q λu=>match t.key with|some k=>u.im=O/\qp q λg=>Q ((k,u)::g)|none=>False
def pI(hk:QPE X K ek tk qk)(hv:QPE X K ev tv qv)(hr:JS X K pos ks vs trs qp):JS X K pos (Z ek::ks) (ev::vs) ((tk,tv)::trs) (Od qk qv qp):=(ky hk.h hv.h hr.h,λdl H σ q Q R rd hq k=>by
 refine hk.s dl H σ q _ _ rd hq λv t F H1 e1 r1 P=>(hv.s dl H1 σ q _ _ (rd.evo e1) P λw u G H2 e2 r2 g=>?_);split at g
 ·rename_i kk aP;let(V,g):=g;obtain rfl:=r2.r.im V;have aN:=r1.r.key aP;subst aN;exact hr.s dl H2 σ q _ _ ((rd.evo e1).evo e2) g λkvs z H3 e3 r3 hl hz=>(k ((kk,w)::kvs) ((kk,u)::z) H3 ((e1.trans e2).trans e3) (.cons (F:=[]) (G:=[]) (r2.evo e2.d e3).r r3) (by simp[hl]) hz)
 exact g.elim)
def qDN(qp:QPR):QE:=λq Q=>qp q λg=>Q (.d (cm [] g))
def DR(h:JS X K pos ks vs trs qp)(Fy:‹ks.all (·.isSome)=true›)(hl:‹ks.length=vs.length›)(h0:ks ≠ []:=by exact OS _ _)(aP:autoParam (ks.length<=15) zdc._auto_1)(h16:autoParam (trs.length<=15) zdc._auto_1):
  QPF X K (.Dict ks vs pos) (J9 trs) (qDN qp):=(Al h.h Fy hl h0 aP,λdl H σ q Q R rd hq k=>λp hp=>by
 have e0:=(Evo.refl rd.d).new (o:=.dK []) hp;have nd:=rd.d.nd0 hp;refine h.s dl _ σ q _ _ (rd.evo e0) hq λkvs aT H2 e2 r2 hlen hz=>?_;have V:=e2.k p _ au nd nofun;have tf:=TF.dict (kw:=fQ [] kvs) V;refine(V,kvs,U,bd,?_);have e3:Evo dl H (upd H2 p (.dK (fQ [] kvs))):=by
  refine(λb o P hn nr=>?_,λd hd=>?_,λb x P=>?_)
  ·have g:b≠p:=λz=>by rw[z,hp]at P;cases P
   rw[ak g];exact e2.k b o (by rw[ak g];exact P) hn nr
  ·let(s0,n0,aN,D0):=e2.d d hd;have n1:=(nd d hd).1;have n2:=(nd d hd).2;exact(s0,n0,aN,{D0 with hd:=by rw[ak n1.symm];exact D0.hd,hl:=by rw[ak n2.symm];exact D0.hl})
  have g:b≠p:=λz=>by rw[z,hp]at P;cases P
  let(y,hy,e4):=e2.r b x (by rw[ak g];exact P);exact(y,hy,by rw[ak g];exact e4)
 have rm:=aR.cm (kvs':=[]) (kts':=[]) r2 U .nil;exact k _ _ [p] _ e3 (.d au (rm.cJ tf (λ_ z=>z) bu),λb P=>by rw[fy.mp P];exact nd) (λb P=>by rw[fy.mp P];exact hp) ap hz)
end
end L2
namespace L2
open PySem PySem.Spec PyProof.Rows
variable{P:Da}{tg:Do}
section
variable{X:Cx}{K:BT}{i j k:Nat}{a b e o c:Do}{pos p2:Pos}{x:Str}{dl:Dl}{bi H:Hp}{hs:List (V×T)}{σ:St}{q:Sq}
def Itv(K:BT)(a:J)(n:Nat):It:=
 (λi H=>i<n/\∃xs,SqL K H a xs/\xs.length=n,λi H x H'=>H'=H/\∀xs,SqL K H a xs->xs[n-1-i]?=Z x,λi _=>i=n)
theorem CQ{w:Cl}{K:BT}(a it:J)(n:Nat):Turn P w K tg (Itv K a n) [it] it (λi h=>h.IsRevIter it a ((n:Int)-1-i)) where
 mem:=by simp
 obj:=λi h st b q=>by
  have e:=(q:);subst e;let(o,e,c,d):=st;exact(o,e,λv z=>by rw[d]at z;cases z)
 keep:=λi h h' st k=>st.at λo e=>k it ap o e
 item:=by
  intro X hP hw hK hc i gd s σ H E I hf st hg;subst hP hw hK;let(hi,xs,hq,hx):=hg;let(its,rv,p,hz):=I.list hq;let(u,hu,ru):=rv.get (x:=xs[n-1-i]' bd) (mu _);let(f0,f1,f2,V,f4,Q):=hf it ap;have g:s.heap.IsRevIter it a ((n-1-i:Nat)):=by rw[show((n-1-i:Nat):Int)=(n:Int)-1-i by lia];exact st
  refine wpAny_pyNext_rev_item g p.isList (hu:) λh' g sb=>?_;have I1:=I.turned (t':=s.toks) (λb o q e=>(sb.2 b q).trans e) f0 f1 V f4 Q;let(o,e,c,d):=id g;exact(u,U,AE e c d am (_,H,I1,ru,(U,λys hy=>by rw[I.qj hy hq];exact mu _),by rw[show(n)-1-((i+1:Nat):Int)=((n-1-i:Nat))-1 by lia];exact g,λb q=>(hf b q).1))
 done:=by intro X hP hw hK hc i gd s σ H E I hf st hg;subst hg;let(f0,f1,f2,V,f4,Q):=hf it ap;exact wpAny_pyNext_rev_end (I.ok.hd hc) (by rw[show(-1:Int)=(i:Int)-1-i by lia];exact st) λh' eb=>(U,I.turned (λb o q e=>eb b o q e) f0 f1 V f4 Q)
 self:=λ_ _ _ _ _ st h=>wpAny_pyIter_revIter st h
def OW(K:BT)(tl:TE):TI:=λσ H R=>tl σ H λx H1=>∃a xs,x=.ref a/\SqL K H1 a xs/\R (Itv K a xs.length) H1
def L4{l:Do}{tl:TE}(hg:Gl X "reversed")(hm:X.mg "reversed"=Y)(hl:PE X l tl)(hs:‹AD X l›):PI X tg (.Call (.Name "reversed" p2) [l] [] pos) (OW X.K tl):=by intro gd s σ H R I h;refine KY (gN I hg hm boot_reversed (PyProof.Rows.callWith_type1 ?_ hs U));rw[hs];refine Calls.spliced_cons (thn (hl gd s σ H _ I h) λu s1 z=>?_);let(x,H1,g,Q,a,xs,ex,hq,q):=z;subst ex;cases Q;refine Calls.spliced_nil ?_;let(its,P,pl,hz):=g.list hq;refine call_reversed_list pl.isList ?_;refine wpAny_pyIter_revIter (_,qg _ U,U,U) ?_;refine(s1.heap.objs.size,[s1.heap.objs.size],_,_,H1,U,g.kept λb o e=>jo _ e,CQ a _ xs.length,(_,qg _ U,U,by simp[revObj,P.length]),λb V=>?_,q);have e:=(V:);subst e;exact g.Cf (oQ _) (g.hok.fresh (oQ _))
def MP{a:J}{xs:ώ}:q9 K dl (Itv K a xs.length) xs.reverse [(.ref a,.l xs)] where
 go:=λH i D h hi=>by
  let(F,r):=h _ (fy.mpr U);let(p,vs,G,e,_,h1,h2):=r.r.lst;cases e;exact(by rw[Fx]at hi;exact hi,vs,SqL.of h1,h2.len)
 yld:=λH i x fp v H' D h hx y=>by
  have r:=h _ (fy.mpr U);let(p,vs,G,e,z,h1,h2):=r.r.lst;cases e;let(U,y):=y;have hi:=(mT.mp hx).1;rw[Fx]at hi;rw[R8 hi]at hx;let(w,Q,hw,g,hs):=h2.get hx;have P:=y vs (SqL.of h1);rw[hw]at P;cases P;refine(.refl D,Q,(g,λb q=>r.n b ?_),λb q=>.inr (_,fy.mpr U,?_))
  ·rw[z];exact mm _ (hs b q)
  rw[z];exact mm _ (hs b q)
 stop:=λH D h=>Fx
def Pp(i:Nat):QJ:=λq Q=>match q[i]? with|some (.r (.l xs))=>Q xs.reverse q|_=>False
def Lp(hg:Gl X "reversed")(hm:X.mg "reversed"=Y)(h:PE X e (bN i))(hs:‹AD X e›)(hK:‹X.K=K›):QPJ X K tg (.Call (.Name "reversed" p2) [e] [] pos) (OW K (bN i)) (Pp i):=(by subst hK;exact L4 hg hm h hs,λdl bi hs H σ q Q R (F0,P) hq k=>by
 unfold Pp at hq;split at hq
 ·rename_i xs V;let(v,hv,r):=P.g i _ _ V U;have r1:=P.hold r λj u hj b hb=>(P.o j u hj).2.2 i (λz=>by rw[z,hj]at V;cases V) b hb;let(p,vs,G,U,_,h1,h2):=r.r.lst;refine(_,hv,p,vs,U,SqL.of h1,?_);rw[h2.len];exact k _ _ _ H q (F0,r1) MP hq
 exact hq.elim)
end
variable{op:CmpOp}{op':CmpOp}{r':R2}{rq:Q2}
section
variable{X:Cx}{K:BT}{a b c:Do}{ta tb tc:TE}{qa qb qc:QE}{pos:Pos}
def jI(rq g:Q2)(qa qb qc:QE):QE:=λq Q=>qa q λt=>qb q λu=>rq t u λz=>match z with|.b k=>if k=O then qc q λw=>g u w Q else Q (.b ϊ)|_=>False
def DS{r:R2}{V:Q2}(ho:OpR X (compareOp op) r)(hs:cb K r rq)(aP:OpR X (compareOp op') r')(aN:cb K r' V)(ha:QPE X K a ta qa)(hb:QPE X K b tb qb)(hc:QPE X K c tc qc)
  (hm:lastMarks [op,op'] [b,c]=false:=by with_unfolding_all rfl):QPF X K (.Compare a [op,op'] [b,c] pos) (t9 r r' ta tb tc) (jI rq V qa qb qc):=(EA ho aP ha.h hb.h hc.h hm,λdl H σ q Q R rd hq k =>
ha.s dl H σ q _ _ rd hq λv t F H1 e1 r1 hq=>hb.s dl H1 σ q _ _ (rd.evo e1) hq λw u G H2 e2 r2 hq=>hs dl H2 v w t u F G _ _ e2.d (r1.evo e1.d e2) r2 hq λx z F3 H3 e3 r3 _ _ P=>by
  cases z with
  |b l =>
   let(U,_):=r3.r.bl;refine(l,U,?_);have g:=(e1.trans e2).trans e3;cases l with|false=>exact k _ _ [] H3 g (.c (.b ϊ)) nofun px P|true =>exact hc.s dl H3 σ q _ _ (rd.evo g) P λy s F4 H4 e4 r4 P=>aN dl H4 w y u s G F4 _ _ e4.d ((r2.evo e2.d e3).evo e3.d e4) r4 P λx z F' H5 e5 r5 f5 n5 P=>k x z F' H5 ((g.trans e4).trans e5) r5 (λb hb=>(g.trans e4).free (f5 b hb)) n5 P
  |_=>exact P.elim)
end
variable{elts:List Do}{pos':Pos}{tl:TA}{ql:QA}
section
variable{X:Cx}{K:BT}{a:Do}{pos:Pos}
def Pr(ql:QA):QI:=λq Q=>ql q λts=>match ts with|[.l xs]=>Q (g7 xs)|_=>False
def DP{x1}{p:Pos}(hg:Gl X "enumerate")(hm:X.mg "enumerate"=Y)(cL:bootBuiltins "enumerate"=Z (.type "enumerate"))(V:QPA X K [a] tl ql)(hs:‹AD X a›)(hK:‹X.K=K›):
  QPI X K (.Tuple elts x1 pos') (.Call (.Name "enumerate" p) [a] [] pos) (sQ K ϊ tl) (Pr ql):=(kA hK hg hm cL V.h hs,λdl H σ q Q R rd hq k=>V.s dl H σ q _ _ rd hq λvs ts F H' e1 r _ z=>by
 split at z
 ·let(v,U,P):=r.one;let(l1,g,G,U,_,h1,h2):=P.r.lst;exact(l1,U,(g,SqL.of h1),k _ _ _ H' e1 qF (λp hp=>by rw[fy.mp hp];exact(_,P)) z)
 exact z.elim)
end
end L2
namespace L2
open PySem PySem.Spec PyProof.Rows
variable{op:CmpOp}{op':CmpOp}{r':R2}{rq:Q2}{neg:Bool}{tl:TA}{ql:QA}{tg:Do}{sc:Scope}{x:Str}{fd:Ch}{prs:Γ}{es:List Do}
section
variable{X:Cx}{K:BT}{a b c e o:Do}{ta tb tc:TE}{qa qb qc:QE}{pos apos aN:Pos}{i j:Nat}
def pE{r:R2}{g:Q2}(ho:OpR X (compareOp op) r)(hs:cb K r rq)(q:OpR X (compareOp op') r')(z:cb K r' g)(V:QPE X K a ta qa)(Q:QPE X K b tb qb)(P:QPE X K c tc qc)
  (hm:lastMarks [op,op'] [b,c]=false:=by with_unfolding_all rfl):QPT X K (.Compare a [op,op'] [b,c] pos) (sE (t9 r r' ta tb tc)) (c8 (jI rq g qa qb qc)):=
 (Ed ho q V.h Q.h P.h hm,v5 (Za (DS (pos:=pos) ho hs q z V Q P hm)).s)
def PZ(neg:Bool):Q2:=λt u Q=>match u with|.zl xs=>(t.fl&&fls xs)=O/\Q (.b (if neg then !inT t xs else inT t xs))|_=>False
def Hs:cb K (DG K neg) (PZ neg):=by
 intro dl H x y t u F G Q R D q g hq k;cases u with
 |zl xs =>
  let(f,hq):=hq;rw[ri]at f;let(p,o,vs,U,_,h1,h2):=g.r.zls;let(U,U):=q.r.v f.1;let(U,_):=h2.vs f.2;refine .inl (p,_,U,.inl (.inl (.inr (o,h1))),AH f.1,iP f.2,k _ (.b _) [] H (.refl D) (.c (.b _)) nofun px ?_);have e:inV t.v (xs.map T.v)=inT t xs:=by unfold inV inT;rw[Ss];rfl
  rw[e];exact hq
 |_=>exact hq.elim
def D4(i j:Nat)(ql:QA):QS:=λD q=>match q[i]? with|some (.o (.l xs))=>ql q λts=>∃(n:Nat)(ys zs:ώ),ts=[.i n]/\xs=ys++zs/\zs.length=n/\n<=1000000/\T.ims xs=O/\i≠j/\D.nx ((q.set i (.o (.l ys))).set j (.o (.l zs.reverse)))|_=>False
def Dc{i k:Nat}(ha:JR K k tl ql):jm K (fV (mX [Y,Z i] (xv tl) (cU 0) sD (C1 K "list" Dz (bN 1))) (cU j)) (D4 i j ql):=λdl bi hs H σ q Dq D (F,r) hq E=>by
 unfold D4 at hq;split at hq
 ·rename_i xs ei;refine ha dl H σ q _ _ r.rd hq λa5 ts F1 H1 e1 ra _ hz=>?_;let(n,ys,zs,U,U,hn,hl,a3,bg,hk):=hz;let(v0,U,a0):=ra.one;let(U,_):=a0.r.int;let(v,hv,rp):=r.g i _ _ ei U;have aT:=rp.evo r.d e1;let(p,vs,G,U,eF,h1,h2):=aT.r.lst;obtain rfl:=h2.im a3;have hlen:=h2.len;rw[mS]at hlen;let(G1,r1,s1):=h2.take ys.length;let(G2,r2,s2):=h2.drop ys.length;rw[S3]at r1;rw[List.drop_left]at r2;obtain rfl:=RD.mp s1;obtain rfl:=RD.mp s2;have lw:(vs.drop ys.length).length=n:=by rw[yb];omega
  have ev:vs=vs.take ys.length++vs.drop ys.length:=(Ru _ _).symm;generalize vs.take ys.length=us at ev r1;generalize vs.drop ys.length=ws at ev r2 lw;subst ev;refine(_,U,bd,bd,?_);refine(λc m acc P H'=>m=n-c/\c<=n/\H' p=Z (.lst (us++ws.take (n-c)))/\(∀b,b≠p->H' b=H1 b)/\acc=(ws.drop (n-c)).reverse/\∃o,P=[o,Z (.ref p)],
(n,ap,Rm _,by rw[Sv,RE bd];exact h1,λ_ _=>rfl,by rw[Sv,List.drop_of_length_le bd];rfl,Y,by unfold jW;simp[hv]),?_)
  rintro c m acc P H' ⟨rfl,hc,hp,hb,rfl,o,rfl⟩;by_cases Q:c<n
  ·refine .inr (Q,Rq (by rw[Fx,yb];omega:_<=1000000) am,λacc P H'=>c+1<=n/\H' p=Z (.lst (us++ws.take (n-(c+1))))/\(∀b,b≠p->H' b=H1 b)/\acc=(ws.drop (n-(c+1))).reverse/\∃o,P=[o,Z (.ref p)],λacc P H' h=>(n-(c+1),bd,U,h),?_);rintro x H2 ⟨rfl,rfl⟩;have hm:n-(c+1)<ws.length:=bd;have aN:n-c=(n-(c+1))+1:=bd;replace hp:H2 p=Z (.lst (us++ws.take (n-(c+1))++[ws[n-(c+1)]])):=by rw[hp,aN,ui,mu hm,wh];rfl
   refine(_,U,.inl (U,_,SqL.of hp),p,_,ws[n-(c+1)],U,U,hp,by rw[<- List.getLast?_eq_getElem?];exact List.getLast?_concat,Q,?_,λb V=>?_,?_,_,U)
   ·show upd H2 p _ p=_;rw[au,Sh]
   ·rw[ak V];exact hb b V
   rw[aN,<- List.getElem_cons_drop (h:=hm),Rz]
  have ec:c=n:=bd;subst ec;rw[Ti,List.take_zero,u3]at hp;refine .inl (oQ _,by rw[Fx,yb];exact x9 (Rq (by omega:_<=1000000) am),λDd hD=>?_);rw[Ti,Sy];have eH:H'=upd H1 p (.lst us):=by
   funext b;by_cases z:b=p
   ·rw[z,hp,au]
   rw[hb b z,ak z]
  subst eH;let(F3,r3):=r.pC ei hv eF e1 r1 px nofun;have ne:∀{a:J}{u:HO},H1 a=Z u->(∀xs,u ≠ .lst xs)->a≠p:=λh n z=>by rw[z,h1]at h;exact n _ (Option.some.inj h).symm
  have tf:TF H1 (upd H1 p (.lst us)):=(λa bc h=>by rw[ak (ne h nofun)];exact h,λa ob u h=>by rw[ak (ne h nofun)];exact h,λa φ h=>by rw[ak (ne h nofun)];exact h,λa aP h=>(by
   by_cases z:a=p
   ·subst z;exact(_,au)
   exact(aP,by rw[ak z];exact h)),λa x h=>(x,NC _,by rw[ak (ne h nofun)];exact h))
  have r4:Rps K dl (upd H1 p (.lst us)) ws.reverse zs.reverse []:=((r2.cJ tf (λ_ z=>z) bu).rev U,nofun);exact E.nx _ _ _ (r3.yV ((Evo.refl r3.d).new hD) (r4.lst r3.d hD) (λb hb=>by rw[fy.mp hb];exact hD) ap) hk
 exact hq.elim
def HM{i:Nat}{y n1 n2:Str}{g Q:Pos}{pos dF py:Pos}(hN:X.N.Nodup)(P:X.N[j]?=Z y)(hy:Loc X.env.scope y)
  (hc:X.calm=O) (hg:Gl X "range") (hm:X.mg "range"=Y) (ha:QPA X K [a] tl ql) (nU:j6 X sc [n1,n2] [Y,Z i])
  (V:∀cl C s₂ H₂ fp,PG (blk X [n1,n2] sc cl C s₂ H₂ fp) tg (cU 0)/\PE (blk X [n1,n2] sc cl C s₂ H₂ fp) o (bN 1)) (hK:‹X.K=K›)
  (dM:∀cl C s₂ H₂ fp,attributeBase o "pop" (blk X [n1,n2] sc cl C s₂ H₂ fp).env (eval o (blk X [n1,n2] sc cl C s₂ H₂ fp).env)=eval o (blk X [n1,n2] sc cl C s₂ H₂ fp).env:=by intros;rfl) (dI:‹(apos.endLine==aN.line)=true›)
  (z:‹AD X a›)
  (q:‹swapsWith (.ListComp (.Call (.Attribute o "pop" apos) [] [] aN) [(tg,.Call (.Name "range" g) [a] [] Q,[],0)] sc pos) (Z (.Name y py)) dF.line X.env=pure true›)
  (hf:AT X y:=by first|exact .inl rfl|exact .inr rfl|assumption)
  (eV:‹sc.kind=.function›) (dJ:autoParam (∀y∈sc.names,y.2 ≠ .cell) zdc._auto_1) (eU:autoParam (∀y∈sc.names,y.2=.local->sc.names.lookup y.1=Z .local) zdc._auto_1)
  (ff:‹(sc.names.all λy=>y.2 != .free ||(X.env.kindOf y.1==Z .cell||X.env.kindOf y.1==Z .free))=true›)
  (hs:∀x,foldedSetIterable (.Call (.Name "range" g) [a] [] Q) X.env x=pure x:=by intro _;rfl):
  QPS X K (.Assign [.Name y py] (.ListComp (.Call (.Attribute o "pop" apos) [] [] aN) [(tg,.Call (.Name "range" g) [a] [] Q,[],0)] sc pos) dF) (fV (mX [Y,Z i] (xv tl) (cU 0) sD (C1 K "list" Dz (bN 1))) (cU j)) (D4 i j ql):=
 (by subst hK;exact uF hN P hy hc (my hg hm ha.h z) nU (λcl C s₂ H₂ fp=>((V cl C s₂ H₂ fp).1,uE,y8 PySem.F.plainAttrs_list PySem.F.slot_list_pop PySem.F.type_list_pop zj (V cl C s₂ H₂ fp).2 (dM cl C s₂ H₂ fp) dI)) q hf eV dJ eU ff hs,Dc ha.s)
theorem wo{f:J}{k:Nat}{ps:PSp}{ta:(St->XK)->TA}{qa:QAX}{p:Pos}(F:aS X.prog X.w X.K X.mg X.base CX0 k f fd prs (spQ K ps))(hr:cn k X.A)(hg:Gl X x)(hm:X.mg x=Z (.ref f))(hk:W.keepIn X.K (.ref f)=O)(V:Binds X.K fd prs [])(ha:Cz X K (e::es) ta qa)
  (P:autoParam (AS x) zdc._auto_1) (he:‹AC X e es›) (z:‹AM X pos es›):QPX X K (.Call (.Name x p) (e::es) [] pos) (λEs=>mY (spQ K ps) [] E0 (ta Es)) (λq Q W=>qa q (λts=>ps ts Q) W):=
 (λEs a=>oB F hr hg hm hk V .nil wU (ha.h Es a) P he z,λdl H σ q Q W R Es rd hq k1 k2=>ha.s dl H σ q _ _ _ Es rd hq (λvs ts F H1 e1 r1 _ g=>by rw[u3];exact(dl,ts,F,Q,e1.d,r1,g,λv t F' H' e r f n g=>k1 v t F' H' (e1.trans e) r (λb V=>e1.free (f b V)) n g)) k2)
end
variable{a:J}{elts:List Do}{pos':Pos}
section
variable{X:Cx}{K:BT}{dl:Dl}
def Jk{b:J}{xs ys:ώ}:q9 K dl (Itz K O ϊ a b) (lO xs ys) [(.ref a,.t xs),(.ref b,.l ys)] where
 go:=λH i D h hi=>by
  let(F,r):=h (.ref a,.t xs) ap;let(F',r'):=h (.ref b,.l ys) ap;let(p,vs,e,h1,h2):=r.r.tup;cases e;let(p',g,G',e',V,Q,P):=r'.r.lst;cases e';rw[cZ]at hi;have l1:i<vs.length:=by rw[h2.len];omega
  have l2:i<g.length:=by rw[P.len];omega
  exact(vs,g,vs[i],g[i],SqT.of h1,SqL.of Q,by simp[l1],by simp[l2])
 yld:=λH i x fp v H' D h hx y=>by
  have r:=h (.ref a,.t xs) ap;have r':=h (.ref b,.l ys) ap;let(p,vs,e,h1,h2):=r.r.tup;cases e;let(p',g,G',e',V,Q,P):=r'.r.lst;cases e';let(x1,y1,bc,a5,U):=gs hx;let(w1,G1,br,a3,aN):=h2.get bc;let(w2,G2,bg,a0,bz):=P.get a5;let(q,u1,u2,hq,U,U,aT,aP):=y;have e1:=aT vs (SqT.of h1);rw[br]at e1;cases e1;have e2:=aP g (SqL.of Q);rw[bg]at e2;cases e2;have m2:∀c∈G2,c∈fp (.ref b,.l ys):=λc hc=>by rw[V];exact mm _ (bz c hc)
  have rs:Rps K dl H [w1,w2] [x1,y1] (G1++(G2++[])):=Rps.cons (a3,λb hb=>r.n b (aN b hb)) (Rps.cons (a0,λb hb=>r'.n b (m2 b hb)) (.nil,nofun));refine((Evo.refl D).new hq,_,rs.tup D hq,λc hb=>.inr ?_);rw[u3]at hb;obtain z|z:=rh.mp hb
  ·exact((.ref a,.t xs),ap,aN c z)
  exact((.ref b,.l ys),ap,m2 c z)
 stop:=λH D h=>by
  let(F,r):=h (.ref a,.t xs) ap;let(F',r'):=h (.ref b,.l ys) ap;let(p,vs,e,h1,h2):=r.r.tup;cases e;let(p',g,G',e',V,Q,P):=r'.r.lst;cases e';refine(vs,g,SqT.of h1,SqL.of Q,?_);rw[cZ,h2.len,P.len];omega
variable{a b:Do}{pos p:Pos}
inductive Q0(ts:ώ)(Q:ώ->Prop):Prop
 |mk(xs ys:ώ)(h:ts=[.t xs,.l ys])(hq:Q (lO xs ys))
def Aa{x1}(hg:Gl X "zip")(hm:X.mg "zip"=Y)(cL:bootBuiltins "zip"=Z (.type "zip"))(ha:QPA X K [a,b] tl ql)(hs:‹nY [a,b] X.env=[(ϊ,eval a X.env),(ϊ,eval b X.env)]›)(P:‹AD X b›)(hK:‹X.K=K›):
  QPI X K (.Tuple elts x1 pos') (.Call (.Name "zip" p) [a,b] [] pos) (Fl K O ϊ tl) (λq Q=>ql q λts=>Q0 ts Q):=(uM hK hg hm cL ha.h hs P,λdl H σ q Q R rd hq k=>ha.s dl H σ q _ _ rd hq λvs ts F H' e1 r _ (xs,ys,e,hz)=>by
 subst e;let(v,w,F1,F2,U,r1,V):=r.two;let(l1,z,U,h1,h2):=r1.r.tup;let(l2,g,G2,U,aN,h3,h4):=V.r.lst;exact(l1,l2,U,(z,SqT.of h1),(g,SqL.of h3),k _ _ _ H' e1 Jk (λp hp=>by
  simp only[ot,ya,or_false]at hp;obtain rfl|rfl:=hp
  ·exact(_,r1)
  exact(_,V)) hz))
end
end L2
namespace K55
open PySem L2
open L2.T renaming ims→ϔ,s→ϕ,i→ϖ,t→ϗ
abbrev Zd:Str:="piece"
abbrev Ze:Str:="_law_deal_here"
abbrev Zf:Str:="_law_f"
abbrev Zg:Str:="_law_scope"
abbrev Zh:Str:="functions"
abbrev Zi:Str:="_law_world"
abbrev Zj:Str:="_law_room"
abbrev Zk:Str:="_law_n"
abbrev Zl:Str:="_law_many"
abbrev Zm:Str:="_law_words_here"
abbrev Zn:Str:="_law_script"
abbrev Zo:Str:="_law_body_here"
abbrev Zp:Str:="_law_piece"
abbrev Zq:Str:="_law_program_here"
abbrev Zr:Str:="_law_kind"
abbrev Zs:Str:="_law_found"
abbrev Zt:Str:="_law_k"
abbrev Zu:Str:="_law_some"
abbrev Zv:Str:="_law_kinds_here"
abbrev Zw:Str:="_law_cell"
abbrev Zx:Str:="_law_new"
abbrev Zy:Str:="_law_base"
abbrev Zz:Str:="_law_other"
abbrev ZA:Str:="_law_fields"
abbrev ZB:Str:="_law_heads"
abbrev ZC:Str:="_law_name"
abbrev ZD:Str:="_law_most"
def tgT:L2.T->Nat
 |.t [_,_]=>0|.t [_,.i _,_]=>1|.t [_,_,_]=>2|.t [_,_,_,_]=>3|.t [.s w,_,_,_,_]=>if w="make" then 4 else 5|_=>6
def top(i:Nat):Ev:=PySem.Challenge.pw_pursewright_k55_things_moved.main.body.getD i (.Pass (0,0,0,0))
abbrev fns:Γ:=[]
abbrev kb:Ev:=inClass (top 16) 0
abbrev gu:Ev:=inClass (top 3) 0
theorem um:az ["self",Zd,"above","arm"] ["self",Zd,"above","arm"] (aq gu):=by symm
abbrev fE:Ev:=inClass (top 28) 0
theorem rL:az ["self","kinds","makers",Zh] ["self","kinds","makers",Zh] (aq fE):=by symm
abbrev ix:Ev:=top 1
theorem gx:az [Zh,"name","number","function"] [Zh,"name"] (aq ix):=by symm
abbrev uq:Ev:=top 4
theorem ke:az ["body","told","waiting","spot"] ["body"] (aq uq):=by symm
abbrev dP:Ev:=top 5
theorem l5:az [Zd,"number"] [Zd,"number"] (aq dP):=by symm
abbrev ph:Ev:=top 6
theorem Bu:az ["body"] ["body"] (aq ph):=by symm
abbrev jE:Ev:=top 8
theorem v9:az ["program","f"] ["program","f"] (aq jE):=by symm
abbrev ez:Ev:=top 9
theorem nK:az [Zd] [Zd] (aq ez):=by symm
abbrev pz:Ev:=top 10
theorem fY:az ["laid","n","begun","number"] ["laid","n"] (aq pz):=by symm
abbrev dw:Ev:=top 11
theorem cu:az ["laid","n","told","number"] ["laid","n"] (aq dw):=by symm
abbrev md:Ev:=top 12
theorem eu:az ["laid","built",Zd,"source","bodies"] ["laid"] (aq md):=by symm
abbrev fH:Ev:=top 13
theorem iu:az [Zd,"bodies","arms"] [Zd,"bodies"] (aq fH):=by symm
abbrev yz:Ev:=top 19
theorem uh:az ["program","f","n",Zd,"word","g"] ["program","f","n",Zd] (aq yz):=by symm
abbrev iD:Ev:=top 21
theorem kh:az ["program","f","n","laid"] ["program","f","n"] (aq iD):=by symm
abbrev gA:Ev:=top 22
theorem bW:az ["program","f","n","laid",Zd,"behind","begins","told","number"] ["program","f","n"] (aq gA):=by symm
abbrev ur:Ev:=top 24
theorem Dr:az ["program","f","n"] ["program","f","n"] (aq ur):=by symm
abbrev iw:Ev:=top 25
theorem kc:az ["program","f","body",Zh] ["program","f","body"] (aq iw):=by symm
abbrev yC:Ev:=top 27
theorem i8:az ["program","kinds","kind","makers","known","function"] ["program"] (aq yC):=by symm
abbrev yA:Ev:=top 29
theorem Hz:az ["known","name"] ["known","name"] (aq yA):=by symm
abbrev yJ:Ev:=top 30
theorem HA:az ["bound","name","what"] ["bound","name","what"] (aq yJ):=by symm
abbrev fI:Ev:=top 31
theorem bJ:az ["kinds","rows","makers","kind","own","maker","fields","field"] ["kinds","rows"] (aq fI):=by symm
abbrev dv:Ev:=top 32
theorem cq:az ["rows",Zh,"function","due"] ["rows"] (aq dv):=by symm
abbrev dQ:Ev:=top 33
theorem cD:az ["known","function","bound","name","kind"] ["known","function"] (aq dQ):=by symm
abbrev iB:Ev:=top 34
theorem bS:az ["known","function","params","waiting","begun","arm","bound",Zd,"arms"] ["known","function","params"] (aq iB):=by symm
abbrev iz:Ev:=top 35
theorem dW:az ["arm","fields","above","bound","name","kind"] ["arm","fields","above"] (aq iz):=by symm
abbrev gy:Ev:=top 36
theorem jq:az ["known",Zd,"bound","word"] ["known",Zd,"bound"] (aq gy):=by symm
abbrev jD:Ev:=top 37
theorem cS:az ["makings",Zd,"bound","names","name","due","kind"] ["makings",Zd,"bound"] (aq jD):=by symm
abbrev iy:Ev:=top 38
theorem uk:az ["bound","name","kind"] ["bound","name","kind"] (aq iy):=by symm
abbrev iC:Ev:=top 39
theorem kg:az ["known",Zd,"bound","makers"] ["known",Zd,"bound"] (aq iC):=by symm
abbrev yG:Ev:=top 41
theorem ki:az [Zn,Zy,"_law_cells","_law_number",Zw] [Zn,Zy] (aq yG):=by symm
abbrev yF:Ev:=top 42
theorem og:az [Ze,Zl,"_law_number","_law_one",Zz] [Ze,Zl] (aq yF):=by symm
abbrev uo:Ev:=top 43
theorem bH:az [Ze,Zl,"_law_letters","_law_core","_law_at","_law_turn",Zs,Zt,"_law_own","_law_word","_law_near"] [Ze,Zl] (aq uo):=by symm
abbrev uv:Ev:=top 44
theorem b8:az [Ze,Zm,"_law_form","_law_a","_law_b","_law_m",Zs,Zl,"_law_made",Zt,"_law_makers","_law_j","_law_wide",ZA] [Ze,Zm] (aq uv):=by symm
abbrev yE:Ev:=top 45
theorem n8:az [Ze,Zg,Zu,Zs,Zr,"_law_own"] [Ze,Zg,Zu] (aq yE):=by symm
abbrev uw:Ev:=top 46
theorem cK:az [Ze,Zi,Zg,Zr,Zf,Zv,ZB,Zm,"_law_own","_law_x","_law_maker",ZA,"_law_names"] [Ze,Zi,Zg,Zr,Zf] (aq uw):=by symm
abbrev yH:Ev:=top 47
theorem cM:az [Ze,Zi,Zg,Zf,Zj,Zv,ZB,Zm,"_law_x",Zr,"_law_makers","_law_arms","_law_maker",ZA,"_law_more","_law_names"] [Ze,Zi,Zg,Zf,Zj] (aq yH):=by symm
abbrev yI:Ev:=top 48
theorem bL:az [Ze,Zi,Zg,Zf,Zj,Zv,ZB,Zm,Zr,"_law_form","_law_x","_law_coins","_law_word","_law_y",Zz,"_law_g","_law_names",ZC,"_law_makers","_law_maker",ZA] [Ze,Zi,Zg,Zf,Zj] (aq yI):=by symm
abbrev l7:Ev:=top 49
theorem bI:az [Ze,ZD,Zj,Zm,Zv,ZB,Zf,Zl,"_law_params","_law_functions","_law_head",Zo] [Ze,ZD,Zj] (aq l7):=by symm
abbrev ma:Ev:=top 50
theorem yy:az [Zp] [Zp] (aq ma):=by symm
abbrev l9:Ev:=top 51
theorem jC:az [Zo,Zs,"_law_inner"] [Zo] (aq l9):=by symm
abbrev yB:Ev:=top 52
theorem fc:az [Zo,Zk,Zx,"_law_at",Zs,"_law_inner",Zl,"_law_arms"] [Zo,Zk,Zx] (aq yB):=by symm
abbrev uu:Ev:=top 53
theorem Ds:az [Zp] [Zp] (aq uu):=by symm
abbrev yD:Ev:=top 54
theorem dX:az [Zq,Zf,Zk,Zv,"_law_functions",Zo,Zp,"_law_after",Zx,"_law_turned"] [Zq,Zf,Zk] (aq yD):=by symm
abbrev pj:Ev:=top 55
theorem i9:az [Zq,Zf,Zk,Zs] [Zq,Zf,Zk] (aq pj):=by symm
abbrev mZ:Ev:=top 56
theorem fG:az [Zn,Ze,Zq,"_law_turn",Zf,Zu,Zk,"_law_lets","_law_due_here"] [Zn] (aq mZ):=by symm
set_option genInjectivity false in
structure Adr where
 aT:J
 br:J
 bU:J
 kS:Ch
 ck:J
 aY:J
 cV:J
 iR:Ch
 aP:J
 cG:J
 gS:Ch
 fh:J
 m9:Ch
 oH:J
 AN:Ch
 cN:J
 g8:Ch
 kO:J
 xI:Ch
 gQ:J
 qP:Ch
 dg:J
 iQ:Ch
 kQ:J
 xK:Ch
 cF:J
 gg:Ch
 jg:J
 sY:Ch
 dD:J
 jv:Ch
 vj:J
 FP:Ch
 fu:J
 nj:Ch
 d6:J
 kW:Ch
 oI:J
 AO:Ch
 fg:J
 m8:Ch
 f_look:J
 FT:Ch
 vk:J
 FQ:Ch
 vv:J
 FZ:Ch
 dE:J
 jw:Ch
 cE:J
 gf:Ch
 cO:J
 g9:Ch
 fq:J
 nh:Ch
 fj:J
 ng:Ch
 d5:J
 kU:Ch
 gP:J
 qO:Ch
 fi:J
 nc:Ch
 ft:J
 ni:Ch
 vq:J
 FX:Ch
 vp:J
 FW:Ch
 oG:J
 AL:Ch
 oK:J
 AR:Ch
 vo:J
 FV:Ch
 oM:J
 AU:Ch
 vt:J
 FY:Ch
 qK:J
 zD:Ch
 jd:J
 sV:Ch
 jf:J
 sX:Ch
 je:J
 sW:Ch
 vm:J
 FR:Ch
 oJ:J
 AQ:Ch
 vn:J
 FU:Ch
 kP:J
 xJ:Ch
 sU:J
 Kz:Ch
structure Txt(K:BT)(mg:Υ)(a:Adr):Prop where
 G0:mQ K fns a.aT (bmV) Y
 GH:mg "PurseError"=Z (.ref a.aT)
 GJ:W.keepIn K (.ref a.aT)=O
 J0:mQ K fns a.br (.ref a.aT::bmV) (Z a.bU)
 IU:mg "NoProgram"=Z (.ref a.br)
 Ji:W.keepIn K (.ref a.br)=O
 gY:Fun K "__init__" "NoProgram.__init__" kb a.bU a.kS
 Jx:W.isFn K (.ref a.bU)=O
 JE:Binds K a.kS ["self","word","name"] []
 j7:mQ K fns a.ck (.ref a.aT::bmV) Y
 mE:mg "NoTurn"=Z (.ref a.ck)
 sN:W.keepIn K (.ref a.ck)=O
 k7:Cls K a.aY
 uZ:mg "Spot"=Z (.ref a.aY)
 u7:Mk K a.aY a.cV
 fP:cc K a.aY "piece"
 rT:cc K a.aY "above"
 w5:cc K a.aY "arm"
 fB:Fun K "__init__" "Spot.__init__" gu a.cV a.iR
 I0:Meth K a.aY "__init__" a.cV
 iU:Binds K a.iR ["self",Zd,"above","arm"] []
 dN:Cls K a.aP
 E1:mg "Known"=Z (.ref a.aP)
 E4:Mk K a.aP a.cG
 c9:cc K a.aP "kinds"
 gZ:cc K a.aP "makers"
 eD:cc K a.aP "functions"
 d8:Fun K "__init__" "Known.__init__" fE a.cG a.gS
 GI:Meth K a.aP "__init__" a.cG
 vF:Binds K a.gS ["self","kinds","makers",Zh] []
 nd:[a.aT,a.br,a.ck].Nodup
 nE:Dn K mg "number_of" ix a.fh a.m9 [Zh,"name"]
 A8:Dn K mg "spots" uq a.oH a.AN ["body"]
 hV:Dn K mg "spots_beneath" dP a.cN a.g8 [Zd,"number"]
 yh:Dn K mg "pieces" ph a.kO a.xI ["body"]
 rC:Dn K mg "laid_out" jE a.gQ a.qP ["program","f"]
 dn:Dn K mg "many_beneath" ez a.dg a.iQ [Zd]
 yj:Dn K mg "end_of" pz a.kQ a.xK ["laid","n"]
 gn:Dn K mg "begins_beneath" dw a.cF a.gg ["laid","n"]
 jh:Dn K mg "body_of" md a.jg a.sY ["laid"]
 jA:Dn K mg "with_bodies" fH a.dD a.jv [Zd,"bodies"]
 GA:Dn K mg "uses" yz a.vj a.FP ["program","f","n",Zd]
 nI:Dn K mg "laid_with" iD a.fu a.nj ["program","f","n"]
 lJ:Dn K mg "laid_moved" gA a.d6 a.kW ["program","f","n"]
 A9:Dn K mg "moved" ur a.oI a.AO ["program","f","n"]
 fC:Dn K mg "with_body" iw a.fg a.m8 ["program","f","body"]
 GB:Dn K mg "look" yC a.f_look a.FT ["program"]
 i5:Dn K mg "need" yA a.vk a.FQ ["known","name"]
 bR:Dn K mg "bind" yJ a.vv a.FZ ["bound","name","what"]
 jB:Dn K mg "look_makers" fI a.dE a.jw ["kinds","rows"]
 gm:Dn K mg "look_functions" dv a.cE a.gf ["rows"]
 hZ:Dn K mg "look_function" dQ a.cO a.g9 ["known","function"]
 nG:Dn K mg "look_body" iB a.fq a.nh ["known","function","params"]
 nF:Dn K mg "look_head" iz a.fj a.ng ["arm","fields","above"]
 d9:Dn K mg "look_piece" gy a.d5 a.kU ["known",Zd,"bound"]
 cR:Dn K mg "look_use" jD a.gP a.qO ["makings",Zd,"bound"]
 i4:Dn K mg "need_kind" iy a.fi a.nc ["bound","name","kind"]
 nH:Dn K mg "look_arms" iC a.ft a.ni ["known",Zd,"bound"]
 vP:Dn K mg "_law_deal" yG a.vq a.FX [Zn,Zy]
 a5:Dn K mg "_law_draw" yF a.vp a.FW [Ze,Zl]
 A7:Dn K mg "_law_words" uo a.oG a.AL [Ze,Zl]
 Bb:Dn K mg "_law_kinds" uv a.oK a.AR [Ze,Zm]
 rD:Dn K mg "_law_fill" yE a.vo a.FV [Ze,Zg,Zu]
 vO:Dn K mg "_law_ended" uw a.oM a.AU [Ze,Zi,Zg,Zr,Zf]
 GD:Dn K mg "_law_case" yH a.vt a.FY [Ze,Zi,Zg,Zf,Zj]
 j4:Dn K mg "_law_body" yI a.qK a.zD [Ze,Zi,Zg,Zf,Zj]
 tQ:Dn K mg "_law_program" l7 a.jd a.sV [Ze,ZD,Zj]
 mV:Dn K mg "_law_bodies" ma a.jf a.sX [Zp]
 gj:Dn K mg "_law_pieces" l9 a.je a.sW [Zo]
 zQ:Dn K mg "_law_put" yB a.vm a.FR [Zo,Zk,Zx]
 Ba:Dn K mg "_law_uses" uu a.oJ a.AQ [Zp]
 GC:Dn K mg "_law_due" yD a.vn a.FU [Zq,Zf,Zk]
 rB:Dn K mg "_law_moved" pj a.kP a.xJ [Zq,Zf,Zk]
 PF:Dn K mg "law" mZ a.sU a.Kz [Zn]
 bB:mg "len"=Y
 mM:mg "list"=Y
 cH:mg "tuple"=Y
 KC:mg "int"=Y
 zF:mg "dict"=Y
 gT:mg "reversed"=Y
 F9:mg "max"=Y
 dm:mg "range"=Y
 xQ:mg "zip"=Y
 dO:mg "enumerate"=Y
 JF:mg "ValueError"=Y
def u9:Str:="abcdefghijklmnopqrstuvwxyz"
def xo:Γ:=["kind","def","to","let","make","call"]
def jr:Γ:=["name","case","end","pay","get","give"]
def kept:Γ:=xo++jr
def near:Γ:=["lets","callx","payer","ender","tom","nameb","makes","gets","giver","kinds","defs","cases"]
theorem As{i:Int}(h0:0<=i)(h1:i<26):atI (Str.cps u9).toList i=Z (nN i.toNat):=by obtain⟨n,rfl⟩:∃n:Nat,i=n:=(i.toNat,bd);have h2:n<26:=bd;have h3:∀n:Fin 26,atI (Str.cps u9).toList (n.val)=Z (nN n.val):=bn;have:=h3 (n,h2);simpa using this
theorem EY:∀w∈near,1<=w.length/\w.length<=20:=bn
def tM(m:Mk1):T:=.t [.s m.1,.t (m.2.map .s)]
def tMs(ms:List Mk1):T:=.t (ms.map tM)
def tK(k:Kd):T:=.t [.s k.1,tMs k.2]
def tKs(ks:ϑ):T:=.t (ks.map tK)
theorem aW{α:Type}{f:α->T}(h:∀x,(f x).im=O):∀xs:List α,T.ims (xs.map f)=O
 |[]=>rfl|x::r=>by show((f x).im&&T.ims (r.map f))=O;rw[h x,aW h r];rfl
theorem Fj(m:Mk1):(tM m).im=true:=by show(O&&(T.ims (m.2.map T.s)&&O))=O;rw[aW (λ_=>rfl)];rfl
theorem eR(m:List Mk1):(tMs m).im=true:=aW Fj m
theorem xu(m:Kd):(tK m).im=true:=by show(O&&((tMs m.2).im&&O))=O;rw[eR];rfl
theorem iN(m:ϑ):(tKs m).im=true:=aW xu m
inductive Ib(ts:ώ)(Q:ϐ):Prop
 |mk(m:Int)(h1:ts=[.dj,.i m])(h2:0<m)(h3:m<=52)(h4:∀ws:Γ,(ws.length:Int)=m->ws.Nodup->(∀w∈ws,1<=w.length/\w.length<=20)->Q (.l (ws.map .s)))
variable{ws:Γ}
theorem bA{w:Str}:inT (.s w) (ws.map T.s)=inV (.str w) (ws.map V.str):=by unfold inT inV;rw[Ss,Ss];rfl
theorem cB(ws:Γ):fls (ws.map T.s)=true:=by unfold fls;rw[List.all_map,JW];exact λ_ _=>rfl
theorem ay(ws:Γ):T.ims (ws.map T.s)=true:=aW (λ_=>rfl) ws
theorem noq{w z:Str}(h:z∈jr):w++("q":Str)≠z:=by
 intro e;have h1:(w++("q")).cps.toList.getLast?=Z 113:=by simp[Str.cps_append,show(Str.ofString "q").cps=#[113]from by decide +kernel]
 rw[e]at h1;have h2:∀z∈jr,z.cps.toList.getLast? ≠ Z 113:=bn;exact h2 z h h1
theorem Ml{w:Str}:inV (.str (w++("q":Str))) (jr.map V.str)=false:=by cases e:inV (.str (w++("q"))) (jr.map V.str)with|false=>rfl|true=>exact absurd U (noq (de.mp e))
theorem jR{w:Str}:inV (.str w) (kept.map V.str)=(inV (.str w) (xo.map V.str)||inV (.str w) (jr.map V.str)):=by unfold kept inV;rw[pq,List.any_append]
theorem JH{i:Int}(h0:0<=i)(h1:i<ws.length):∃w,atI (ws.map T.s) i=Z (.s w)/\w∈ws:=by let(v,e,hm):=Nb (xs:=ws.map T.s) h0 (h1:);let(w,hw,U):=sd.mp hm;exact(w,e,hw)
structure x5(ks:ϑ):Prop where
 k1:1<=ks.length
 k2:ks.length<=3
 nd:(ks.map (·.1)).Nodup
 mn:(names ks).Nodup
 ne:∀k∈ks,k.2 ≠ []/\k.2.length<=6
 fl:∀k∈ks,∀m∈k.2,m.2.length<=4/\∀f∈m.2,f∈ks.map (·.1)
inductive Ih(ts:ώ)(Q:ϐ):Prop
 |mk(ws:Γ)(h1:ts=[.dj,.l (ws.map .s)])(h2:ws.length=40)(h3:ws.Nodup)(h4:∀ks,x5 ks->(∀m∈names ks,m∈ws)->Q (tKs ks))
variable{j:Nat}
theorem eO{w:Str}(h:ws[j]?=Z w):atI (ws.map T.s) (j:Int)=Z (.s w):=b7 (by rw[kf,h];rfl)
theorem Pj(h:ws.length=40):cg (ws.map T.s) (Z 4) Y++cg (ws.map T.s) Y (Z 4)=(ws.drop 4++ws.take 4).map T.s:=by
 unfold cg;have q:HT.sIx (ws.map T.s).length 0 (Z 4)=4:=by rw[e7,h];rfl
 have g:HT.sIx (ws.map T.s).length (ws.map T.s).length (Z 4)=4:=by rw[e7,h];rfl
 rw[q,g];show(TB 4 (ws.map T.s)).take ((ws.map T.s).length-4)++(TB 0 (ws.map T.s)).take (4-0)=_;rw[RE (by rw[yb];lia),Sy,pq,RI,Lh]
theorem F6{α β:Type}(f:α->β)(xs:List α)(lo hi:Option Int):cg (xs.map f) lo hi=(cg xs lo hi).map f:=by unfold cg;rw[e7,<- RI,<- Lh]
theorem AA(ws:Γ)(lo hi:Option Int):T.ims (cg (ws.map T.s) lo hi)=true:=by rw[F6];exact ay _
theorem Ow(x y:Int)(b:Bool):atI [T.i x,T.i y] (if b=O then 1 else 0)=Z (.i (if b=O then y else x)):=by cases b <;> rfl
variable{y:Int}{z:Int}
theorem Ki{x r:Int}(h0:0<=r)(h1:r<3):∃v,atI [T.i x,T.i y,T.i z] r=Z (.i v)/\(v=x\/v=y\/v=z):=by obtain⟨n,rfl⟩:∃n:Nat,r=n:=(r.toNat,bd);match n,h1 with| 0,_=>exact(x,U,.inl U)| 1,_=>exact(y,U,.inr (.inl U))| 2,_=>exact(z,U,.inr (.inr U))|n+3,h=>lia
theorem leK(a b:Nat)(h:‹Nat.ble a b=true›):a<=b:=SY h
theorem zG{α:Type}{p:α->Prop}:∀x∈([]:List α),p x:=λ_ h=>absurd h ya
theorem all1{α:Type}{p:α->Prop}{a:α}(h:p a):∀x ∈ [a],p x:=λ_ hx=>fy.mp hx▸h
theorem all2{α:Type}{p:α->Prop}{a b:α}(h:p a)(h2:p b):∀x ∈ [a,b],p x:=λx hx=>(ot.mp hx).elim (λe=>e▸h) (all1 h2 x)
theorem QY{α:Type}{p:α->Prop}{a b c:α}(h:p a)(h2:p b)(h3:p c):∀x ∈ [a,b,c],p x:=λx hx=>(ot.mp hx).elim (λe=>e▸h) (all2 h2 h3 x)
structure qZ(ws M:Γ)(many:Nat)(ks:ϑ)(k made:Nat):Prop where
 nm:ks.map (·.1)=ws.take k
 mn:names ks=M.take made
 b1:made<=6*k
 ne:∀k∈ks,k.2 ≠ []/\k.2.length<=6
 fl:∀k∈ks,∀m∈k.2,m.2.length<=4/\∀f∈m.2,f∈ws.take many
variable{ks:ϑ}{ms:List Mk1}
theorem qZ.next{M:Γ}{many:Nat}{k made g:Nat}{n:Str}(D:qZ ws M many ks k made)(hn:ws[k]?=Z n)(hm:M.take made++ms.map (·.1)=M.take g)(h0:ms ≠ [])(h1:ms.length<=6)(h2:g<=made+ms.length)(h3:∀m∈ms,m.2.length<=4/\∀f∈m.2,f∈ws.take many):
  qZ ws M many (ks++[(n,ms)]) (k+1) g where
 nm:=by rw[pq,D.nm,<- take_one hn];rfl
 mn:=by
  have:names (ks++[(n,ms)])=names ks++ms.map (·.1):=by unfold names;simp
  rw[this,D.mn,hm]
 b1:=by have:=D.b1;lia
 ne:=λx hx=>by
  obtain h|h:=rh.mp hx
  ·exact D.ne x h
  rw[fy.mp h];exact(h0,h1)
 fl:=λx hx=>by
  obtain h|h:=rh.mp hx
  ·exact D.fl x h
  rw[fy.mp h];exact h3
theorem qZ.good{M:Γ}{many:Nat}{made:Nat}(D:qZ ws M many ks many made)(hw:ws.Nodup)(q:M.Nodup)(h1:1<=many)(h2:many<=3)(hl:3<=ws.length):x5 ks:=by
 have hlen:ks.length=many:=by have:=congrArg zN D.nm;rw[e7,vM]at this;lia
 refine(bd,bd,by rw[D.nm];exact hw.sublist (Ry _ _),by rw[D.mn];exact q.sublist (Ry _ _),D.ne,λk g m hm=>?_);have z:=D.fl k g m hm;rw[D.nm];exact z
theorem ve{a b:Str}:decide ((Sum.inr a:Key)=.inr b)=decide (a=b):=by
 by_cases h:a=b
 ·simp
 rw[decide_eq_false h,decide_eq_false λz=>h (Sum.inr.inj z)]
variable{mg:Υ}
theorem never{P:Da}{w:Cl}{K:BT}{base:Dd}{CX:CXT}{k:Nat}{f:J}{fd:Ch}{ps:Γ}{sp:PSp}(h:∀ts Q,¬ sp ts Q):aS P w K mg base CX k f fd ps (spQ K sp):=
 (λ_ _ _ _ g=>by let(_,ts,_,Qp,_,_,z,_):=g;exact(h ts Qp z).elim,λ_ _ _ _ _ _ _ _ _ _ _ _ _ g=>by let(_,ts,_,Qp,_,_,z,_):=g;exact(h ts Qp z).elim)
def kEn(k:Kd):Key×T:=(.inr k.1,tMs k.2)
theorem pV:∀ks:ϑ,fN (ks.map tK)=Z (ks.map kEn)
 |[]=>rfl|k::r=>by
  show(match(Z (.inr k.1)),fN (r.map tK)with|some k',Z r=>Z ((Prod.mk k' (tMs k.2))::r)|_,_=>Y)=_;rw[pV r];rfl
theorem xb:∀{ps acc:List (Key×T)},(ps.map (·.1)).Nodup->(∀p∈ps,∀q∈acc,q.1≠p.1)->cm acc ps=acc++ps
 |[],acc,_,_=>by simp[cm]|p::ps,acc,h,hd=>by
  have h':=yd.mp h;have e:ml acc p.1 p.2=acc++[p]:=by unfold ml;rw[if_neg];intro z;let(q,hq,P):=RB.mp z;exact hd p ap q hq (of_decide_eq_true P)
  show cm (ml acc p.1 p.2) ps=_;rw[e,xb h'.2 λK g q hq=>?_]
  ·simp
  obtain z|z:=rh.mp hq
  ·exact hd K (by simp[g]) q z
  rw[fy.mp z];exact λe=>h'.1 (sd.mpr (K,g,e.symm))
theorem Jb{k:Str}(h:k∈ks.map (·.1)):bK (ks.map kEn) (.inr k)=Z (tMs (E5 ks k)):=by
 unfold bK E5;induction ks with
 |nil=>cases h
 |cons x r g =>
  by_cases e:x.1=k
  ·rw[E3,Nu,Nu,show(kEn x).1=.inr x.1 from U,ve,decide_eq_true e];rfl
  have h':k∈r.map (·.1):=by
   obtain z|z:=ot.mp h
   ·exact absurd z.symm e
   exact z
  rw[E3,Nu,Nu,show(kEn x).1=.inr x.1 from U,ve,decide_eq_false e];exact g h'
theorem Jz(h:(ks.map (·.1)).Nodup):cm [] (ks.map kEn)=ks.map kEn:=by
 rw[xb]
 ·rfl
 ·rw[Gk];have:(ks.map ((λx=>x.1) ∘ kEn))=(ks.map (·.1)).map Sum.inr:=by rw[Gk];rfl
  rw[this];exact R4.mpr (h.imp λg z=>g (Sum.inr.inj z))
 intro p _ q hq;cases hq
theorem sM{k:Str}(g:(ks.map (·.1)).Nodup)(h:k∈ks.map (·.1)):bK (cm [] (ks.map kEn)) (.inr k)=Z (tMs (E5 ks k)):=by rw[Jz g,Jb h]
structure x4(ks:ϑ):Prop where
 k1:1<=ks.length
 k2:ks.length<=6
 nd:(ks.map (·.1)).Nodup
 mn:(names ks).Nodup
 ne:∀k∈ks,k.2 ≠ []/\k.2.length<=6
 fl:∀k∈ks,∀m∈k.2,m.2.length<=4/\∀f∈m.2,f∈ks.map (·.1)
theorem Na{r:Int}(h0:0<=r)(h1:r.toNat<ws.length):atI (ws.map ϕ) r=Z (.s ws[r.toNat]):=by
 have:=eO (ws:=ws) (j:=r.toNat) (w:=ws[r.toNat]) (by simp[h1])
 rwa [Rg h0]at this
abbrev Sc:=List (Str×Str)
def tP(p:Str×Str):T:=.t [.s p.1,.s p.2]
theorem du(p:Str×Str):(tP p).im=true:=rfl
def Fills(sc:Sc)(ns fs:Γ):Prop:=ns.length=fs.length/\∀p∈ns.zip fs,p∈sc
variable{sc:Sc}{ns:Γ}
theorem Fills.snoc{fs:Γ}{n f:Str}(h:Fills sc ns fs)(hp:(n,f)∈sc):Fills sc (ns++[n]) (fs++[f]):=by
 refine(by simp[h.1],λp g=>?_);rw[List.zip_append h.1]at g;obtain z|z:=rh.mp g
 ·exact h.2 p z
 simp at z;rw[z];exact hp
inductive y4(ts:ώ)(Q:ϐ):Prop
 |mk(sc:Sc)(fs:Γ)(t:T)(h1:(t=.t (fs.map .s)\/t=.l (fs.map .s)))(h2:ts=[.dj,.l (sc.map tP),t])(h3:sc.length<=60)(h4:fs.length<=1000)(h5:Q .n)(h6:∀ns:Γ,Fills sc ns fs->Q (.t (ns.map .s)))
abbrev Hd:=Str×Sc×Str
def tH(h:Hd):T:=.t [.s h.1,.t (h.2.1.map tP),.s h.2.2]
theorem OV(h:Hd):(tH h).im=true:=by show(O&&(T.ims (h.2.1.map tP)&&O))=O;rw[aW du];rfl
def tW(ks:ϑ)(hs:List Hd)(ws:Γ):T:=.t [tKs ks,.l (hs.map tH),.l (ws.map .s)]
structure Wld(ks:ϑ)(hs:List Hd)(ws:Γ):Prop where
 gk:x4 ks
 wl:ws.length=40
 wn:ws.Nodup
 h1:1<=hs.length
 h8:hs.length<=8
 hn:(hs.map (·.1)).Nodup
 hp:∀h∈hs,h.2.1.length<=4/\(∀p∈h.2.1,p.2∈ks.map (·.1))/\h.2.1.map (·.1)=ws.take h.2.1.length/\h.2.2∈ks.map (·.1)
structure qY(ks:ϑ)(ws:Γ)(h:Hd)(sc:Sc):Prop where
 nm:sc.map (·.1)=ws.take sc.length
 ln:sc.length<=30
 kd:∀p∈sc,p.2∈ks.map (·.1)
 p1:h.2.1.length<=sc.length
 pf:sc.take h.2.1.length=h.2.1
abbrev Arm:=Str×Γ×T×Nat
def tA(a:Arm):T:=.t [.s a.1,.t (a.2.1.map .s),a.2.2.1]
inductive Snd(ks:ϑ)(hs:List Hd)(r:Str):Nat->Sc->T->Prop
 |give{sc:Sc}{x:Str}:(x,r)∈sc->Snd ks hs r 1 sc (.t [.s "give",.s x])|cj{n:Nat}{sc:Sc}{w:Str}{c:Int}{b:T}:(w="pay" \/ w="get")->0<=c->Snd ks hs r n sc b->Snd ks hs r (n+1) sc (.t [.s w,.i c,b])|name{n:Nat}{sc:Sc}{x y k:Str}{b:T}:(y,k)∈sc->x ∉ sc.map (·.1)->Snd ks hs r n (sc++[Prod.mk x k]) b->Snd ks hs r (n+1) sc (.t [.s "name",.s x,.s y,b])|make{n:Nat}{sc:Sc}{x:Str}{m:Mk1}{kd:Kd}{ns:Γ}{b:T}:kd∈ks->m∈kd.2->Fills sc ns m.2->x ∉ sc.map (·.1)->Snd ks hs r n (sc++[(x,kd.1)]) b->Snd ks hs r (n+1) sc (.t [.s "make",.s x,.s m.1,.t (ns.map .s),b])|call{n:Nat}{sc:Sc}{x:Str}{h:Hd}{ns:Γ}{b:T}:h∈hs->Fills sc ns (h.2.1.map (·.2))->x ∉ sc.map (·.1)->Snd ks hs r n (sc++[(x,h.2.2)]) b->Snd ks hs r (n+1) sc (.t [.s "call",.s x,.s h.1,.t (ns.map .s),b])|case{sc:Sc}{x:Str}{kd:Kd}(arms:List Arm):(x,kd.1)∈sc->kd∈ks->arms.map (·.1)=kd.2.map (·.1) ->
   (∀(i:Nat)(a:Arm)(m:Mk1),arms[i]?=Z a->kd.2[i]?=Z m->a.2.1.length=m.2.length/\(sc.map (·.1)++a.2.1).Nodup) ->
   (∀(i:Nat)(a:Arm)(m:Mk1),arms[i]?=Z a->kd.2[i]?=Z m->Snd ks hs r a.2.2.2 (sc++a.2.1.zip m.2) a.2.2.1) ->
   Snd ks hs r (1+(arms.map (·.2.2.2)).sum) sc (.t [.s "case",.s x,.t (arms.map tA)])
theorem Snd.im{ks:ϑ}{hs:List Hd}{r:Str}{n:Nat}{sc:Sc}{b:T}(h:Snd ks hs r n sc b):b.im=true:=by
 induction h with
 |give _=>rfl|cj _ _ _ g=>show(O&&(O&&(T.im _&&O)))=O;rw[g];rfl|name _ _ _ g=>show(O&&(O&&(O&&(T.im _&&O))))=O;rw[g];rfl|make _ _ _ _ _ g=>show(O&&(O&&(O&&(T.ims _&&(T.im _&&O)))))=O;rw[g,ay];rfl|call _ _ _ _ g=>show(O&&(O&&(O&&(T.ims _&&(T.im _&&O)))))=O;rw[g,ay];rfl|@case sc x kd arms _ _ hn _ _ g =>
  show(O&&(O&&(T.ims (arms.map tA)&&O)))=O;have:T.ims (arms.map tA)=true:=by
   have go:∀(l:List T),(∀t∈l,t.im=O)->T.ims l=true:=by
    intro l;induction l with
    |nil=>intro _;rfl
    |cons t r g=>intro h;show(t.im&&T.ims r)=O;rw[h t iY,g λt q=>h t (mm _ q)];rfl
   refine go _ λt q=>?_;let(a,K,U):=sd.mp q;let(i,hi,e):=RR K;have hl:kd.2.length=arms.length:=by have:=congrArg zN hn;simpa using this.symm
   have z:=g i a (kd.2[i]' bd) (by rw[mu hi,e]) (mu _);show(O&&(T.ims (a.2.1.map .s)&&(a.2.2.1.im&&O)))=O;rw[z,ay];rfl
  rw[this];rfl
def tb:Nat->List Nat
 | 0=>[2]|n+1=>(1+max ((tb n).getD 0 2) (max ((tb n).getD 1 2) (max (2*(tb n).getD 2 2) (max (3*(tb n).getD 3 2) (max (4*(tb n).getD 4 2) (max (5*(tb n).getD 5 2) (6*(tb n).getD 6 2)))))))::tb n
def sz(n:Nat):Nat:=(tb n).getD 0 2
theorem ij:∀n k:Nat,(tb n).getD k 2=sz (n-k)
 | 0,0=>rfl| 0,k+1=>by rw[Nat.zero_sub];rfl|n+1,0=>rfl|n+1,k+1=>by
  rw[Nat.add_sub_add_right,<- ij n k];rfl
theorem G8(n:Nat):sz (n+1)=1+max (sz n) (max (sz (n-1)) (max (2*sz (n-2)) (max (3*sz (n-3)) (max (4*sz (n-4)) (max (5*sz (n-5)) (6*sz (n-6))))))):=by show 1+max ((tb n).getD 0 2) _=_;rw[ij,ij,ij,ij,ij,ij,ij];rfl
theorem yq(n:Nat):1+sz n<=sz (n+1):=by exact So (RG _ _) 1
theorem C2:∀n:Nat,2<=sz n
 | 0=>oQ _|n+1=>by have:=yq n;have:=C2 n;lia
variable{n:Nat}
theorem Ha{k:Nat}(h1:1<=k)(h6:k<=6):1+k*sz (n-k)<=sz (n+1):=by
 rw[G8];have:k=1\/k=2\/k=3\/k=4\/k=5\/k=6:=bd;have r:∀{a b c:Nat},a<=c->a<=max b c:=λh=>vN h (Nat.le_max_right _ _);refine So ?_ 1;obtain rfl|rfl|rfl|rfl|rfl|rfl:=this
 ·rw[Nat.one_mul];exact r (RG _ _)
 ·exact r (r (RG _ _))
 ·exact r (r (r (RG _ _)))
 ·exact r (r (r (r (RG _ _))))
 ·exact r (r (r (r (r (RG _ _)))))
 exact r (r (r (r (r (r (oQ _))))))
theorem G9{m:Nat}(h:n<=m):sz n<=sz m:=by induction h with|refl=>exact oQ _|step _ g=>exact vN g (vN (Nat.le_add_left _ _) (yq _))
theorem NT:sz 30<=50000:=bn
variable{kd:Kd}
theorem xf(g:(ks.map (·.1)).Nodup)(h:kd∈ks):E5 ks kd.1=kd.2:=by
 unfold E5;induction ks with
 |nil=>cases h
 |cons x r q =>
  rw[E3,yd]at g;by_cases e:x.1=kd.1
  ·obtain z|z:=ot.mp h
   ·subst z;simp
   exact absurd (sd.mpr (kd,z,e.symm)) g.1
  rw[Nu,decide_eq_false e];obtain z|z:=ot.mp h
  ·exact absurd (by rw[z]) e
  exact q g.2 z
theorem Ko{k:Str}(h:k∈ks.map (·.1)):∃kd∈ks,kd.1=k:=by let(kd,h1,h2):=sd.mp h;exact(kd,h1,h2)
variable{x:Str}
theorem qY.fresh{h:Hd}(S:qY ks ws h sc)(wn:ws.Nodup)(hx:ws[sc.length]?=Z x):x ∉ sc.map (·.1):=by rw[S.nm];intro z;have q:=wn.sublist (Ry (sc.length+1) ws);rw[<- take_one hx]at q;exact(O3.mp q).2.2 x z x ap U
theorem qY.snoc{h:Hd}{k:Str}(S:qY ks ws h sc)(hx:ws[sc.length]?=Z x)(hl:sc.length<30)(g:k∈ks.map (·.1)):qY ks ws h (sc++[Prod.mk x k]) where
 nm:=by rw[pq,S.nm,mS];exact take_one hx
 ln:=by simp;lia
 kd:=λp hp=>by
  obtain z|z:=rh.mp hp
  ·exact S.kd p z
  rw[fy.mp z];exact g
 p1:=by rw[mS];have:=S.p1;lia
 pf:=by rw[Si S.p1];exact S.pf
inductive ox(ts:ώ)(Q:ϐ):Prop
 |mk(ks:ϑ)(hs:List Hd)(ws:Γ)(sc:Sc)(f:Nat)(h:Hd)(h1:ts=[.dj,tW ks hs ws,.l (sc.map tP),.s h.2.2,.i f])(h2:Wld ks hs ws)(h3:hs[f]?=Z h)(h4:qY ks ws h sc)(h5:∀n b,n<=2->Snd ks hs h.2.2 n sc b->Dep 2 b->Q b)
inductive jK(N:Nat)(ts:ώ)(Q:ϐ):Prop
 |mk(ks:ϑ)(hs:List Hd)(ws:Γ)(sc:Sc)(f:Nat)(h:Hd)(u:Int)(h1:ts=[.dj,tW ks hs ws,.l (sc.map tP),.i f,.rm u])(h2:Wld ks hs ws)(h3:hs[f]?=Z h)(h4:qY ks ws h sc)(h5:sc.length<=21)(h6:u.toNat<N)(h7:∀n b,n<=sz u.toNat->Snd ks hs h.2.2 n sc b->Dep (3*u.toNat+2) b->Q b)
inductive LW(N:Nat)(ts:ώ)(Q:ϐ):Prop
 |mk(ks:ϑ)(hs:List Hd)(ws:Γ)(sc:Sc)(f:Nat)(h:Hd)(u:Int)(h1:ts=[.dj,tW ks hs ws,.l (sc.map tP),.i f,.rm u])(h2:Wld ks hs ws)(h3:hs[f]?=Z h)(h4:qY ks ws h sc)(h5:sc.length<=17)(h6:sc ≠ [])(h7:u.toNat<N)(h8:∀n b,n<=sz (u.toNat+1)->Snd ks hs h.2.2 n sc b->Dep (3*u.toNat+5) b->Q b)
theorem kY{α:Type}{xs:List α}(h:n<=xs.length):cg xs Y (Z (n:Int))=xs.take n:=by unfold cg;rw[HT.pA,HT.kj,QG h,Sy,Sv]
theorem Fills.self:Fills sc ((sc.take n).map (·.1)) ((sc.take n).map (·.2)):=by refine(ap,λp hp=>?_);rw[List.zip_map',sd]at hp;let(q,hq,U):=hp;exact JY hq
theorem gq{fs:Γ}(h:ns.length=fs.length):(ns.zip fs).map (·.1)=ns:=by rw[Tt bd]
theorem qY.more{h:Hd}{fs:Γ}(S:qY ks ws h sc)(wn:ws.Nodup)(e:ns=(ws.drop sc.length).take fs.length)(hl:sc.length+fs.length<=30)(hw:40<=ws.length)(K:∀f∈fs,f∈ks.map (·.1)):
  ns.length=fs.length/\(sc.map (·.1)++ns).Nodup/\qY ks ws h (sc++ns.zip fs):=by
 have l1:ns.length=fs.length:=by rw[e,vM,yb];lia
 have g:sc.map (·.1)++ns=ws.take (sc.length+fs.length):=by rw[S.nm,e,List.take_add]
 have q:(ns.zip fs).length=fs.length:=by rw[QL];lia
 refine(l1,by rw[g];exact wn.sublist (Ry _ _),(?_,?_,λp hp=>?_,?_,?_))
 ·rw[pq,gq l1,g,mS,q]
 ·rw[mS];lia
 ·obtain z|z:=rh.mp hp
  ·exact S.kd p z
  exact K p.2 (Sj z).2
 ·rw[mS];have:=S.p1;lia
 rw[Si S.p1];exact S.pf
variable{arms:List Arm}{TL:Nat}
theorem K7(h:∀a∈arms,a.2.2.2<=TL):(arms.map (·.2.2.2)).sum<=arms.length*TL:=by induction arms with|nil=>simp|cons a r g =>have h1:=h a iY;have h2:=g λb q=>h b (mm _ q);rw[E3,RS,p7,Nat.add_mul];lia
structure KN(ks:ϑ)(hs:List Hd)(r:Str)(sc:Sc)(TL D:Nat)(a:Arm)(m:Mk1):Prop where
 nm:a.1=m.1
 ln:a.2.1.length=m.2.length
 nd:(sc.map (·.1)++a.2.1).Nodup
 sn:Snd ks hs r a.2.2.2 (sc++a.2.1.zip m.2) a.2.2.1
 sz:a.2.2.2<=TL
 dp:Dep D a.2.2.1
structure sv(ks:ϑ)(hs:List Hd)(r:Str)(sc:Sc)(TL D:Nat)(arms:List Arm)(ms:List Mk1):Prop where
 ln:arms.length=ms.length
 ok:∀(i:Nat)(a:Arm)(m:Mk1),arms[i]?=Z a->ms[i]?=Z m->KN ks hs r sc TL D a m
variable{hs:List Hd}{r:Str}{D:Nat}{m:Mk1}
theorem sv.snoc{a:Arm}(h:sv ks hs r sc TL D arms ms)(q:KN ks hs r sc TL D a m):sv ks hs r sc TL D (arms++[a]) (ms++[m]):=by
 refine(by simp[h.ln],λi a' m' h1 h2=>?_);by_cases hi:i<arms.length
 ·rw[A0 hi]at h1;rw[A0 (by rw[<- h.ln];exact hi)]at h2;exact h.ok i a' m' h1 h2
 rw[CC bd]at h1;rw[CC (by rw[<- h.ln];lia),<- h.ln]at h2;have g:i-arms.length=0:=by have:=(mT.mp h1).1;simp at this;lia
 rw[g]at h1 h2;simp at h1 h2;subst h1 h2;exact q
theorem sv.snd(h:sv ks hs r sc TL D arms kd.2)(hx:(x,kd.1)∈sc)(z:kd∈ks):Snd ks hs r (1+(arms.map (·.2.2.2)).sum) sc (.t [.s "case",.s x,.t (arms.map tA)])/\(arms.map (·.2.2.2)).sum<=arms.length*TL:=by
 refine(.case arms hx z ?_ (λi a m h1 h2=>((h.ok i a m h1 h2).ln,(h.ok i a m h1 h2).nd)) (λi a m h1 h2=>(h.ok i a m h1 h2).sn),K7 λa K=>?_)
 ·apply SG;intro i;rw[kf,kf];by_cases hi:i<arms.length
  ·have q:=mu hi;have g:kd.2[i]?=Z (kd.2[i]'(by rw[<- h.ln];exact hi)):=mu _;rw[q,g];exact congrArg Z (h.ok i _ _ q g).nm
  rw[Rt bd,Rt (by rw[<- h.ln];omega)];rfl
 let(i,hi,e):=RR K;exact(h.ok i a _ (by rw[mu hi,e]) (mu (by rw[<- h.ln];exact hi))).sz
theorem iK{α:Type}{xs:List α}{f:α->T}{r:Int}(h0:0<=r)(h1:r<xs.length):∃x∈xs,atI (xs.map f) r=Z (f x):=by
 have h:r.toNat<xs.length:=bd;refine(xs[r.toNat],Qj h,?_);have:=b7 (xs:=xs.map f) (by rw[kf,mu h];rfl)
 rwa [Rg h0]at this
theorem max_two{r r':Int}(K:0<=r)(z:r<n)(q:0<=r')(g:r'<n):0 <=(if r' > r then r' else r)/\(if r' > r then r' else r)<n:=by split <;> lia
theorem vR{α β:Type}{A:List α}{TL:List β}{a:α}{b:β}(q:A[j]?=Z a)(g:TL[j]?=Z b):(A.take (j+1)).zip (TL.take (j+1))=(A.take j).zip (TL.take j)++[(a,b)]:=by have h1:=(mT.mp q).1;have h2:=(mT.mp g).1;rw[ui,ui,q,g,List.zip_append (by rw[vM,vM];lia)];rfl
theorem sv.im{ks:ϑ}{hs:List Hd}{r:Str}{sc:Sc}{TL D:Nat}{arms:List Arm}{ms:List Mk1}(h:sv ks hs r sc TL D arms ms):T.ims (arms.map tA)=true:=by
 have go:∀l,(∀t∈l,t.im=O)->T.ims l=true:=by
  intro l;induction l with
  |nil=>intro _;rfl
  |cons t r q=>intro h;show(t.im&&T.ims r)=O;rw[h t iY,q λt g=>h t (mm _ g)];rfl
 refine go _ λt g=>?_;let(a,K,U):=sd.mp g;let(i,hi,e):=RR K;have z:=(h.ok i a _ (by rw[mu hi,e]) (mu (by rw[<- h.ln];exact hi))).sn.im;show(O&&(T.ims (a.2.1.map .s)&&(a.2.2.1.im&&O)))=O;rw[z,ay];rfl
theorem qM{l:Γ}:Dep (n+1) (.t (l.map .s)):=Dep.t λx hx=>by
 let(z,_,U):=sd.mp hx;exact Dep.s
theorem cP:∀x∈([]:List T),Dep n x:=nofun
theorem bf{t:T}{ts:List T}(h:Dep n t)(hs:∀x∈ts,Dep n x):∀x∈t::ts,Dep n x:=λx hx=>(ot.mp hx).elim (λe=>e▸h) (hs x)
theorem qN:Dep (n+1) (.t [.s "give",.s x]):=Dep.t (bf Dep.s (bf Dep.s cP))
theorem Cm{w:Str}{c:Int}{b:T}(h:Dep D b):Dep (D+1) (.t [.s w,.i c,b]):=Dep.t (bf Dep.s (bf Dep.i (bf h cP)))
theorem FN{w y:Str}{b:T}(h:Dep D b):Dep (D+1) (.t [.s w,.s x,.s y,b]):=Dep.t (bf Dep.s (bf Dep.s (bf Dep.s (bf h cP))))
theorem kT{w y:Str}{b:T}(h:Dep D b)(h1:1<=D):Dep (D+1) (.t [.s w,.s x,.s y,.t (ns.map .s),b]):=by obtain⟨k,rfl⟩:∃k,D=k+1:=(D-1,bd);exact Dep.t (bf Dep.s (bf Dep.s (bf Dep.s (bf qM (bf h cP)))))
theorem sv.dep(h:sv ks hs r sc TL D arms ms)(h1:1<=D):Dep (D+3) (.t [.s "case",.s x,.t (arms.map tA)]):=by obtain⟨k,rfl⟩:∃k,D=k+1:=(D-1,bd);refine Dep.t (bf Dep.s (bf Dep.s (bf (Dep.t λt g=>?_) cP)));let(a,q,U):=sd.mp g;let(i,hi,e):=RR q;exact Dep.t (bf Dep.s (bf qM (bf (h.ok i a _ (by rw[mu hi,e]) (mu (by rw[<- h.ln];exact hi))).dp cP)))
abbrev Fn:=Hd×T×Nat
abbrev ϓ:=List Fn
def tF(f:Fn):T:=.t [.s f.1.1,.t (f.1.2.1.map tP),.s f.1.2.2,f.2.1]
structure Prog(ks:ϑ)(fs:ϓ):Prop where
 gk:x4 ks
 l8:fs.length<=8
 hn:(fs.map (·.1.1)).Nodup
 pk:∀f∈fs,f.1.2.1.length<=4/\(∀p∈f.1.2.1,p.2∈ks.map (·.1))/\(f.1.2.1.map (·.1)).Nodup/\f.1.2.2∈ks.map (·.1)
 sn:∀f∈fs,Snd ks (fs.map (·.1)) f.1.2.2 f.2.2 f.1.2.1 f.2.1/\f.2.2<=50000
 dp:∀f∈fs,Dep 92 f.2.1
theorem x5.p(g:x5 ks):x4 ks:=(g.k1,by have:=g.k2;lia,g.nd,g.mn,g.ne,g.fl)
inductive BA(ts:ώ)(Q:ϐ):Prop
 |mk(m u:Int)(h1:ts=[.dj,.i m,.i u])(h2:0<m)(h3:m<=8)(h4:0<=u)(h5:u<=30)(h6:∀ks fs,Prog ks fs->x5 ks->fs ≠ []->(∀f∈fs,f.2.2<=sz u.toNat)->fs.length<=m.toNat->(∀f∈fs,Dep (3*u.toNat+2) f.2.1)->Q (.t [tKs ks,.t (fs.map tF)]))
def nM(o:Nat)(f:Nat):Nat:=if o=0 then f else 39-f
structure tI(ks:ϑ)(ws:Γ)(o:Nat)(hs:List Hd)(i:Nat):Prop where
 ln:hs.length=i
 nm:hs.map (λh=>Z h.1)=(Fq i).map λf=>ws[nM o f]?
 hp:∀h∈hs,h.2.1.length<=4/\(∀p∈h.2.1,p.2∈ks.map (·.1))/\h.2.1.map (·.1)=ws.take h.2.1.length/\h.2.2∈ks.map (·.1)
theorem tI.snoc{o:Nat}{i:Nat}{h:Hd}(H:tI ks ws o hs i)(hn:ws[nM o i]?=Z h.1)(hp:h.2.1.length<=4/\(∀p∈h.2.1,p.2∈ks.map (·.1))/\h.2.1.map (·.1)=ws.take h.2.1.length/\h.2.2∈ks.map (·.1)):tI ks ws o (hs++[h]) (i+1) where
 ln:=by simp[H.ln]
 nm:=by rw[pq,H.nm,List.range_succ];simp[hn]
 hp:=λh' hm=>by
  obtain z|z:=rh.mp hm
  ·exact H.hp h' z
  rw[fy.mp z];exact hp
theorem tI.nd{o:Nat}{i:Nat}(H:tI ks ws o hs i)(hl:ws.length=40)(wn:ws.Nodup)(hi:i<=8):(hs.map (·.1)).Nodup:=by
 have e:(hs.map (·.1)).map Z=(Fq i).map λf=>ws[nM o f]?:=by rw[<- H.nm,Gk];rfl
 have n:((Fq i).map λf=>ws[nM o f]?).Nodup:=by
  refine R4.mpr (List.Pairwise.imp_of_mem (λ{a b} q P g z=>?_) (Tp));have q:=Ro.mp q;have l1:nM o a<ws.length:=by unfold nM;split <;> lia
  have K:=z;have:=(List.getElem?_inj l1 wn).mp K;unfold nM at this;split at this <;> lia
 rw[<- e]at n;exact(R4.mp n).imp λg z=>g (by rw[z])
def en{α:Type}(g:α->T)(xs:List (Str×α)):List (Key×T):=xs.map λp=>(.inr p.1,g p.2)
theorem gR{α:Type}{g:α->T}{xs:List (Str×α)}(h:x ∉ xs.map (·.1)):bK (en g xs) (.inr x)=none:=by unfold bK en;rw[Option.map_eq_none_iff,List.find?_eq_none];intro p hp;let(q,hq,U):=sd.mp hp;simp only[ve,decide_eq_true_eq];exact λz=>h (sd.mpr (q,hq,z))
theorem fw{α:Type}{g:α->T}{xs:List (Str×α)}{v:α}(n:(xs.map (·.1)).Nodup)(h:(x,v)∈xs):bK (en g xs) (.inr x)=Z (g v):=by
 induction xs with
 |nil=>cases h
 |cons p r q =>
  rw[E3,yd]at n;unfold bK en;rw[E3,Nu,ve];by_cases e:p.1=x
  ·rw[decide_eq_true e];obtain z|z:=ot.mp h
   ·rw[<- z];rfl
   exact absurd (sd.mpr (Prod.mk x v,z,U)) (by rw[<- e];exact n.1)
  rw[decide_eq_false e];obtain z|z:=ot.mp h
  ·exact absurd (by rw[<- z]) e
  exact q n.2 z
theorem jT{α:Type}{g:α->T}{xs:List (Str×α)}{v:α}(h:x ∉ xs.map (·.1)):ml (en g xs) (.inr x) (g v)=en g (xs++[(x,v)]):=by
 unfold ml;rw[if_neg]
 ·unfold en;rw[pq];rfl
 intro z;let(q,hq,K):=RB.mp z;let(p,hp,U):=sd.mp hq;exact h (sd.mpr (p,hp,Sum.inr.inj (of_decide_eq_true K)))
theorem bV{α:Type}{g:α->T}(hg:∀v,(g v).im=O):∀xs:List (Str×α),T.imk (en g xs)=O
 |[]=>rfl|p::r=>by
  show((g p.2).im&&T.imk (en g r))=O;rw[hg,bV hg r];rfl
theorem jU{α:Type}{g:α->T}{xs:List (Str×α)}:(en g xs).length=xs.length:=by unfold en;rw[e7]
theorem Jn{ks:List (Key×T)}{k:Key}{v:T}(h:T.imk ks=O)(hv:v.im=O):T.imk (ml ks k v)=true:=by
 unfold ml;split
 ·rename_i z;clear z;induction ks with
  |nil=>rfl|cons p r g =>
   have h:(p.2.im&&T.imk r)=true:=h;rw[ri]at h;rw[E3];split
   ·show(v.im&&T.imk _)=O;rw[hv,g h.2];rfl
   show(p.2.im&&T.imk _)=O;rw[h.1,g h.2];rfl
 rename_i z;clear z;induction ks with|nil=>show(v.im&&O)=O;rw[hv];rfl|cons p r g =>have h:(p.2.im&&T.imk r)=true:=h;rw[ri]at h;show(p.2.im&&T.imk (r++[(k,v)]))=O;rw[h.1,g h.2];rfl
inductive LO(ts:ώ)(Q:ϐ):Prop
 |mk(m:T)(ks:List (Key×T))(x:Str)(h1:ts=[m,.s x])(h2:m.dof=Z ks)(h3:(bK ks (.inr x)).isSome=O)(h4:Q .n)
inductive LX(ts:ώ)(Q:ϐ):Prop
 |mk(a:J)(ks:List (Key×T))(x:Str)(v:T)(h1:ts=[.dp a ks,.s x,v])(h2:bK ks (.inr x)=Y)(h3:T.imk ks=O)(h4:v.im=O)(h5:ks.length<p6)(h6:Q (.dp a (ml ks (.inr x) v)))
inductive yX(ts:ώ)(Q:ϐ):Prop
 |mk(m:T)(ks:List (Key×T))(x k:Str)(h1:ts=[m,.s x,.s k])(h2:m.dof=Z ks)(h3:bK ks (.inr x)=Z (.s k))(h4:Q .n)
structure GW(ks:ϑ):Prop where
 k2:ks.length<=6
 nd:(ks.map (·.1)).Nodup
 mn:(names ks).Nodup
 ne:∀k∈ks,k.2.length<=6
 fl:∀k∈ks,∀m∈k.2,m.2.length<=4/\∀f∈m.2,f∈ks.map (·.1)
theorem x4.w(g:x4 ks):GW ks:=(g.k2,g.nd,g.mn,λk q=>(g.ne k q).2,g.fl)
abbrev Mw:=Γ×Str
def gM(v:Mw):T:=.t [.t (v.1.map .s),.s v.2]
theorem jt(v:Mw):(gM v).im=true:=by show(T.ims (v.1.map .s)&&(O&&O))=O;rw[ay];rfl
def mkL(ks:ϑ):List (Str×Mw):=ks.flatMap λkd=>kd.2.map λm=>(m.1,(m.2,kd.1))
def hsL(hs:List Hd):List (Str×Mw):=hs.map λh=>(h.1,(h.2.1.map (·.2),h.2.2))
theorem sL(ks:ϑ):(mkL ks).map (·.1)=names ks:=by unfold mkL names;rw[List.map_flatMap];congr;funext kd;rw[Gk];rfl
theorem IY(h1:kd∈ks)(h2:m∈kd.2):(m.1,(m.2,kd.1))∈mkL ks:=List.mem_flatMap.mpr (kd,h1,sd.mpr (m,h2,U))
theorem sR(hs:List Hd):(hsL hs).map (·.1)=hs.map (·.1):=by unfold hsL;rw[Gk];rfl
theorem Jo{h:Hd}(h1:h∈hs):(h.1,(h.2.1.map (·.2),h.2.2))∈hsL hs:=sd.mpr (h,h1,U)
theorem oW{α:Type}{xs:List α}{i:Nat}{x:α}(h:xs[i]?=Z x):xs=xs.take i++x::xs.drop (i+1):=by let(hl,e):=mT.mp h;rw[<- e,<- List.drop_eq_getElem_cons hl,Ru]
def mkR(kd:Kd)(m:Mk1):Str×Mw:=(m.1,(m.2,kd.1))
theorem E6{i:Nat}(h:ks[i]?=Z kd):mkL (ks.take (i+1))=mkL (ks.take i)++kd.2.map (mkR kd):=by unfold mkL;rw[ui,h,yc];simp[mkR]
theorem E2{i:Nat}(g:(names ks).Nodup)(h1:ks[i]?=Z kd)(h2:kd.2[j]?=Z m):m.1 ∉ (mkL (ks.take i)++(kd.2.take j).map (mkR kd)).map (·.1):=by
 intro z;have P:names ks=(mkL (ks.take i)++(kd.2.take j).map (mkR kd)).map (·.1)++(m.1 ::((kd.2.drop (j+1)).map (mkR kd)++mkL (ks.drop (i+1))).map (·.1)):=by
  have K:mkL ks=mkL (ks.take i)++(kd.2.map (mkR kd)++mkL (ks.drop (i+1))):=by
   conv=>lhs;rw[oW h1]
   unfold mkL;rw[yc,x2];rfl
  have q:kd.2.map (mkR kd)=(kd.2.take j).map (mkR kd)++mkR kd m ::(kd.2.drop (j+1)).map (mkR kd):=by
   conv=>lhs;rw[oW h2]
   rw[pq,E3]
  rw[<- sL,K,q];simp[mkR]
 rw[P]at g;exact(O3.mp g).2.2 m.1 z m.1 iY U
theorem IZ(h6:ks.length<=6)(h:∀k∈ks,k.2.length<=6):(mkL ks).length<=36:=by
 have go:∀l:ϑ,(∀k∈l,k.2.length<=6)->(mkL l).length<=6*l.length:=by
  intro l;induction l with
  |nil=>intro _;simp[mkL]
  |cons k r g =>
   intro h;have:=g λk q=>h k (mm _ q);have h1:=h k iY;have e:(mkL (k::r)).length=k.2.length+(mkL r).length:=by unfold mkL;rw[x2,mS,e7]
   rw[e,p7];omega
 have:=go ks h;omega
theorem oN{α:Type}{g:α->T}{xs:List (Str×α)}(n:(xs.map (·.1)).Nodup)(h:x∈xs.map (·.1)):(bK (en g xs) (.inr x)).isSome=true:=by let(p,hp,U):=sd.mp h;rw[fw (v:=p.2) n hp];rfl
inductive uI(ts:ώ)(Q:ϐ):Prop
 |mk(m:T)(ks:ϑ)(h1:ts=[m,tKs ks])(h2:m.dof=Z (en tMs ks))(h3:GW ks)(h4:Q (.d (en gM (mkL ks))))
inductive BE(ts:ώ)(Q:ϐ):Prop
 |mk(fs:ϓ)(h1:ts=[.t (fs.map tF)])(h2:(∀f∈fs,f.2.1.im=O/\f.1.2.1.length<=1000))(h3:fs.length<=8)(h4:(fs.map (·.1.1)).Nodup)(h5:Q (.d (en gM (hsL (fs.map (·.1))))))
inductive yY(ts:ώ)(Q:ϐ):Prop
 |mk(x b m:T)(ns fs:Γ)(sc:Sc)(h1:ts=[.t [x,.t (ns.map .s),b],.t (fs.map .s),m])(h2:x.im=O)(h3:b.im=O)(h4:(∃o vs,m=.fd o vs (en T.s sc)))(h5:ns.length=fs.length)(h6:fs.length<=1000)(h7:sc.length<=1000000)(h8:(sc.map (·.1)++ns).Nodup)(h9:Q (.d (en T.s (sc++ns.zip fs))))
theorem gO(v:Str):(T.s v).im=true:=rfl
theorem eQ{fs:ϓ}(h:∀f∈fs,f.2.1.im=O):T.ims (fs.map tF)=true:=by induction fs with|nil=>rfl|cons f r g =>show((O&&(T.ims (f.1.2.1.map tP)&&(O&&(f.2.1.im&&O))))&&T.ims (r.map tF))=O;rw[aW du,h f iY,g λf hf=>h f (mm _ hf)];rfl
theorem fresh_at{xs ys:Γ}{i:Nat}{y:Str}(n:(xs++ys).Nodup)(h:ys[i]?=Z y):y ∉ xs++ys.take i:=by
 intro z;have e:xs++ys=(xs++ys.take i)++(y::ys.drop (i+1)):=by rw[wh,<- oW h]
 rw[e]at n;exact(O3.mp n).2.2 y z y iY U
inductive Stp(ks:ϑ)(hs:List Hd):Sc->T->Sc->T->Prop
 |cj{sc:Sc}{w:Str}{c:Int}{b:T}:(w="pay" \/ w="get")->Stp ks hs sc (.t [.s w,.i c,b]) sc b|name{sc:Sc}{x y k:Str}{b:T}:(y,k)∈sc->x ∉ sc.map (·.1)->Stp ks hs sc (.t [.s "name",.s x,.s y,b]) (sc++[Prod.mk x k]) b|make{sc:Sc}{x:Str}{m:Mk1}{kd:Kd}{ns:Γ}{b:T}:kd∈ks->m∈kd.2->Fills sc ns m.2->x ∉ sc.map (·.1)->Stp ks hs sc (.t [.s "make",.s x,.s m.1,.t (ns.map .s),b]) (sc++[(x,kd.1)]) b|call{sc:Sc}{x:Str}{h:Hd}{ns:Γ}{b:T}:h∈hs->Fills sc ns (h.2.1.map (·.2))->x ∉ sc.map (·.1)->Stp ks hs sc (.t [.s "call",.s x,.s h.1,.t (ns.map .s),b]) (sc++[(x,h.2.2)]) b
inductive BD(ts:ώ)(Q:ϐ):Prop
 |mk(o:Obj)(vs:ό)(L:List (Str×Mw))(pw b:T)(x m k:Str)(ns fs:Γ)(p:J)(sc:Sc)(h1:ts=[.fd o vs (en gM L),.t [pw,.s x,.s m,.t (ns.map .s),b],.dp p (en T.s sc)])(h2:(L.map (·.1)).Nodup)(h3:(m,(fs,k))∈L)(h4:Fills sc ns fs)(h5:(sc.map (·.1)).Nodup)(h6:x ∉ sc.map (·.1))(h7:pw.im=O)(h8:b.im=O)(h9:sc.length<=1000000)(h10:Q (.dp p (en T.s (sc++[Prod.mk x k]))))
def Kn(C:J)(kn:T)(ks:ϑ)(hs:List Hd):Prop:=∃K v1 z v2 q g,kn=.ob C ["kinds","makers",Zh] [.fd K v1 (en tMs ks),.fd z v2 (en gM (mkL ks)),.fd q g (en gM (hsL hs))]
inductive wG(C:J)(ts:ώ)(Q:ϐ):Prop
 |mk(kn:T)(ks:ϑ)(hs:List Hd)(pc b:T)(p:J)(sc sc':Sc)(h1:ts=[kn,pc,.dp p (en T.s sc)])(h2:Kn C kn ks hs)(h3:GW ks)(h4:(hs.map (·.1)).Nodup)(h5:Stp ks hs sc pc sc' b)(h6:b.im=O)(h7:(sc.map (·.1)).Nodup)(h8:sc.length<=1000000)(h9:Q (.dp p (en T.s sc')))
theorem aH(h:n<=1002000):n<p6:=Rq h am
def Bh(arms:List Arm)(ms:List Mk1)(o:Obj)(vs:ό)(sc:Sc):List T:=(arms.zip ms).map λp=>.t [tA p.1,.t (p.2.2.map .s),.fd o vs (en T.s sc)]
inductive y0(C:J)(ts:ώ)(Q:ϐ):Prop
 |mk(kn:T)(ks:ϑ)(hs:List Hd)(x:Str)(kd:Kd)(arms:List Arm)(o:Obj)(vs:ό)(sc:Sc)(h1:ts=[kn,.t [.s "case",.s x,.t (arms.map tA)],.fd o vs (en T.s sc)])(h2:Kn C kn ks hs)(h3:GW ks)(h4:(x,kd.1)∈sc)(h5:kd∈ks)(h6:arms.map (·.1)=kd.2.map (·.1))(h7:(sc.map (·.1)).Nodup)(h8:T.ims (arms.map tA)=O)(h9:Q (.l (Bh arms kd.2 o vs sc)))
theorem FH(ws:Γ):eqF (ws.map T.s) (ws.map T.s)=true:=FI λx hx=>by
 let(w,_,U):=sd.mp hx;exact show(w==w)=O from beq_self_eq_true w
structure Wi where
 nm:Str
 ns:Γ
 fs:Γ
 b:T
 o:Obj
 vs:ό
 sc:Sc
 n:Nat
def tWi(w:Wi):T:=.t [.t [.s w.nm,.t (w.ns.map .s),w.b],.t (w.fs.map .s),.fd w.o w.vs (en T.s w.sc)]
structure WOk(ks:ϑ)(hs:List Hd)(r:Str)(w:Wi):Prop where
 ln:w.ns.length=w.fs.length
 l4:w.fs.length<=4
 nd:(w.sc.map (·.1)++w.ns).Nodup
 sn:Snd ks hs r w.n (w.sc++w.ns.zip w.fs) w.b
 sz:w.sc.length+4*w.n+4<=300010
theorem Snd.pos{b:T}(h:Snd ks hs r n sc b):1<=n:=by cases h <;> omega
theorem WOk.im{ks:ϑ}{hs:List Hd}{r:Str}{w:Wi}(h:WOk ks hs r w):(tWi w).im=true:=by show((O&&(T.ims (w.ns.map .s)&&(w.b.im&&O)))&&(T.ims (w.fs.map .s)&&(O&&O)))=O;rw[ay,ay,h.sn.im];rfl
def fU(ws:List Wi):Nat:=(ws.map (·.n)).sum
theorem CL{ws:List Wi}(h:∀w∈ws,WOk ks hs r w):ws.length<=fU ws:=by induction ws with|nil=>exact oQ _|cons w r' g =>have h1:=(h w iY).sn.pos;have h2:=g λw hw=>h w (mm _ hw);unfold fU at *;rw[E3,RS,p7];omega
theorem vU(a b:List Wi):fU (a++b)=fU a+fU b:=by unfold fU;rw[pq,List.sum_append]
theorem CK(a:List Wi):fU a.reverse=fU a:=by unfold fU;rw[Sb,List.sum_reverse]
theorem kM{ts:List T}(h:∀t∈ts,t.im=O):T.ims ts=true:=by induction ts with|nil=>rfl|cons t r g=>show(t.im&&T.ims r)=O;rw[h t iY,g λt q=>h t (mm _ q)];rfl
theorem Fi{ws:List Wi}(h:∀w∈ws,WOk ks hs r w):T.ims (ws.map tWi)=true:=kM λt g=>by
 let(w,hw,U):=sd.mp g;exact(h w hw).im
def CH(o:Obj)(vs:ό)(sc:Sc)(p:Arm×Mk1):Wi:=(p.1.1,p.1.2.1,p.2.2,p.1.2.2.1,o,vs,sc,p.1.2.2.2)
theorem CG(arms:List Arm)(ms:List Mk1)(o:Obj)(vs:ό)(sc:Sc):Bh arms ms o vs sc=((arms.zip ms).map (CH o vs sc)).map tWi:=by unfold Bh;rw[Gk];rfl
theorem Bk{o:Obj}{vs:ό}(h:arms.length=ms.length):fU ((arms.zip ms).map (CH o vs sc))=(arms.map (·.2.2.2)).sum:=by unfold fU;rw[Gk];have:((λw:Wi=>w.n) ∘ CH o vs sc)=(λa:Arm=>a.2.2.2) ∘ Prod.fst:=rfl;rw[this,<- Gk,Tt bd]
theorem Mu{l:List Nat}{x:Nat}(h:x∈l):x<=l.sum:=by
 induction l with
 |nil=>cases h
 |cons y r g =>
  rw[RS];obtain e|e:=ot.mp h
  ·omega
  have:=g e;omega
theorem JI{o:Obj}{vs:ό}(G:GW ks)(g:kd∈ks)(hnm:arms.map (·.1)=kd.2.map (·.1))
  (h1:∀(i:Nat)(a:Arm)(m:Mk1),arms[i]?=Z a->kd.2[i]?=Z m->a.2.1.length=m.2.length/\(sc.map (·.1)++a.2.1).Nodup)
  (h2:∀(i:Nat)(a:Arm)(m:Mk1),arms[i]?=Z a->kd.2[i]?=Z m->Snd ks hs r a.2.2.2 (sc++a.2.1.zip m.2) a.2.2.1) (hsz:sc.length+4*(1+(arms.map (·.2.2.2)).sum)<=300010):
  ∀w∈(arms.zip kd.2).map (CH o vs sc),WOk ks hs r w:=by
 intro w hw;let(p,hp,U):=sd.mp hw;let(i,hi):=S4 hp;let(q,hm):=Rv.mp hi;let(K,z):=h1 i p.1 p.2 q hm;have hle:p.1.2.2.2 <=(arms.map (·.2.2.2)).sum:=Mu (sd.mpr (p.1,nZ q,U));exact(K,(G.fl kd g p.2 (nZ hm)).1,z,h2 i p.1 p.2 q hm,by show sc.length+4*p.1.2.2.2+4<=300010;omega)
inductive yZ(C:J)(ts:ώ)(Q:ϐ):Prop
 |mk(kn:T)(ks:ϑ)(hs:List Hd)(f:Fn)(o:Obj)(vs:ό)(h1:ts=[kn,tF f,.fd o vs (en T.s f.1.2.1)])(h2:Kn C kn ks hs)(h3:GW ks)(h4:(hs.map (·.1)).Nodup)(h5:Snd ks hs f.1.2.2 f.2.2 f.1.2.1 f.2.1)(h6:f.2.2<=50000)(h7:(f.1.2.1.map (·.1)).Nodup)(h8:f.1.2.1.length<=4)(h9:Q .n)
theorem Kn.im{C:J}{kn:T}{ks:ϑ}{hs:List Hd}(h:Kn C kn ks hs):kn.im=true:=by let(_,_,_,_,_,_,U):=h;rfl
theorem uY{k:Str}(h:(sc.map (·.1)).Nodup)(hx:x ∉ sc.map (·.1)):((sc++[Prod.mk x k]).map (·.1)).Nodup:=by rw[pq];refine O3.mpr (h,ap,λa q b g e=>?_);simp at g;rw[e,g]at q;exact hx q
structure Pw(ks:ϑ)(hs:List Hd)(r:Str)(n:Nat)(sc:Sc)(xs:List T)(w:Str)(b:T)(sc':Sc)(n':Nat):Prop where
 h0:atI xs 0=Z (.s w)
 hl:atI xs (-1)=Z b
 w1:w ≠ "give"
 w2:w ≠ "case"
 st:Stp ks hs sc (.t xs) sc' b
 sn:Snd ks hs r n' sc' b
 nn:n=n'+1
 nd:(sc'.map (·.1)).Nodup
 ln:sc'.length<=sc.length+1
theorem Snd.view{pc:T}(h:Snd ks hs r n sc pc)(hn:(sc.map (·.1)).Nodup):
  (∃x,pc=.t [.s "give",.s x]/\(x,r)∈sc) \/
  (∃(x:Str)(kd:Kd)(arms:List Arm),pc=.t [.s "case",.s x,.t (arms.map tA)]/\(x,kd.1)∈sc/\kd∈ks/\arms.map (·.1)=kd.2.map (·.1)/\n=1+(arms.map (·.2.2.2)).sum /\
(∀(i:Nat)(a:Arm)(m:Mk1),arms[i]?=Z a->kd.2[i]?=Z m->a.2.1.length=m.2.length/\(sc.map (·.1)++a.2.1).Nodup) /\
(∀(i:Nat)(a:Arm)(m:Mk1),arms[i]?=Z a->kd.2[i]?=Z m->Snd ks hs r a.2.2.2 (sc++a.2.1.zip m.2) a.2.2.1)) \/
  ∃(xs:List T)(w:Str)(b:T)(sc':Sc)(n':Nat),pc=.t xs/\Pw ks hs r n sc xs w b sc' n':=by
 cases h with
 |give hx=>exact .inl (_,U,hx)|cj hw _ q =>
  refine .inr (.inr (_,_,_,_,_,U,U,U,?_,?_,.cj hw,q,U,hn,Nat.le_succ _))
  ·obtain rfl|rfl:=hw <;> decide +kernel
  obtain rfl|rfl:=hw <;> decide +kernel
 |name K hx q=>exact .inr (.inr (_,_,_,_,_,U,U,U,bn,bn,.name K hx,q,U,uY hn hx,ap))|make g hm z hx q=>exact .inr (.inr (_,_,_,_,_,U,U,U,bn,bn,.make g hm z hx,q,U,uY hn hx,ap))|call P z hx q=>exact .inr (.inr (_,_,_,_,_,U,U,U,bn,bn,.call P z hx,q,U,uY hn hx,ap))|case arms hx g hnm h1 h2=>exact .inr (.inl (_,_,arms,U,hx,g,hnm,U,h1,h2))
theorem ne_str{w z:Str}(h:w≠z):(!decide (V.str w=V.str z))=true:=by rw[decide_eq_false λe=>h (V.str.inj e)];rfl
inductive pO(C:J)(ts:ώ)(Q:ϐ):Prop
 |mk(kn:T)(ks:ϑ)(hs:List Hd)(f:Fn)(h1:ts=[kn,tF f])(h2:Kn C kn ks hs)(h3:GW ks)(h4:(hs.map (·.1)).Nodup)(h5:Snd ks hs f.1.2.2 f.2.2 f.1.2.1 f.2.1)(h6:f.2.2<=50000)(h7:(f.1.2.1.map (·.1)).Nodup)(h8:f.1.2.1.length<=4)(h9:(∀p∈f.1.2.1,p.2∈ks.map (·.1)))(h10:f.1.2.2∈ks.map (·.1))(h11:Q .n)
structure Gh(ks:ϑ)(fs:ϓ):Prop where
 gk:GW ks
 l8:fs.length<=8
 hn:(fs.map (·.1.1)).Nodup
 pk:∀f∈fs,f.1.2.1.length<=4/\(∀p∈f.1.2.1,p.2∈ks.map (·.1))/\(f.1.2.1.map (·.1)).Nodup/\f.1.2.2∈ks.map (·.1)
 sn:∀f∈fs,Snd ks (fs.map (·.1)) f.1.2.2 f.2.2 f.1.2.1 f.2.1/\f.2.2<=50000
theorem Prog.w{ks:ϑ}{fs:ϓ}(p:Prog ks fs):Gh ks fs:=(p.gk.w,p.l8,p.hn,p.pk,p.sn)
inductive LR(ts:ώ)(Q:ϐ):Prop
 |mk(ks:ϑ)(fs:ϓ)(h1:ts=[.t [tKs ks,.t (fs.map tF)]])(h2:Gh ks fs)(h3:Q (.b O))
theorem OZ{fs:ϓ}(h:(fs.map (·.1.1)).Nodup):((fs.map (·.1)).map (·.1)).Nodup:=by rw[Gk];exact h
variable{N:Nat}{u:Int}{d:Tr}{e:Tr}{us:Sc}{o:Option (List Mk1)}{b:Tr}{q:Sq}{Q:Bool->Prop}{qa:QE}{qb:QE}{qc:QE}{rest:QS}
section
variable{P:Da}{w:Cl}{K:BT}{mg:Υ}{base:Dd}{a:Adr}
theorem gI(T:Txt K mg a):aS P w K mg base CX0 1 a.vp a.FW [Ze,Zl] C3:=by
 refine T.a5.F.ok og (λvs H Q E h=>?_) (λcdv A outer s H vs Q E hr h=>?_)
 ·let(d,l,m,U,_):=h;rfl
 let(d,l,m,U,(s0,n0,aT,D0),m0,m1,k):=h;have q:=a7 hr;refine(_,((bq (wF PassesOwn.never (PW.pt (Ea (ku Kj (gG q (pv 0) cQ (λ_ _=>rfl)) bt (bb _)) (Af (ku Ao (pU k9 be T.bB PySem.boot_len (bM (gG q (pv 0) cQ (λ_ _=>rfl)) fO)) bt (bb _)))))
(dZ (ou q (pv 0) cQ (y8 PySem.F.plainAttrs_list PySem.F.slot_list_pop PySem.F.type_list_pop zj (gG q (pv 0) cQ (λ_ _=>rfl))) U)))
(bq (gF (i:=2) og.nd U (Or.inl U) (gG q (pv 0) cQ (λ_ _=>rfl)))
(bq (Eg (ku Ao (pv 2) bt (bb _))
(bq (ou q (pv 0) cQ (cw wW (pv 2) (pv 1)) U)
(dZ (mq (cw gH (pv 2) (pv 1)))))
Aj)
(bq (gF (i:=3) og.nd U (Or.inl U) (cw gH (cw mz (cw jM (gG q (pv 0) cQ (λ_ _=>rfl)) bt) bt) bt))
(bq (ou q (pv 0) cQ (cw gH (cw mz (cw jM (pv 3) bt) bt) bt) U)
(bq (gF (i:=4) og.nd U (Or.inl U) (cw gH (cw jM (gG q (pv 0) cQ (λ_ _=>rfl)) (gG q (pv 0) cQ (λ_ _=>rfl))) bt))
(dZ (mq (cw gH (cw mz (cw jM (cw gH (cw jM (pv 3) (pv 3)) bt) bt) (pv 4)) (pv 1))))))))))),?_)
 refine Bj (λc σ H1=>∃s n ls,σ=[Z (.ref d),Z (.int m),Y,Y,Y]/\cx H1 d l s n ls/\Kp d l H H1/\c=ls.length) (s0,n0,aT,U,D0,Kp.refl,U) ?_ ?_
 ·rintro c σ H1 ⟨s1,n1,ls,rfl,D,K1,rfl⟩;refine(_,U,d,_,U,D.Pc,?_);refine(_,U,_,_,U,U,_,U,?_);refine aC (λh1=>?_) (λh1=>?_)
  ·have h1:0<n1:=of_decide_eq_true h1;have q0:0<=n1 / m:=Int.ediv_nonneg bd bd;refine(_,U,_,U,_,_,U,U,(m0,m1),_,U,d,_,U,D.Ou,?_);refine(_,U,_,U,_,_,U,U,m0,?_);exact k _ _ (mod_lt m0).1 (mod_lt m0).2 (_,_,_,D.num q0) K1.KQ
  refine(_,U,d,_,U,D.FC,_,_,U,U,.inr (am,am),_,_,U,U,_,_,U,U,(by show(0:Int)<2147483647;decide),?_);have b2:=mod_lt (x:=(s1*48271+7919) % 2147483647*40692+104729) (m:=2147483399) am;refine(_,U,_,_,U,U,.inr (am,am),_,_,U,U,_,_,U,U,(by show(0:Int)<2147483399;decide),_,U,d,_,U,D.Oq,?_);have z:=D.PR (m:=((s1*48271+7919) % 2147483647*40692+104729) % 2147483399) b2.1 bd;refine(_,U,d,_,U,z.FC,_,U,d,_,U,z.FC,_,_,U,U,.inl (bd,bd),_,_,U,U,(by show(0:Int)<2147483563;decide),?_);refine(_,U,_,U,_,_,U,U,.inl (bd,bd),_,_,U,U,(by show(0:Int)<2147483629;decide),_,_,U,U,.inr (am,am),_,U,_,_,U,U,_,U,_,_,U,U,m0,?_);exact k _ _ (mod_lt m0).1 (mod_lt m0).2 (_,_,_,z) K1.KQ
 rintro c σ H1 ⟨s1,n1,ls,rfl,D,K1,rfl⟩ hx;refine(_,U,d,_,U,D.Pc,U,_,U,?_);refine aC (λh1=>?_) (λh1=>hx);refine(_,U,d,_,U,D.Kw,l,_,U,.inl (SqL.of D.hl),_,_,U,U,_,U,?_);refine aC (λh2=>?_) (λh2=>hx);obtain rfl |⟨ls',x,rfl⟩:=S0 ls
 ·simp at h2
 have aP:H1 l=Z (.lst (ls'.map V.int++[.int x])):=(D.hl:);refine(λaN H'=>∃s n g,aN=[Z (.ref d),Z (.int m),Y,Y,Y]/\cx H' d l s n g/\Kp d l H H'/\g.length<(ls'++[x]).length,λaN H' (s2,n2,g,e,z,K2,h)=>(g.length,(h:),s2,n2,g,e,z,K2,U),?_);have x0:0<=x:=D.l0 x ap;have z:=D.list (ls':=ls') λy hy=>D.l0 y (by simp[hy]);refine(_,U,d,_,U,D.Kw,.inl (U,_,SqL.of aP),l,_,.int x,U,U,aP,ap,?_);rw[Sh];refine(_,U,d,_,U,z.Ou,?_);exact(_,_,ls',U,z.num x0,(K1.PK).KQ,ap)
theorem IP(T:Txt K mg a):aS P w K mg base CX0 1 a.vq a.FX [Zn,Zy] (K9 K):=by
 refine T.vP.F.ok ki (λvs H Q E h=>?_) (λcdv A outer s H vs Q E hr h=>?_)
 ·let(a,ns,b,U,_):=h;rfl
 let(p0,ns,b,U,hS,hlen,b0,b1,k):=h;have hu:=a7 hr;refine(_,((bq (uF (i:=2) ki.nd U (Or.inl U) U (oy (wO zT (pv 0) (uK (pv 1)) (uK bt))) (N':=[Zw]) (.own U .nil) (λ_ _ _ _ _=>((kB (i:=0) (show([Zw]:Γ).Nodup from by decide +kernel) U (Or.inl U)),uE,(pU (mK U) be T.F9 bv (bM (pv 0) (bM (cw za bt (pv 0)) fO))))))
(bq (gF (i:=3) ki.nd U (Or.inl U) (cw mz bt (pv 1)))
(bq (Eh PassesOwn.never U (oy (pv 2)) (kB (i:=4) ki.nd U (Or.inl U))
(dZ (gF (i:=3) ki.nd U (Or.inl U) (cw gH (cw mz (cw jM (pv 3) bt) (cw gH (pv 4) bt)) bt))))
(dZ (mq (Al (ky cQ (pv 3) (ky cQ bt (ky cQ (pT U U T.mM U T.gT (Am U (oy (pv 2)) (N':=[Zw]) (.own U .nil) (λ_ _ _ _ _=>((kB (i:=0) (show([Zw]:Γ).Nodup from by decide +kernel) U (Or.inl U)),(Ai (ku OA (pv 0) (cw L9 bt bt) (bb _))),(pv 0))))) Ak))) U U (by intro z;cases z) am))))))),?_)
 let(cs,bc,lcs):=F5 ns (Z b) (Z 63);refine(_,U,_,U,_,U,_,U,p0,_,U,hS,λp hp=>(p,U,(_,SqL.of au),?_));rw[bc];have s1:jY H (upd H p (.lst (cs.map V.int))):=(jY.refl H).new hp;refine sZ (K:=K) (a:=p) (xs:=cs.map V.int) (λi ys g H'=>∃zs:Ψ,ys=zs.map V.int/\(∀z∈zs,0<=z)/\zs.length=i/\(∃o,g=[o])/\H'=upd H p (.lst (cs.map V.int))) ([],U,ap,U,(_,U),U) ?_ ?_ ?_
 ·rintro i ys g H' hi ⟨zs,rfl,_,hz,_,rfl⟩;refine(SqL.of au,?_);rw[e7]at hi ⊢;exact aE bd
 ·rintro i x ys g H' hi ⟨zs,rfl,z0,hz,⟨o,rfl⟩,rfl⟩;let(c,U):=int_at hi;refine Ju ?_;refine(_,U,_,U,_,_,U,U,_,_,U,?_);refine(zs++[if 0-c > c then 0-c else c],ap,?_,by simp[hz],(_,U),U);intro z aN;obtain h|h:=rh.mp aN
  ·exact z0 z h
  rw[fy.mp h];split <;> lia
 rintro ys g H' ⟨zs,rfl,z0,hz,_,rfl⟩ D hD;have s2:jY H (upd (upd H p (.lst (cs.map V.int))) D (.lst (zs.map V.int))):=s1.new hD;have aP:(upd (upd H p (.lst (cs.map V.int))) D (.lst (zs.map V.int))) D=Z (.lst (zs.map V.int)):=au;generalize upd (upd H p (.lst (cs.map V.int))) D (.lst (zs.map V.int))=H2 at s2 aP ⊢;refine(_,U,_,_,U,U,?_);refine(_,U,D,U,(_,SqL.of aP),FE (K:=K) (a:=D) (xs:=zs.map V.int) (λi g H'=>∃(n:Int)(o:Option V),g=[Z (.ref p0),Z (.int b),Z (.ref D),Z (.int n),o]/\0<=n/\n<2147483647/\H2=H')
(_,_,U,bd,bd,U) (λi g H' _ (_,_,_,_,_,e)=>by rw[<- e];exact SqL.of aP) ?_ ?_)
 ·rintro i y g H' hi ⟨n,o,rfl,n0,n1,rfl⟩;let(z,U):=int_at hi;refine(_,U,_,_,U,U,.inr (am,am),_,U,_,_,U,U,(by show(0:Int)<2147483629;decide),_,_,U,U,_,_,U,U,(by show(0:Int)<2147483647;decide),?_);exact(_,_,U,(mod_lt am).1,(mod_lt am).2,U)
 rintro g H' ⟨n,o,rfl,n0,a5,rfl⟩;intro pd aT;have MZ:(upd H2 pd (.dK [])) D=Z (.lst (zs.map V.int)):=by rw[ak (aI aP aT)];exact aP
 have s3:jY H (upd H2 pd (.dK [])):=s2.new aT;have MV:(upd H2 pd (.dK [])) pd=Z (.dK []):=au;have a3:H pd=none:=s2.free aT;generalize upd H2 pd (.dK [])=H3 at MZ s3 MV ⊢;refine(_,U,_,U,D,U,(_,SqL.of MZ),sZ (K:=K) (a:=D) (xs:=zs.map V.int) (λi ys g H'=>∃ws:Ψ,ys=ws.map V.int/\(∀z∈ws,0<=z)/\ws.length<=i/\(∃o,g=[o])/\H3=H') ([],U,ap,oQ _,(_,U),U) ?_ ?_ ?_)
 ·rintro i ys g H' hi ⟨ws,rfl,_,aN,_,rfl⟩;refine(SqL.of MZ,?_);rw[e7]at hi ⊢;rw[e7]at hz;exact aE bd
 ·rintro i x ys g H' hi ⟨ws,rfl,w0,aN,⟨o,rfl⟩,rfl⟩;let(c,U,hc):=Jl hi;refine(_,U,_,_,U,U,(am,am,am),_,_,U,U,_,U,?_);refine aC (λh1=>?_) (λh1=>?_)
  ·refine(_,U,ws++[c],ap,?_,by simp;lia,(_,U),U);intro z aN;obtain h|h:=rh.mp aN
   ·exact w0 z h
   rw[fy.mp h];exact z0 c hc
  exact(ws,U,w0,bd,(_,U),U)
 rintro ys g H' ⟨ws,rfl,w0,aN,_,rfl⟩ D2 a0;refine(D2,_,U,SqL.of au,λq hq=>?_);have n1:pd≠D2:=aI MV a0;have e1:(upd H3 D2 (.lst (ws.map V.int))) pd=Z (.dK []):=by rw[ak n1];exact MV
 have n2:pd≠q:=aI e1 hq;have s4:jY H (upd (upd H3 D2 (.lst (ws.map V.int))) q (.lst ((ws.map V.int).reverse))):=(s3.new a0).new hq;refine(by rw[ak n2];exact e1,[(.inr "seed",.int n),(.inr "number",.int 0),(.inr "left",.ref q)],U,(by show 3<=15;decide),?_);refine k pd q _ a3 ((s3.new a0).free hq) (n,0,ws.reverse,au,?_,n0,a5,NC _,?_) ?_
 ·rw[ak n2.symm,au,Sb]
 ·intro x hx;exact w0 x (hx:)
 intro c o hc;have:c≠pd:=aI hc a3;rw[ak this];exact s4 c o hc
theorem EM(T:Txt K mg a):aS P w K mg base CX0 2 a.oG a.AL [Ze,Zl] (spQ K Ib):=by
 have aO:=jV (@gI P w K mg base a T);refine T.A7.F.okQ bH (λ_ _ _ _ _ _ hr=>?_);have hu:=a7 hr;refine(_,_,((ag (ax 2 bH.nd aF)
(ag (ax 3 bH.nd (HW (Za aF) (Za (b6 U (jb U T.dm (ae (Za (aK aO hr T.a5 (ae (qv 0) (ae ah av)))) av)) (N':=[Zt,"_law_letters",Ze]) (.own U (.got (i:=2) U U (.inl U) (.got (i:=0) U U (.inl U) .nil))) (bX (g:=(Tg.nm 0)) (λ_ _ _ _ _=>((cz 0),(Zb (ao (qv 1) (Za (aK aO hr T.a5 (ae (qv 2) (ae ah av)))))))))))))
(ag (ax 4 bH.nd (aK aO hr T.a5 (ae (qv 0) (ae (Za (aJ (Za (a6 T.bB (ae (qv 3) av))) ah)) av))))
(ag (ax 5 bH.nd (aK aO hr T.a5 (ae (qv 0) (ae ah av))))
(ag (ax 6 bH.nd (aL aj))
(ag (bC (g:=(Tg.nm 7)) PassesOwn.never U (fZ U T.dm (ae (qv 1) av)) (bo 7 bH.nd)
(ag (ax 8 bH.nd (Zb (ao (qv 2) (Za (yQ (Za (aJ (qv 5) (Za (uA ah (qv 7))))) ah)))))
(ag (ax 9 bH.nd (aJ (Za (aJ (Za (aZ (qv 3) bj (a9 (qv 4)))) (qv 8))) (Za (aZ (qv 3) (a9 (qv 4)) bj))))
(ag (ax 9 bH.nd (aJ (Za (aJ (qv 9) (Za (uA (Za aF) (Za (yQ (qv 7) ah)))))) (Za (uA (Za aF) (Za (HX (qv 7) ah))))))
(ag (aM (a4 (jN U) ik U (qv 9) (Za (ar (fe be))))
(ai (ax 9 bH.nd (aJ (qv 9) (Za aF))))
aA)
(ag (aM (a4 (jN U) ik U (qv 9) (Za (ar (fe be))))
(ai (ax 9 bH.nd (aJ (qv 9) (Za aF))))
aA)
(ai (bF (i:=6) (pv 6) (Zb (qv 9))))))))))
(ag (ax 10 bH.nd (aL (fe be)))
(ag (ax 10 bH.nd (aJ (qv 10) (Za (aL (fe be)))))
(ag (ax 9 bH.nd (Zb (ao (qv 10) (Za (aK aO hr T.a5 (ae (qv 0) (ae ah av)))))))
(ag (aM (QPW.pt (jG (bx hu (Za (aK aO hr T.a5 (ae (qv 0) (ae ah av)))) ah) (gB (a4 (sJ U) ik U (qv 9) (qv 6)))))
(ai (HK (i:=6) (pv 6) (Za (aK aO hr T.a5 (ae (qv 0) (ae (qv 1) av)))) (qv 9)))
aA)
(ai (dY (i:=6) (pv 6)))))))))))))),λts Q h=>?_)
 let(m,U,m0,m1,hq):=h;refine(am,am,λn n0 n1=>(bd,bd,aE (by rw[cv];omega),λi ys=>∃cs:List Nat,ys=cs.map (λc=>.s ⟨#[c]⟩)/\cs.length=i,([],U,U),?_,?_))
 ·rintro i x ys hx ⟨cs,rfl,hc⟩;let(U,hi):=fJ hx;refine(_,U,am,am,λr r0 r1=>(bn,_,As r0 r1,U,?_));exact(cs++[nN r.toNat],ap,by simp[hc])
 rintro ys ⟨cs,rfl,hc⟩;rw[cv]at hc;have e2:((cs.map (λc=>(⟨#[c]⟩:Str))).map (·.length)).sum=cs.length:=by clear hc;induction cs with|nil=>rfl|cons c cs ih=>simp only[E3,RS,p7,ih,show(⟨#[c]⟩:Str).length=1 from rfl];omega
 refine(cs.map (λc=>(⟨#[c]⟩:Str)),?_,?_,?_)
 ·rw[<- G6,Gk];rfl
 ·rw[e2,show(Str.ofString "").length=0 from by decide +kernel];omega
 have z:=PySem.size_glued (Str.ofString "") (cs.map (λc=>(⟨#[c]⟩:Str)));rw[e2,show(Str.ofString "").length=0 from by decide +kernel]at z;have lz:(Txt.join (Str.ofString "") (cs.map (λc=>(⟨#[c]⟩:Str)))).length<=5:=by show(Builtin.Str.glued _ _).length<=5;omega
 generalize Txt.join (Str.ofString "") (cs.map (λc=>(⟨#[c]⟩:Str)))=core at lz ⊢;refine(bw bd,bd,bd,λat_ a0 a1=>(am,am,λtn t0 t1=>?_));have aT:(Txt.slice core Y (Z at_)).length<=5:=vN (Txt.slice_le _ _ _) lz;have aP:(Txt.slice core (Z at_) Y).length<=5:=vN (Txt.slice_le _ _ _) lz;have lx:(Str.ofString "x").length=1:=bn;have ly:(Str.ofString "y").length=1:=bn;have lq:(Str.ofString "q").length=1:=bn;refine(bd,bd,λi q=>(Q4 λo7 o8 o9 L=>q=[.r .dj,.r (.i m),.o (.s u9),.o (.s core),.o (.i at_),.o (.i tn),.o (.l L),o7,o8,o9,.no]/\L=((Fq i).map (wordOf kept (Txt.slice core Y (Z at_)) (Txt.slice core (Z at_) Y) tn.toNat)).map .s),(_,_,_,_,U,U),?_,?_)
 ·rintro i x q hx ⟨o7,o8,o9,L,rfl,rfl⟩;let(U,hi):=fJ hx;have hi:i<52:=bd;have e1:∀c:Nat,(⟨#[c]⟩:Str).length=1:=λ_=>rfl;have eL:nN (((tn+7*(0+(i:Int))) % 26).toNat)=nN (tn.toNat+7*i):=by unfold nN;omega
  have r1:=f9 "x" ((0+(i:Int)) % 2).toNat;have r2:=f9 "y" ((0+(i:Int)) / 26).toNat;replace r1:(ia "x" ((0+(i:Int)) % 2).toNat).length<=1:=by rw[r1,lx,R5];exact(show i % 2*1<=1 from by rw[Nat.mul_one];exact R6 (S9 i am))
  replace r2:(ia "y" ((0+(i:Int)) / 26).toNat).length<=1:=by rw[r2,ly,R5];exact(show i / 26*1<=1 from by rw[Nat.mul_one];exact R6 (Nat.div_lt_of_lt_mul hi))
  refine(_,U,.inl (bd,bd),(by show(0:Int)<26;decide),bn,_,As (mod_lt am).1 (mod_lt am).2,U,?_);refine(bw bd,bw (by rw[e1];omega),bw bd,bw (by rw[Str.length_append,e1];omega),(by show(0:Int)<2;decide),bd,bd,bd,bw (by rw[Str.length_append,Str.length_append,e1];omega),(am,am),bd,bd,bd,bw (by rw[Str.length_append,Str.length_append,Str.length_append,e1];omega),?_);have eW:Txt.slice core Y (Z at_)++⟨#[nN (((tn+7*(0+(i:Int))) % 26).toNat)]⟩++Txt.slice core (Z at_) Y++ia "x" ((0+(i:Int)) % 2).toNat++ia "y" ((0+(i:Int)) / 26).toNat=cW (Txt.slice core Y (Z at_)) (Txt.slice core (Z at_) Y) tn.toNat i:=by unfold cW;rw[eL,show((0+(i:Int)) % 2).toNat=i % 2 from by omega,show((0+(i:Int)) / 26).toNat=i / 26 from by omega]
  have lW:=tE (Txt.slice core Y (Z at_)) (Txt.slice core (Z at_) Y) tn.toNat i;rw[eW];have snoc:∀z:Str,z=wordOf kept (Txt.slice core Y (Z at_)) (Txt.slice core (Z at_) Y) tn.toNat i ->
    ((Fq i).map (wordOf kept (Txt.slice core Y (Z at_)) (Txt.slice core (Z at_) Y) tn.toNat)).map ϕ++[ϕ z]=((Fq (i+1)).map (wordOf kept (Txt.slice core Y (Z at_)) (Txt.slice core (Z at_) Y) tn.toNat)).map ϕ:=λz hz=>by
   subst hz;rw[List.range_succ];simp
  have ln:(((Fq i).map (wordOf kept (Txt.slice core Y (Z at_)) (Txt.slice core (Z at_) Y) tn.toNat)).map ϕ).length<p6:=aE (by simp;omega);refine(be,aC (λg1=>?_) (λg1=>?_))
  ·have g1:inV (.str (cW (Txt.slice core Y (Z at_)) (Txt.slice core (Z at_) Y) tn.toNat i)) (xo.map V.str)=true:=by rw[<- bA];exact g1
   refine(bw (by rw[lq];omega),be,aC (λg2=>?_) (λ_=>?_))
   ·have g2:inT (.s (cW (Txt.slice core Y (Z at_)) (Txt.slice core (Z at_) Y) tn.toNat i++("q":Str))) (jr.map ϕ)=true:=g2;rw[bA,Ml]at g2;cases g2
   exact(ln,U,_,_,_,_,U,snoc (cW (Txt.slice core Y (Z at_)) (Txt.slice core (Z at_) Y) tn.toNat i++("q":Str)) (by unfold wordOf;rw[jR,g1,Bool.true_or,if_pos rfl]))
  have g1:inV (.str (cW (Txt.slice core Y (Z at_)) (Txt.slice core (Z at_) Y) tn.toNat i)) (xo.map V.str)=false:=by cases e:inV (.str (cW (Txt.slice core Y (Z at_)) (Txt.slice core (Z at_) Y) tn.toNat i)) (xo.map V.str)with|false=>rfl|true=>rw[<- bA]at e;exact absurd e g1
  refine(be,aC (λg2=>?_) (λg2=>?_))
  ·have g2:inV (.str (cW (Txt.slice core Y (Z at_)) (Txt.slice core (Z at_) Y) tn.toNat i)) (jr.map V.str)=true:=by rw[<- bA];exact g2
   exact(bw (by rw[lq];omega),ln,U,_,_,_,_,U,snoc (cW (Txt.slice core Y (Z at_)) (Txt.slice core (Z at_) Y) tn.toNat i++("q":Str)) (by unfold wordOf;rw[jR,g1,g2,S5,if_pos rfl]))
  have g2:inV (.str (cW (Txt.slice core Y (Z at_)) (Txt.slice core (Z at_) Y) tn.toNat i)) (jr.map V.str)=false:=by cases e:inV (.str (cW (Txt.slice core Y (Z at_)) (Txt.slice core (Z at_) Y) tn.toNat i)) (jr.map V.str)with|false=>rfl|true=>rw[<- bA]at e;exact absurd e g2
  exact(ln,U,_,_,_,_,U,snoc (cW (Txt.slice core Y (Z at_)) (Txt.slice core (Z at_) Y) tn.toNat i) (by unfold wordOf;rw[jR,g1,g2,S5,if_neg am,Str.append_empty]))
 rintro q ⟨o7,o8,o9,L,rfl,rfl⟩;rw[cv];have nd:((Fq m.toNat).map (wordOf kept (Txt.slice core Y (Z at_)) (Txt.slice core (Z at_) Y) tn.toNat)).Nodup:=nodup_range λi j hi hj bc=>Bi bd bd bc;have wl:∀w∈(Fq m.toNat).map (wordOf kept (Txt.slice core Y (Z at_)) (Txt.slice core (Z at_) Y) tn.toNat),1<=w.length/\w.length<=20:=λw hw=>by
  let(i,hi,U):=sd.mp hw;exact yl aT aP (by have:=Ro.mp hi;omega)
 have ll:((Fq m.toNat).map (wordOf kept (Txt.slice core Y (Z at_)) (Txt.slice core (Z at_) Y) tn.toNat)).length=m.toNat:=by simp
 generalize(Fq m.toNat).map (wordOf kept (Txt.slice core Y (Z at_)) (Txt.slice core (Z at_) Y) tn.toNat)=ws at nd wl ll;refine(bw am,be,be,am,am,λr r0 r1=>?_);let(wd,ew,hm):=JH (ws:=near) r0 r1;refine(_,ew,U,am,am,λr3 _ _=>(U,?_));have done:Q (.l (ws.map .s)):=hq ws bd nd wl;refine aC (λ_=>?_) (λ_=>Qi done);refine(by rw[cB];rfl,aC (λh2=>?_) (λ_=>done));have a3:wd ∉ ws:=Jm (by rw[<- bA];simpa using h2);refine(m0,bd,λr4 aN bg=>(r4.toNat,?_,ay ws,U,?_))
 ·unfold ixN;rw[if_pos aN,if_pos (by rw[e7];omega)]
 have z:=hq (ws.set r4.toNat wd) (by rw[O4];omega) (BW nd a3) λw hw=>by
  obtain z|z:=Nz hw
  ·exact wl w z
  rw[z];exact EY wd hm
 rw[SR]at z;exact z
theorem ET(T:Txt K mg a):aS P w K mg base CX0 2 a.oK a.AR [Ze,Zm] (spQ K Ih):=by
 have aO:=jV (@gI P w K mg base a T);refine T.Bb.F.okQ b8 (λ_ _ _ _ _ _ hr=>?_);have hu:=a7 hr;refine(_,_,((ag (ax 2 b8.nd (aK aO hr T.a5 (ae (qv 0) (ae ah av))))
(ag (Lo (i:=3) (j:=4) U b8.nd U U am U U (ao (qv 1) ah) (ao (qv 1) ah) U)
(ag (ax 5 b8.nd (aJ (Za (aZ (qv 1) (a9 ah) bj)) (Za (aZ (qv 1) bj (a9 ah)))))
(ag (aM (bx hu (qv 2) ah)
(ai (aD (ar (af (ar (af (Zb (qv 3)) (af (ar (af (ar (af (Zb (ao (qv 5) ah)) (af (ar aj) aj))) (af (ar (af (Zb (ao (qv 5) ah)) (af (ar (af (Zb (qv 3)) aj)) aj))) aj))) aj))) aj))))
aA)
(ag (aM (bx hu (qv 2) ah)
(ai (aD (ar (af (ar (af (Zb (qv 3)) (af (ar (af (ar (af (Zb (ao (qv 5) ah)) (af (ar aj) aj))) (af (ar (af (Zb (ao (qv 5) ah)) (af (ar (af (Zb (qv 3)) aj)) aj))) (af (ar (af (Zb (ao (qv 5) ah)) (af (ar (af (Zb (qv 3)) aj)) aj))) aj)))) aj))) aj))))
aA)
(ag (aM (bx hu (qv 2) ah)
(ai (aD (ar (af (ar (af (Zb (qv 3)) (af (ar (af (ar (af (Zb (ao (qv 5) ah)) (af (ar aj) aj))) (af (ar (af (Zb (ao (qv 5) ah)) (af (ar aj) aj))) aj))) aj))) (af (ar (af (Zb (qv 4)) (af (ar (af (ar (af (Zb (ao (qv 5) ah)) (af (ar aj) aj))) (af (ar (af (Zb (ao (qv 5) ah)) (af (ar (af (Zb (qv 3)) (af (Zb (qv 4)) aj))) aj))) aj))) aj))) aj)))))
aA)
(ag (aM (bx hu (qv 2) ah)
(ai (aD (ar (af (ar (af (Zb (qv 3)) (af (ar (af (ar (af (Zb (ao (qv 5) ah)) (af (ar aj) aj))) (af (ar (af (Zb (ao (qv 5) ah)) (af (ar (af (Zb (qv 3)) (af (Zb (qv 3)) aj))) aj))) aj))) aj))) aj))))
aA)
(ag (aM (bx hu (qv 2) ah)
(ai (aD (ar (af (ar (af (Zb (qv 3)) (af (ar (af (ar (af (Zb (ao (qv 5) ah)) (af (ar aj) aj))) (af (ar (af (Zb (ao (qv 5) ah)) (af (ar (af (Zb (qv 4)) aj)) aj))) aj))) aj))) (af (ar (af (Zb (qv 4)) (af (ar (af (ar (af (Zb (ao (qv 5) ah)) (af (ar (af (Zb (qv 3)) aj)) aj))) aj)) aj))) aj)))))
aA)
(ag (ax 6 b8.nd (aL aj))
(ag (ax 7 b8.nd (aJ ah (Za (aK aO hr T.a5 (ae (qv 0) (ae ah av))))))
(ag (ax 8 b8.nd bP)
(ag (bC (g:=(Tg.nm 9)) PassesOwn.never U (fZ U T.dm (ae (qv 7) av)) (bo 9 b8.nd)
(ag (ax 10 b8.nd (aL aj))
(ag (bC (g:=(Tg.nm 11)) PassesOwn.never U (fZ U T.dm (ae (Za (aJ ah (Za (aK aO hr T.a5 (ae (qv 0) (ae (Za (pK (aL (af bP (af bP aj))) (Za (aQ tj zW be T.KC bv (ae (Za (yR (zc hu U) ud (bb _) (qv 7) ah)) av))))) av)))))) av)) (bo 11 b8.nd)
(ag (ax 12 b8.nd (uA (Za (aK aO hr T.a5 (ae (qv 0) (ae (Za (pK (aL (af bP (af bP (af bP aj)))) (Za (aK aO hr T.a5 (ae (qv 0) (ae ah av)))))) av)))) (Za (aQ tj zW be T.KC bv (ae (Za (yR Ao (fF (g':=λi j=>.b (decide (j<i))) λ_ _ _ _=>.b _) (bb _) (Za (aJ (qv 9) (qv 11))) ah)) av)))))
(ag (gC (i:=13) b8.nd U (Or.inl U) U (jb U T.dm (ae (qv 12) av)) (N':=["_law_i",Zm,Ze,Zl]) (.own U (.got (i:=1) U U (.inl U) (.got (i:=0) U U (.inl U) (.got (i:=7) U U (.inl U) .nil)))) (bX (g:=(Tg.nm 0)) (λ_ _ _ _ _=>((cz 0),(Zb (ao (qv 1) (Za (aK aO hr T.a5 (ae (qv 2) (ae (qv 3) av))))))))))
(ag (bF (i:=10) (pv 10) (ar (af (Zb (ao (qv 5) (qv 8))) (af (aQ (bG U) bE be T.cH bv (ae (qv 13) av)) aj))))
(ai (ax 8 b8.nd (aJ (qv 8) ah)))))))
(ai (bF (i:=6) (pv 6) (ar (af (Zb (ao (qv 1) (qv 9))) (af (aQ (bG U) bE be T.cH bv (ae (qv 10) av)) aj))))))))
(ai (aD (aQ (bG U) bE be T.cH bv (ae (qv 6) av))))))))))))))))),λts Q h=>?_)
 let(ws,U,hl,bg,hq):=h;obtain⟨x0,x1,wr,rfl⟩:∃x0 x1 wr,ws=x0::x1::wr:=by
  cases ws with
  |nil=>cases hl
  |cons x0 r=>cases r with
   |nil=>cases hl
   |cons x1 wr=>exact(x0,x1,wr,U)
 have cC:atI ((x0::x1::wr).map ϕ) 0=Z (.s x0):=eO (j:=0) U;have ct:atI ((x0::x1::wr).map ϕ) 1=Z (.s x1):=eO (j:=1) U;refine(am,am,λfm f0 f1=>(_,cC,U,_,ct,U,ay _,ay _,?_));have hM:((x0::x1::wr).drop 4++(x0::x1::wr).take 4).Nodup:=Bv bg;have lM:((x0::x1::wr).drop 4++(x0::x1::wr).take 4).length=40:=by rw[mS,yb,vM];lia
 refine(bw (by have:=congrArg zN (Pj hl);rw[mS,e7]at this;lia),AA _ _ _,AA _ _ _,?_);rw[Pj hl];have bc:∀x∈(x0::x1::wr).drop 4++(x0::x1::wr).take 4,x∈x0::x1::wr:=λx hx=>(rh.mp hx).elim RO JY;generalize(x0::x1::wr).drop 4++(x0::x1::wr).take 4=M at hM lM bc;obtain⟨m0,V,m2,m3,mr,rfl⟩:∃m0 V m2 m3 mr,M=m0::V::m2::m3::mr:=by match M,lM with|m0::V::m2::m3::mr,_=>exact(m0,V,m2,m3,mr,U)
 have t0:atI ((m0::V::m2::m3::mr).map ϕ) 0=Z (.s m0):=eO (j:=0) U;have t1:atI ((m0::V::m2::m3::mr).map ϕ) 1=Z (.s V):=eO (j:=1) U;have t2:atI ((m0::V::m2::m3::mr).map ϕ) 2=Z (.s m2):=eO (j:=2) U;have t3:atI ((m0::V::m2::m3::mr).map ϕ) 3=Z (.s m3):=eO (j:=3) U;have ck:3 <=(x0::x1::wr).length:=bd;have a0:∀(ks:ϑ)(n made:Nat),qZ (x0::x1::wr) (m0::V::m2::m3::mr) n ks n made->1<=n->n<=3->Q (tKs ks):=λks n made D n1 n3=>hq ks (D.good bg hM n1 n3 ck) λx hx=>bc x (JY (D.mn▸hx));have a1:x0∈(x0::x1::wr).take 1:=iY;have a2:x0∈(x0::x1::wr).take 2:=iY;have b2:x1∈(x0::x1::wr).take 2:=mm _ iY;refine(U,aC (λ_=>?_) (λ_=>?_))
 ·refine(U,_,t0,U,_,t1,U,U,?_);exact a0 [(x0,[(m0,[]),(V,[x0])])] 1 2 (U,U,am,all1 (OS _ _,leK 2 6),all1 (all2 (leK 0 4,zG) (leK 1 4,all1 a1))) am am
 refine(U,aC (λ_=>?_) (λ_=>?_))
 ·refine(U,_,t0,U,_,t1,U,U,_,t2,U,U,?_);exact a0 [(x0,[(m0,[]),(V,[x0]),(m2,[x0])])] 1 3 (U,U,am,all1 (OS _ _,leK 3 6),all1 (QY (leK 0 4,zG) (leK 1 4,all1 a1) (leK 1 4,all1 a1))) am am
 refine(U,aC (λ_=>?_) (λ_=>?_))
 ·refine(U,_,t0,U,_,t1,U,U,_,t2,U,_,t3,U,U,U,?_);exact a0 [(x0,[(m0,[]),(V,[])]),(x1,[(m2,[]),(m3,[x0,x1])])] 2 4 (U,U,am,all2 (OS _ _,leK 2 6) (OS _ _,leK 2 6),all2 (all2 (leK 0 4,zG) (leK 0 4,zG)) (all2 (leK 0 4,zG) (leK 2 4,all2 a2 b2))) am am
 refine(U,aC (λ_=>?_) (λ_=>?_))
 ·refine(U,_,t0,U,_,t1,U,U,U,?_);exact a0 [(x0,[(m0,[]),(V,[x0,x0])])] 1 2 (U,U,am,all1 (OS _ _,leK 2 6),all1 (all2 (leK 0 4,zG) (leK 2 4,all2 a1 a1))) am am
 refine(U,aC (λ_=>?_) (λ_=>?_))
 ·refine(U,_,t0,U,_,t1,U,U,U,_,t2,U,U,?_);exact a0 [(x0,[(m0,[]),(V,[x1])]),(x1,[(m2,[x0])])] 2 3 (U,U,am,all2 (OS _ _,leK 2 6) (OS _ _,leK 1 6),all2 (all2 (leK 0 4,zG) (leK 1 4,all1 b2)) (all1 (leK 1 4,all1 a2))) am am
 clear t0 t1 t2 t3 cC ct a0 a1 a2 b2 ck;generalize dp:m0::V::m2::m3::mr=M at hM lM bc ⊢;generalize dn:x0::x1::wr=ws at bg hl bc hq ⊢;refine(am,am,λr2 dd dc=>?_);refine(bd,bd,λi q=>T8 λks made L o9 br aT aP aN=>q=[.r .dj,.r (.l (ws.map .s)),.o (.i fm),.o (.s x0),.o (.s x1),.o (.l (M.map .s)),.o (.l L),.o (.i (1+r2)),.o (.i (made:Nat)),o9,br,aT,aP,aN]/\L=ks.map tK/\qZ ws M (1+r2).toNat ks i made,
([],0,_,_,_,_,_,_,U,U,(U,U,oQ _,nofun,nofun)),?_,?_)
 ·rintro i x q hx ⟨ks,made,L,o9,br,aT,aP,aN,rfl,rfl,D⟩;let(U,hi):=fJ hx;have c2:=D.b1;have df:ks.length=i:=by have:=congrArg zN D.nm;rw[e7,vM,QG bd]at this;exact this
  have cj:i<ws.length:=bd;refine(_,U,U,_,Ow 3 6 _,?_,?_,λr5 da cN=>?_)
  ·split <;> decide
  ·split <;> decide
  have c9:r5<6:=by split at cN <;> lia
  refine(bd,bd,λj q=>T6 λms eJ L' aT aP aN=>q=[.r .dj,.r (.l (ws.map .s)),.o (.i fm),.o (.s x0),.o (.s x1),.o (.l (M.map .s)),.o (.l (ks.map tK)),.o (.i (1+r2)),.o (.i (eJ:Nat)),.r (.i (0+(i:Nat))),.o (.l L'),aT,aP,aN]/\L'=ms.map tM/\ms.length=j/\eJ=made+j/\M.take made++ms.map (·.1)=M.take eJ/\(∀m∈ms,m.2.length<=4/\∀f∈m.2,f∈ws.take (1+r2).toNat),
([],made,_,_,_,_,U,U,U,U,ap,nofun),?_,?_)
  ·rintro j x q hx ⟨ms,eJ,L',aT,aP,aN,rfl,rfl,a3,b0,bz,bR⟩;let(U,hj):=fJ hx;refine(_,U,am,am,λr6 cL cG=>?_);let(v,ev,hv):=Ki (x:=3) (y:=3) (z:=5) cL cG;refine(_,ev,bd,bd,λr7 c4 c3=>?_);refine(.inl (bd,bd),?_);have cR:∀b:Bool,0<=r7*(if b=O then 1 else 0)/\r7*(if b=O then 1 else 0)<=4:=λb=>by cases b <;> simp <;> lia
   let(w0,w4):=cR (decide (0<0+(i:Int)+(0+(j:Int))));generalize dg:r7*(if decide (0<0+(i:Int)+(0+(j:Int)))=O then 1 else 0)=wide at w0 w4 ⊢;refine(bd,bd,aE (by rw[cv];lia),λp ys=>∃fs:Γ,ys=fs.map .s/\fs.length=p/\∀f∈fs,f∈ws.take (1+r2).toNat,([],U,U,nofun),?_,?_)
   ·rintro p x ys hx ⟨fs,rfl,lf,hf⟩;let(U,hp):=fJ hx;refine(_,U,bd,bd,λr8 cF cE=>?_);have h8:r8.toNat<ws.length:=bd;have e8:atI (ws.map ϕ) r8=Z (.s ws[r8.toNat]):=by
     have:=eO (ws:=ws) (j:=r8.toNat) (w:=ws[r8.toNat]) (by simp[h8])
     rwa [Rg cF]at this
    refine(_,e8,U,fs++[ws[r8.toNat]],ap,by simp[lf],λf c1=>?_);obtain h|h:=rh.mp c1
    ·exact hf f h
    rw[fy.mp h];exact List.mem_take_iff_getElem.mpr (r8.toNat,Nat.lt_min.mpr ((Int.toNat_lt_toNat bd).mpr cE,h8),U)
   rintro ys ⟨fs,rfl,lf,hf⟩;rw[cv]at lf;have c0:i<=2:=R6 (u4 hi (Td.mpr (show 1+r2<=3 by omega)));have cV:j<=5:=R6 (u4 hj (Td.mpr (show 1+r5<=6 by omega)));have Ku:eJ<M.length:=by rw[b0,lM];exact Rq (Nat.add_le_add (vN c2 (Nat.mul_le_mul_left 6 c0)) cV) am
   have em:atI (M.map ϕ) ((eJ:Nat):Int)=Z (.s M[eJ]):=eO (by simp[Ku]);refine(aE (by rw[e7];lia),_,em,U,ay _,?_);refine(ms++[(M[eJ],fs)],eJ+1,_,_,_,_,U,by simp[tM],by simp[a3],bd,?_,λm hm=>?_)
   ·rw[pq,<- wh,bz];exact take_one (by simp[Ku])
   obtain h|h:=rh.mp hm
   ·exact bR m h
   rw[fy.mp h];exact(by show fs.length<=4;lia,hf)
  rintro q ⟨ms,eJ,L',aT,aP,aN,rfl,rfl,a3,b0,bz,bR⟩;rw[cv]at a3 b0;have ei:atI (ws.map ϕ) (0+((i:Nat):Int))=Z (.s ws[i]):=by rw[R5];exact eO (by simp[cj])
  refine(aE (by rw[e7];lia),_,ei,U,aW Fj _,?_);refine(ks++[(ws[i],ms)],eJ,_,_,_,_,_,_,U,by simp[tK,tMs],D.next (by simp[cj]) bz (λz=>?_) bd bd bR);rw[z]at a3;simp at a3;lia
 rintro q ⟨ks,made,L,o9,br,aT,aP,aN,rfl,rfl,D⟩;rw[cv]at D;refine(aW xu _,?_);exact hq ks (D.good bg hM bd bd bd) λx hx=>bc x (JY (D.mn▸hx))
theorem Aq(T:Txt K mg a):aS P w K mg base CX0 2 a.vo a.FV [Ze,Zg,Zu] (spQ K y4):=by
 refine T.rD.F.okQ n8 (λ_ _ _ _ _ _ hr=>?_);have hu:=a7 hr;refine(_,_,((ag (ax 3 n8.nd (aL aj))
(ag (bC (g:=(Tg.nm 4)) PassesOwn.never U (Lq (i:=2) (pv 2)) (bo 4 n8.nd)
(ag (gC (i:=5) n8.nd U (Or.inl U) U (km (qv 1)) (N':=[ZC,Zz,Zr]) (.own U (.own U (.got (i:=4) U U (.inl U) .nil))) (DU (g:=(Tg.tp [0,1])) (λ_ _ _ _ _=>((dy (cz 0) (cz 1)),(bx hu (qv 1) (qv 2)),(Zb (qv 0))))))
(ag (aM (bx hu (qv 5) (Za (aL aj)))
(ai (aD c7))
aA)
(ai (bF (i:=3) (pv 3) (Zb (ao (qv 5) (Za (pL (mK U) Dh be T.F9 bv (ae (Za (aK (jV (gI T)) hr T.a5 (ae (qv 0) (ae (Za (a6 T.bB (ae (qv 5) av))) av)))) (ae (Za (aK (jV (gI T)) hr T.a5 (ae (qv 0) (ae (Za (a6 T.bB (ae (qv 5) av))) av)))) av)))))))))))
(ai (aD (aQ (bG U) bE be T.cH bv (ae (qv 3) av))))))),λts Q h=>?_)
 let(sc,fs,t,ht,U,bc,br,hn,hq):=h;obtain rfl|rfl:=ht;all_goals
  refine(λi q=>Q4 λns o4 o5 L=>q=[.r .dj,.r (.l (sc.map tP)),.r _,.o (.l L),o4,o5]/\L=ns.map .s/\Fills sc ns (fs.take i),([],_,_,_,U,U,U,nofun),?_,?_)
  ·rintro i x q hx ⟨ns,o4,o5,L,rfl,rfl,hF⟩;rw[kf]at hx;let(f,hf,U):=mU.mp hx;have bg:i<fs.length:=(mT.mp hf).1;refine(_,U,aE (by rw[e7];lia),λk ys=>∃os:Γ,ys=os.map .s/\os.length<=k/\∀n∈os,(n,f)∈sc,([],U,oQ _,nofun),?_,?_)
   ·rintro k x ys hx ⟨os,rfl,lo,ho⟩;rw[kf]at hx;let(p,hp,U):=mU.mp hx;refine(_,U,U,aC (λe=>(U,os++[p.1],ap,by simp;lia,λn hn=>?_)) (λ_=>(os,U,bd,ho)));obtain h|h:=rh.mp hn
    ·exact ho n h
    rw[fy.mp h];have e':(ϕ p.2).v=(ϕ f).v:=(e:);have e2:p.2=f:=V.str.inj e';rw[<- e2];exact nZ hp
   rintro ys ⟨os,rfl,lo,ho⟩;rw[e7]at lo;refine(by rw[cB];rfl,aC (λ_=>hn) (λaT=>?_));have l0:0<os.length:=by cases os with|nil=>exact absurd U aT|cons _ _=>simp
   have ln:ns.length=i:=by rw[hF.1,vM];lia
   have aN:((os.map ϕ).length:Int)=os.length:=by rw[e7]
   refine(aE (by rw[e7];lia),by rw[aN];lia,by rw[aN];lia,λr r0 r1=>(by rw[aN];lia,by rw[aN];lia,λr' a3 aP=>?_));rw[aN]at r1 aP;have hm:∃m:Int,(if r' > r then r' else r)=m/\0<=m/\m<os.length:=(_,U,by split <;> lia,by split <;> lia);let(m,em,m0,m1):=hm;have a0:m.toNat<os.length:=bd;refine(.s os[m.toNat],(by show atI (os.map ϕ) (if r' > r then r' else r)=_;rw[em];exact Na m0 a0),U,ns++[os[m.toNat]],_,_,_,U,ap,?_);rw[<- take_one hf];exact hF.snoc (ho _ (Qj _))
  rintro q ⟨ns,o4,o5,L,rfl,rfl,hF⟩;rw[e7,uj]at hF;exact(ay _,hq ns hF)
theorem EU(T:Txt K mg a):aS P w K mg base CX0 3 a.oM a.AU [Ze,Zi,Zg,Zr,Zf] (spQ K ox):=by
 refine T.vO.F.okQ cK (λ_ _ _ _ _ _ hr=>?_);have hu:=a7 hr;refine(_,_,((ag (uz (g:=(Tg.tp [5,6,7])) (i:=1) (pv 1) (oA (K:=K) (n:=3) U U (cy (bo 5 cK.nd) (cy (bo 6 cK.nd) (cy (bo 7 cK.nd) oz)))))
(ag (ax 8 cK.nd (aK (Aq T) hr T.rD (ae (qv 0) (ae (qv 2) (ae (Za (aL (af (Zb (qv 3)) aj))) av)))))
(ag (aM (a4 oC ka (bb _) (qv 8) (Za c7))
(ai (aD (ar (af aF (af (Zb (ao (qv 8) ah)) aj)))))
aA)
(ag (ax 9 cK.nd (Zb (ao (qv 7) (Za (a6 T.bB (ae (qv 2) av))))))
(ag (bC (g:=(Tg.tp [10,11])) PassesOwn.never U (fL (Zb (gD (Za (aQ (la U) oZ be T.zF bv (ae (qv 5) av))) (qv 3)))) (dy (bo 10 cK.nd) (bo 11 cK.nd))
(ag (ax 12 cK.nd (aK (Aq T) hr T.rD (ae (qv 0) (ae (qv 2) (ae (qv 11) av)))))
(ai (aM (a4 oC ka (bb _) (qv 12) (Za c7))
(ai (aD (ar (af aF (af (Zb (qv 9)) (af (Zb (qv 10)) (af (Zb (qv 12)) (af (ar (af aF (af (Zb (qv 9)) aj))) aj))))))))
aA))))
(ag (ax 12 cK.nd (aQ (bG U) bE be T.cH bv (ae (Za (b6 U (km (Za (aZ (qv 2) bj (a9 (Za (a6 T.bB (ae (ao (ao (qv 6) (qv 4)) ah) av))))))) (N':=[ZC,Zz]) (.own U (.own U .nil)) (bX (g:=(Tg.tp [0,1])) (λ_ _ _ _ _=>((dy (cz 0) (cz 1)),(Zb (qv 0))))))) av)))
(ai (aD (ar (af aF (af (Zb (qv 9)) (af (Zb (ao (ao (qv 6) (qv 4)) ah)) (af (Zb (qv 12)) (af (ar (af aF (af (Zb (qv 9)) aj))) aj))))))))))))))),λts Q hh=>?_)
 let(ks,hs,ws,sc,f,h,U,W,hf,S,hq):=hh;have vf:h∈hs:=nZ hf;let(br,bg,bc,a3):=W.hp h vf;have ef:atI (hs.map tH) (f:Int)=Z (tH h):=b7 (by rw[kf,hf];rfl);have a0:sc.length<ws.length:=by have:=S.ln;have:=W.wl;omega
 have ex:atI (ws.map ϕ) ((sc.map tP).length:Int)=Z (.s ws[sc.length]):=by rw[e7];exact eO (mu a0)
 have fx:ws[sc.length] ∉ sc.map (·.1):=S.fresh W.wn (mu a0);generalize ws[sc.length]=x at ex fx;refine(_,U,U,sc,[h.2.2],_,.inr U,U,by have:=S.ln;omega,by show 1<=1000;decide,?_,λns hF=>?_)
 ·let(kd,aT,ek):=Ko a3;refine(_,ex,U,aW xu ks,_,pV ks,_,sM W.gk.nd a3,eR _,λi q=>P3 λaP aN V=>q=[.r .dj,.r (tW ks hs ws),.r (.l (sc.map tP)),.r (.s h.2.2),.r (.i f),.r (tKs ks),.r (.l (hs.map tH)),.r (.l (ws.map .s)),.o .n,.o (.s x),aP,aN,V],(_,_,_,U),?_,?_)
  ·rintro i t q hx ⟨aP,aN,V,rfl⟩;rw[kf]at hx;let(m,hm,U):=mU.mp hx;have a5:m∈kd.2:=by rw[<- xf W.gk.nd aT,ek];exact nZ hm
   refine(_,U,sc,m.2,_,.inl U,U,by have:=S.ln;omega,by have:=(W.gk.fl kd aT m a5).1;omega,(_,_,_,U),λns hF=>?_);refine(U,U,ay _,U,hq 2 _ am (.make aT a5 hF fx (.give ?_)) (kT qN (oQ _)));rw[ek];simp
  rintro q ⟨aP,aN,V,rfl⟩;have ec:cg (sc.map tP) Y (Z ((h.2.1.map tP).length:Int))=h.2.1.map tP:=by rw[e7,kY (by rw[e7];exact S.p1),<- Lh,S.pf]
  refine(_,ef,_,U,aW du _,?_);rw[ec];refine(aE (by rw[e7];omega),λi ys=>ys=((h.2.1.take i).map (·.1)).map .s,U,?_,?_)
  ·rintro i t ys hx rfl;rw[kf]at hx;let(p,hp,U):=mU.mp hx;refine(_,U,U,?_);show _++[ϕ p.1]=_;rw[ui,hp];simp
  rintro ys rfl;rw[e7,uj];refine(ay _,U,_,ef,_,U,U,ay _,U,hq 2 _ am (.call vf ?_ fx (.give ap)) (kT qN (oQ _)));have z:=Fills.self (sc:=sc) (n:=h.2.1.length)
  rwa [S.pf]at z
 obtain⟨n,rfl⟩:∃n,ns=[n]:=by match ns,hF.1 with|[n],_=>exact(n,U)
 exact(_,U,U,hq 1 _ am (.give (hF.2 (n,h.2.2) ap)) qN)
theorem IQ(T:Txt K mg a)(N:Nat)(gX:aS P w K mg base CX0 (2*N+3) a.qK a.zD [Ze,Zi,Zg,Zf,Zj] (spQ K (jK N))):aS P w K mg base CX0 (2*N+4) a.vt a.FY [Ze,Zi,Zg,Zf,Zj] (spQ K (LW N)):=by
 refine T.GD.F.okQ cM (λ_ _ _ _ _ _ hr=>?_);have hu:=a7 hr;refine(_,_,((ag (uz (g:=(Tg.tp [5,6,7])) (i:=1) (pv 1) (oA (K:=K) (n:=3) U U (cy (bo 5 cM.nd) (cy (bo 6 cM.nd) (cy (bo 7 cM.nd) oz)))))
(ag (pH (g:=(Tg.tp [8,9])) (ao (qv 2) (Za (pL (mK U) Dh be T.F9 bv (ae (Za (aK (jV (gI T)) hr T.a5 (ae (qv 0) (ae (Za (a6 T.bB (ae (qv 2) av))) av)))) (ae (Za (aK (jV (gI T)) hr T.a5 (ae (qv 0) (ae (Za (a6 T.bB (ae (qv 2) av))) av)))) av))))) (dy (bo 8 cM.nd) (bo 9 cM.nd)))
(ag (ax 10 cM.nd (Zb (gD (Za (aQ (la U) oZ be T.zF bv (ae (qv 5) av))) (qv 9))))
(ag (wu (i:=4) (pv 4) (pv 4) (Za (a6 T.bB (ae (qv 10) av))))
(ag (ax 11 cM.nd (aL aj))
(ag (bC (g:=(Tg.tp [12,13])) PassesOwn.never U (fL (Zb (qv 10))) (dy (bo 12 cM.nd) (bo 13 cM.nd))
(ag (gC (i:=14) cM.nd U (Or.inl U) U (Ab U T.dO bv (ae (qv 13) av)) (N':=[Zt,"_law_field",Zm,Zg]) (.own U (.own U (.got (i:=7) U U (.inl U) (.got (i:=2) U U (.inl U) .nil)))) (bX (g:=(Tg.tp [0,1])) (λ_ _ _ _ _=>((dy (cz 0) (cz 1)),(ar (af (Zb (ao (qv 2) (Za (aJ (Za (a6 T.bB (ae (qv 3) av))) (qv 0))))) (af (Zb (qv 1)) aj)))))))
(ag (ax 15 cM.nd (aQ (bG U) bE be T.cH bv (ae (Za (b6 U (km (qv 14)) (N':=[ZC,"_law_field"]) (.own U (.own U .nil)) (bX (g:=(Tg.tp [0,1])) (λ_ _ _ _ _=>((dy (cz 0) (cz 1)),(Zb (qv 0))))))) av)))
(ai (bF (i:=11) (pv 11) (ar (af (Zb (qv 12)) (af (Zb (qv 15)) (af (aK gX hr T.j4 (ae (qv 0) (ae (qv 1) (ae (Za (aJ (qv 2) (qv 14))) (ae (qv 3) (ae (qv 4) av)))))) aj)))))))))
(ai (aD (ar (af aF (af (Zb (qv 8)) (af (aQ (bG U) bE be T.cH bv (ae (qv 11) av)) aj))))))))))))),λts Q hh=>?_)
 let(ks,hs,ws,sc,f,h,u,U,W,hf,S,hl,ck,cC,hq):=hh;have l0:0<sc.length:=Rk.mpr ck;have V:((sc.map tP).length:Int)=sc.length:=by rw[e7]
 refine(_,U,by rw[V];lia,by rw[V];lia,λr r0 r1=>(by rw[V];lia,by rw[V];lia,λr' bz bc=>?_));rw[V]at r1 bc;let(m0,m1):=max_two r0 r1 bz bc;let((x,k),hx,ex):=iK (f:=tP) m0 m1;refine(tP (x,k),ex,U,_,U,?_);let(kd,aN,ek):=Ko (S.kd _ hx);obtain rfl:kd.1=k:=ek;have em:=xf W.gk.nd aN;refine(aW xu ks,_,pV ks,tMs kd.2,by rw[sM W.gk.nd (S.kd _ hx),em],eR _,RU _,?_);let(ne1,bR):=W.gk.ne kd aN;have cj:1<=kd.2.length:=Rk.mpr ne1;have b0:((kd.2.map tM).length:Int)=kd.2.length:=by rw[e7]
 have wl:=W.wl;have e1:(u-((kd.2.map tM).length:Int)).toNat=u.toNat-kd.2.length:=by rw[b0];lia
 generalize u-((kd.2.map tM).length:Int)=u' at e1 ⊢;refine(eR kd.2,λi q=>T6 λarms L a3 a0 aT aP=>q=[.r .dj,.r (tW ks hs ws),.r (.l (sc.map tP)),.r (.i f),.r (.rm u'),.r (tKs ks),.r (.l (hs.map tH)),.r (.l (ws.map .s)),.r (.s x),.r (.s kd.1),.o (tMs kd.2),.o (.l L),a3,a0,aT,aP]/\L=arms.map tA/\sv ks hs h.2.2 sc (sz u'.toNat) (3*u'.toNat+2) arms (kd.2.take i),
([],_,_,_,_,_,U,U,(U,λi a m h1=>by simp at h1)),?_,?_)
 ·rintro i t q hx ⟨arms,L,a3,a0,aT,aP,rfl,rfl,hA⟩;rw[kf]at hx;let(m,hm,U):=mU.mp hx;let(cL,ct):=W.gk.fl kd aN m (nZ hm);have cG:i<kd.2.length:=(mT.mp hm).1;have lA:arms.length=i:=by rw[hA.ln,vM];lia
  let(ln,bg,S'):=S.more (ns:=(ws.drop sc.length).take m.2.length) W.wn U bd bd ct;refine(_,U,aE (by rw[b9,e7];lia),λj ys=>ys=(((ws.drop sc.length).take j).zip (m.2.take j)).map tP,U,?_,?_)
  ·rintro j y ys hy rfl;let(z,hz,U):=eZ hy;rw[kf]at hz;let(g,hg,U):=mU.mp hz;have cF:j<m.2.length:=(mT.mp hg).1;have br:sc.length+j<ws.length:=bd;have ew:atI (ws.map ϕ) (((sc.map tP).length:Int)+(j:Nat))=Z (.s ws[sc.length+j]):=by rw[e7];exact eO (j:=sc.length+j) (mu br)
   refine(_,U,_,ew,U,U,?_);show _++[tP (ws[sc.length+j],g)]=_;rw[vR (a:=ws[sc.length+j]) (by rw[Sz,mu br]) hg,pq];rfl
  rintro ys rfl;rw[show(g7 (m.2.map ϕ)).length=m.2.length by rw[b9,e7],uj];generalize cE:(ws.drop sc.length).take m.2.length=ns at ln bg S' ⊢;refine(aE (by rw[e7,QL];lia),λj ys=>ys=(((ns.zip m.2).take j).map (·.1)).map .s,U,?_,?_)
  ·rintro j y ys hy rfl;rw[kf]at hy;let(p,hp,U):=mU.mp hy;refine(_,U,U,?_);show _++[ϕ p.1]=_;rw[ui,hp];simp
  rintro ys rfl;rw[show((ns.zip m.2).map tP).length=(ns.zip m.2).length by rw[e7],uj,gq ln];refine(ay _,aE (by rw[e7];lia),U,ay _,bw (by rw[e7,e7,QL];lia),aW du _,aW du _,ks,hs,ws,sc++ns.zip m.2,f,h,_,by rw[pq],W,hf,S',by rw[mS,QL];lia,bd,λn b hn hb dd=>?_);refine(arms++[(m.1,ns,b,n)],_,_,_,_,_,U,by simp[tA],?_);rw[ui,hm];exact hA.snoc (U,ln,bg,hb,hn,dd)
 rintro q ⟨arms,L,a3,a0,aT,aP,rfl,rfl,hA⟩;rw[e7,uj]at hA;let(hS,hle):=hA.snd hx aN;refine(U,hA.im,hq _ _ ?_ hS ((hA.dep bd).mono bd));rw[hA.ln,e1]at hle;have:=Ha (n:=u.toNat) cj bR;lia
def qMk(N:Nat):QS:=ic (DX (Tg.tp [17,18]) (qOp qIx (aU 5) (f6 pP (aG (aU 0) (aG (qCB wC (aG (aU 5) dq)) dq)))))
 (ic (DX (Tg.tp [19,20]) (qOp qIx (aU 18) (f6 pP (aG (aU 0) (aG (qCB wC (aG (aU 18) dq)) dq)))))
(ic (pM 16 (f6 y4 (aG (aU 0) (aG (aU 2) (aG (aU 20) dq)))))
(ic (mj (c8 (qOp (By ϊ) (aU 16) (qC .n))) (λD q=>f6 ox (aG (aU 0) (aG (aU 1) (aG (aU 2) (aG (aU 8) (aG (aU 3) dq))))) q D.rt) kr)
λD q=>wB (aG (qC (.s (Str.ofString "make"))) (aG (qIm (aU 10)) (aG (qIm (aU 19)) (aG (qIm (aU 16)) (aG (f6 (jK N) (aG (aU 0) (aG (aU 1) (aG (qOp uD (aU 2) (D6 (aG (wB (aG (qIm (aU 10)) (aG (qIm (aU 17)) dq))) dq))) (aG (aU 3) (aG (aU 4) dq)))))) dq))))) q D.rt)))
def qCl(N:Nat):QS:=ic (mj (c8 (qOp D9 (aU 9) (qC (.i 6))))
(ic (pM 15 (f6 pP (aG (aU 0) (aG (qCB wC (aG (aU 6) dq)) dq))))
(ic (pM 16 (f6 y4 (aG (aU 0) (aG (aU 2) (aG (Ae [Y] (asT (qOp qIx (qOp qIx (aU 6) (aU 15)) (qC (.i 1)))) (Tg.nm 0) DZ (qIm (qOp qIx (aU 0) (qC (.i 1))))) dq)))))
(mj (c8 (qOp (By O) (aU 16) (qC .n))) (λD q=>wB (aG (qC (.s (Str.ofString "call"))) (aG (qIm (aU 10)) (aG (qIm (qOp qIx (qOp qIx (aU 6) (aU 15)) (qC (.i 0)))) (aG (qIm (aU 16)) (aG (f6 (jK N) (aG (aU 0) (aG (aU 1) (aG (qOp uD (aU 2) (D6 (aG (wB (aG (qIm (aU 10)) (aG (qIm (qOp qIx (qOp qIx (aU 6) (aU 15)) (qC (.i 2)))) dq))) dq))) (aG (aU 3) (aG (aU 4) dq)))))) dq))))) q D.rt) kr))) kr) (qMk N)
def qNm(N:Nat):QS:=ic (DX (Tg.tp [13,14]) (qOp qIx (aU 2) (f6 pP (aG (aU 0) (aG (qCB wC (aG (aU 2) dq)) dq)))))
 λD q=>wB (aG (qC (.s (Str.ofString "name"))) (aG (qIm (aU 10)) (aG (qIm (aU 13)) (aG (f6 (jK N) (aG (aU 0) (aG (aU 1) (aG (qOp uD (aU 2) (D6 (aG (wB (aG (qIm (aU 10)) (aG (qIm (aU 14)) dq))) dq))) (aG (aU 3) (aG (aU 4) dq)))))) dq)))) q D.rt
structure Bc(N TL D:Nat)(ks:ϑ)(hs:List Hd)(ws:Γ)(sc:Sc)(f:Nat)(h:Hd)(u:Int)(x:Str)(Q:ϐ):Prop where
 W:Wld ks hs ws
 kd:∀p∈sc,p.2∈ks.map (·.1)
 l16:sc.length<=16
 fx:x ∉ sc.map (·.1)
 hE:ox [.dj,tW ks hs ws,.l (sc.map tP),.s h.2.2,.i f] Q
 go:∀{k:Str},k∈ks.map (·.1)->∀{Q':ϐ},(∀n b,n<=TL->Snd ks hs h.2.2 n (sc++[Prod.mk x k]) b->Dep D b->Q' b)->jK N [.dj,tW ks hs ws,.l (sc.map tP++[tP (x,k)]),.i f,.rm u] Q'
 hq:∀n b,n<=TL+1->Snd ks hs h.2.2 n sc b->Dep (D+1) b->Q b
 d1:1<=D
theorem z5{f:Nat}{h:Hd}{fm:Int}{Q:ϐ}(C:Bc N TL D ks hs ws sc f h u x Q)(br bg bc a5 a3 a0 aT aP aN V:Sl):
  qMk N {nx:=λ_=>Q .n,rt:=Q} [.r .dj,.r (tW ks hs ws),.r (.l (sc.map tP)),.r (.i f),.r (.rm u),.r (tKs ks),.r (.l (hs.map tH)),.r (.l (ws.map .s)),.o (.s h.2.2),.o (.i fm),.o (.s x),br,bg,bc,a5,a3,a0,aT,aP,aN,V]:=by
 let(W,bR,h3,fx,hE,go,hq,d1):=C;have lk:((ks.map tK).length)=ks.length:=by rw[e7]
 have k1:=W.gk.k1;have k2:=W.gk.k2;refine(bd,bd,λr6 P z=>?_);rw[lk]at z;let(kd,g,ek):=iK P z;let(ne1,bz):=W.gk.ne kd g;have lm:((kd.2.map tM).length)=kd.2.length:=by rw[e7]
 have l1:=Rk.mpr ne1;refine(_,ek,xu kd,_,U,bd,bd,λr7 K q=>?_);rw[lm]at q;let(m,hm,em):=iK K q;refine(_,em,Fj m,_,U,sc,m.2,_,.inl U,U,bd,by have:=(W.gk.fl kd g m hm).1;lia,hE,λns hF=>?_);refine(U,U,ay _,U,U,bw (by rw[e7];show sc.length+1<=10000;lia),aW du _,U,?_);exact go (sd.mpr (kd,g,U)) λn b hn hb dd=>hq (n+1) _ bd (.make g hm hF fx hb) (kT dd d1)
theorem HD{f:Nat}{h:Hd}{fm:Int}{Q:ϐ}{nx:Sq->Prop}(C:Bc N TL D ks hs ws sc f h u x Q)(br:sc ≠ [])(bc a5 a3 a0 aT aP aN V P K:Sl):
  qNm N {nx:=nx,rt:=Q} [.r .dj,.r (tW ks hs ws),.r (.l (sc.map tP)),.r (.i f),.r (.rm u),.r (tKs ks),.r (.l (hs.map tH)),.r (.l (ws.map .s)),.o (.s h.2.2),.o (.i fm),.o (.s x),bc,a5,a3,a0,aT,aP,aN,V,P,K]:=by
 let(W,bg,h3,fx,hE,go,hq,d1):=C;have g:((sc.map tP).length)=sc.length:=by rw[e7]
 have l0:=Rk.mpr br;refine(by rw[g];lia,by rw[g];lia,λr5 z q=>?_);rw[g]at q;let((y,k),hy,ey):=iK z q;refine(_,ey,U,_,U,U,U,U,U,bw (by rw[e7];show sc.length+1<=10000;lia),aW du _,U,?_);exact go (bg _ hy) λn b hn hb dd=>hq (n+1) _ bd (.name hy fx hb) (FN dd)
theorem HF{f:Nat}{h:Hd}{fm:Int}{Q:ϐ}(C:Bc N TL D ks hs ws sc f h u x Q)(a5 a3 a0 aT aP aN V P K z:Sl):
  qCl N {nx:=λ_=>Q .n,rt:=Q} [.r .dj,.r (tW ks hs ws),.r (.l (sc.map tP)),.r (.i f),.r (.rm u),.r (tKs ks),.r (.l (hs.map tH)),.r (.l (ws.map .s)),.o (.s h.2.2),.o (.i fm),.o (.s x),a5,a3,a0,aT,aP,aN,V,P,K,z]:=by
 let(W,bc,h3,fx,hE,go,hq,d1):=id C;refine(U,aC (λ_=>?_) (λ_=>z5 C _ _ _ _ _ _ _ _ _ _));have lh:((hs.map tH).length)=hs.length:=by rw[e7]
 have br:=W.h1;have bg:=W.h8;refine(bd,bd,λg g0 g1=>?_);rw[lh]at g1;let(hd,q,eg):=iK g0 g1;let(q1,q2,q3,q4):=W.hp hd q;refine(_,eg,_,U,aE (by rw[e7];lia),λi ys=>ys=((hd.2.1.take i).map (·.2)).map .s,U,?_,?_)
 ·rintro i t ys ht rfl;rw[kf]at ht;let(p,hp,U):=mU.mp ht;refine(_,U,_,U,U,?_);rw[ui,hp];simp
 rintro ys rfl;rw[show(hd.2.1.map tP).length=hd.2.1.length by rw[e7],uj];refine(sc,hd.2.1.map (·.2),_,.inr U,U,bd,by rw[e7];lia,z5 C _ _ _ _ _ _ _ _ _ _,λns hF=>?_);refine(U,_,eg,_,U,U,ay _,U,_,eg,_,U,U,bw (by rw[e7];show sc.length+1<=10000;lia),aW du _,U,?_);exact go q4 λn b hn hb dd=>hq (n+1) _ bd (.call q hF fx hb) (kT dd d1)
theorem Ov{r:Int}(h0:0<=r)(h1:r<3):∃w:Str,atI [ϕ "pay",ϕ "pay",ϕ "get"] r=Z (.s w)/\(w="pay" \/ w="get"):=by obtain⟨n,rfl⟩:∃n:Nat,r=n:=(r.toNat,bd);match n,h1 with| 0,_=>exact(_,U,.inl U)| 1,_=>exact(_,U,.inl U)| 2,_=>exact(_,U,.inr U)|n+3,h=>lia
theorem IS(T:Txt K mg a)(N:Nat):aS P w K mg base CX0 (2*N+3) a.qK a.zD [Ze,Zi,Zg,Zf,Zj] (spQ K (jK N)):=by
 induction N with
 |zero =>refine never λts Q hh=>?_;let(ks,hs,ws,sc,f,h,u,U,W,hf,S,hl,bg,hq):=hh;omega|succ N gX =>
  have ND:=IQ T N gX;have V:=jV (@gI P w K mg base a T);refine T.j4.F.okQ bL (λ_ _ _ _ _ _ hr=>?_);have hu:=a7 hr;refine(_,_,((ag (uz (g:=(Tg.tp [5,6,7])) (i:=1) (pv 1) (oA (K:=K) (n:=3) U U (cy (bo 5 bL.nd) (cy (bo 6 bL.nd) (cy (bo 7 bL.nd) oz)))))
(ag (ax 8 bL.nd (Zb (ao (ao (qv 6) (qv 3)) ah)))
(ag (ax 9 bL.nd (aK V hr T.a5 (ae (qv 0) (ae ah av))))
(ag (aM (QPW.pt (wq (z6 (HV (qv 4) ah) ah) (wq (bx hu (qv 9) ah) (uy (DJ (Za (a6 T.bB (ae (qv 2) av))) ah)))))
(ai (aD (aK (EU T) hr T.vO (ae (qv 0) (ae (qv 1) (ae (qv 2) (ae (qv 8) (ae (qv 3) av))))))))
aA)
(ag (wu (i:=4) (pv 4) (pv 4) ah)
(ag (ax 10 bL.nd (Zb (ao (qv 7) (Za (a6 T.bB (ae (qv 2) av))))))
(ag (aM (z6 (qv 9) ah)
(ag (ax 11 bL.nd (aJ ah (Za (aK V hr T.a5 (ae (qv 0) (ae (Za (pK (aL (af bP (af bP (af bP aj)))) (Za (aK V hr T.a5 (ae (qv 0) (ae ah av)))))) av))))))
(ag (ax 12 bL.nd (pK (aL (fe be)) (Za (aK V hr T.a5 (ae (qv 0) (ae ah av))))))
(ai (aD (ar (af (Zb (qv 12)) (af (Zb (qv 11)) (af (aK gX hr T.j4 (ae (qv 0) (ae (qv 1) (ae (qv 2) (ae (qv 3) (ae (qv 4) av)))))) aj))))))))
aA)
(ag (aM (QPW.pt (jG (z6 (qv 9) ah) (gB (a4 (pW hu U) lZ (bb _) (qv 2) (Za (aL aj))))))
(ai (aD (aK ND hr T.GD (ae (qv 0) (ae (qv 1) (ae (qv 2) (ae (qv 3) (ae (qv 4) av))))))))
aA)
(ag (aM (QPW.pt (jG (bx hu (qv 9) ah) (gB (a4 (pW hu U) lZ (bb _) (qv 2) (Za (aL aj))))))
(ag (pH (g:=(Tg.tp [13,14])) (ao (qv 2) (Za (aK V hr T.a5 (ae (qv 0) (ae (Za (a6 T.bB (ae (qv 2) av))) av))))) (dy (bo 13 bL.nd) (bo 14 bL.nd)))
(ai (aD (ar (af aF (af (Zb (qv 10)) (af (Zb (qv 13)) (af (aK gX hr T.j4 (ae (qv 0) (ae (qv 1) (ae (Za (aJ (qv 2) (Za (aL (af (ar (af (Zb (qv 10)) (af (Zb (qv 14)) aj))) aj))))) (ae (qv 3) (ae (qv 4) av)))))) aj))))))))
aA)
(ag (aM (bx hu (qv 9) ah)
(ag (ax 15 bL.nd (aK V hr T.a5 (ae (qv 0) (ae (Za (a6 T.bB (ae (qv 6) av))) av))))
(ag (ax 16 bL.nd (aK (Aq T) hr T.rD (ae (qv 0) (ae (qv 2) (ae (Za (b6 U (iH (ao (ao (qv 6) (qv 15)) ah)) (N':=["_law_param"]) (.own U .nil) (bX (g:=(Tg.nm 0)) (λ_ _ _ _ _=>((cz 0),(Zb (ao (qv 0) ah))))))) av)))))
(ai (aM (a4 oC ka (bb _) (qv 16) (Za c7))
(ai (aD (ar (af aF (af (Zb (qv 10)) (af (Zb (ao (ao (qv 6) (qv 15)) ah)) (af (Zb (qv 16)) (af (aK gX hr T.j4 (ae (qv 0) (ae (qv 1) (ae (Za (aJ (qv 2) (Za (aL (af (ar (af (Zb (qv 10)) (af (Zb (ao (ao (qv 6) (qv 15)) ah)) aj))) aj))))) (ae (qv 3) (ae (qv 4) av)))))) aj))))))))
aA))))
aA)
(ag (pH (g:=(Tg.tp [17,18])) (ao (qv 5) (Za (aK V hr T.a5 (ae (qv 0) (ae (Za (a6 T.bB (ae (qv 5) av))) av))))) (dy (bo 17 bL.nd) (bo 18 bL.nd)))
(ag (pH (g:=(Tg.tp [19,20])) (ao (qv 18) (Za (aK V hr T.a5 (ae (qv 0) (ae (Za (a6 T.bB (ae (qv 18) av))) av))))) (dy (bo 19 bL.nd) (bo 20 bL.nd)))
(ag (ax 16 bL.nd (aK (Aq T) hr T.rD (ae (qv 0) (ae (qv 2) (ae (qv 20) av)))))
(ag (aM (a4 Md Hr (bb _) (qv 16) (Za c7))
(ai (aD (aK (EU T) hr T.vO (ae (qv 0) (ae (qv 1) (ae (qv 2) (ae (qv 8) (ae (qv 3) av))))))))
aA)
(ai (aD (ar (af aF (af (Zb (qv 10)) (af (Zb (qv 19)) (af (Zb (qv 16)) (af (aK gX hr T.j4 (ae (qv 0) (ae (qv 1) (ae (Za (aJ (qv 2) (Za (aL (af (ar (af (Zb (qv 10)) (af (Zb (qv 17)) aj))) aj))))) (ae (qv 3) (ae (qv 4) av)))))) aj))))))))))))))))))))))),λts Q hh=>?_)
  let(ks,hs,ws,sc,f,h,u,U,W,hf,S,hl,bg,hq):=hh;have ef:atI (hs.map tH) (f:Int)=Z (tH h):=b7 (by rw[kf,hf];rfl);have hE:ox [.dj,tW ks hs ws,.l (sc.map tP),.s h.2.2,.i f] Q:=(ks,hs,ws,sc,f,h,U,W,hf,S,λn b hn hb dd=>hq n b (vN hn (C2 _)) hb (dd.mono bd));have bc:((sc.map tP).length:Int)=sc.length:=by rw[e7]
  have wl:=W.wl;have aN:sc.length<ws.length:=bd;have ex:atI (ws.map ϕ) ((sc.map tP).length:Int)=Z (.s ws[sc.length]):=by rw[e7];exact eO (mu aN)
  have hx:ws[sc.length]?=Z ws[sc.length]:=mu aN;have fx:ws[sc.length] ∉ sc.map (·.1):=S.fresh W.wn hx;generalize ws[sc.length]=x at ex fx hx;refine(_,U,_,ef,_,U,U,am,am,λfm f0 f1=>(U,λr bR=>aC (λ_=>hE) (λh1=>(U,aC (λ_=>hE) (λ_=>aC (λ_=>hE) (λh3=>?_))))));have h1:¬ r<1:=λz=>h1 (decide_eq_true z);have h3:sc.length<=16:=by have h3:¬(16:Int)<((sc.map tP).length:Int):=λz=>h3 (decide_eq_true z);rw[bc]at h3;omega
  have u1:u.toNat=(u-1).toNat+1:=bd;have uN:(u-1).toNat<N:=bd;have s1:=yq (u-1).toNat;rw[<- u1]at s1;have go:∀{k:Str},k∈ks.map (·.1)->∀{Q':ϐ},(∀n b,n<=sz (u-1).toNat->Snd ks hs h.2.2 n (sc++[Prod.mk x k]) b->Dep (3*(u-1).toNat+2) b->Q' b)->jK N [.dj,tW ks hs ws,.l (sc.map tP++[tP (x,k)]),.i f,.rm (u-1)] Q':=λ{k} hk {Q'} hQ =>
   (ks,hs,ws,sc++[(x,k)],f,h,u-1,by rw[pq];rfl,W,hf,S.snoc hx bd hk,by rw[mS];simp;omega,uN,hQ)
  have C:Bc N (sz (u-1).toNat) (3*(u-1).toNat+2) ks hs ws sc f h (u-1) x Q:=(W,S.kd,h3,fx,hE,go,λn b hn hb dd=>hq n b bd hb (dd.mono bd),bd);refine(am,_,ex,U,aC (λ_=>?_) (λ_=>?_))
  ·refine(am,am,λr2 a3 a0=>?_);let(v2,br,bz):=Ki (x:=3) (y:=9) (z:=1000) a3 a0;refine(_,br,bd,bd,λc c0 c1=>(am,am,λr4 aT aP=>?_));let(wd,ew,hw):=Ov aT aP;refine(_,ew,U,U,ks,hs,ws,sc,f,h,u-1,U,W,hf,S,hl,uN,λn b hn hb dd=>hq (n+1) _ bd (.cj hw bd hb) ((Cm dd).mono bd))
  refine(λrest=>aC (λ_=>aC (λq=>?_) (λ_=>rest)) (λ_=>rest)) ?_
  ·have Qr:sc ≠ []:=λz=>by rw[z]at q;exact absurd q am
   exact(ks,hs,ws,sc,f,h,u-1,U,W,hf,S,bd,Qr,uN,λn b hn hb dd=>hq n b (by rw[u1];exact hn) hb (dd.mono bd))
  refine(λrest=>(U,aC (λ_=>aC (λq=>HD C (λz=>by rw[z]at q;exact absurd q am) _ _ _ _ _ _ _ _ _ _) (λ_=>rest)) (λ_=>rest))) ?_;exact HF C _ _ _ _ _ _ _ _ _ _
theorem ze(T:Txt K mg a):aS P w K mg base CX0 66 a.jd a.sV [Ze,ZD,Zj] (spQ K BA):=by
 have aO:=jV (@gI P w K mg base a T);refine T.tQ.F.okQ bI (λ_ _ _ _ _ _ hr=>?_);have hu:=a7 hr;refine(_,_,((ag (ax 3 bI.nd (aK (EM T) hr T.A7 (ae (qv 0) (ae ah av))))
(ag (ax 4 bI.nd (aK (ET T) hr T.Bb (ae (qv 0) (ae (qv 3) av))))
(ag (ax 5 bI.nd (aL aj))
(ag (bC (g:=(Tg.nm 6)) PassesOwn.never U (fZ U T.dm (ae (Za (aJ ah (Za (aK aO hr T.a5 (ae (qv 0) (ae (qv 1) av)))))) av)) (bo 6 bI.nd)
(ag (ax 7 bI.nd (pK (aL (af bP (af bP (af bP (af bP (af bP (af bP (af bP aj)))))))) (Za (aK aO hr T.a5 (ae (qv 0) (ae ah av))))))
(ag (gC (i:=8) bI.nd U (Or.inl U) U (jb U T.dm (ae (qv 7) av)) (N':=[Zt,Zm,Zv,Ze]) (.own U (.got (i:=3) U U (.inl U) (.got (i:=4) U U (.inl U) (.got (i:=0) U U (.inl U) .nil)))) (bX (g:=(Tg.nm 0)) (λ_ _ _ _ _=>((cz 0),(ar (af (Zb (ao (qv 1) (qv 0))) (af (Zb (ao (ao (qv 2) (Za (aK aO hr T.a5 (ae (qv 3) (ae (Za (a6 T.bB (ae (qv 2) av))) av))))) ah)) aj)))))))
(ai (bF (i:=5) (pv 5) (ar (af (Zb (ao (qv 3) (Za (yP ah (qv 6))))) (af (aQ (bG U) bE be T.cH bv (ae (qv 8) av)) (af (Zb (ao (ao (qv 4) (Za (aK aO hr T.a5 (ae (qv 0) (ae (Za (a6 T.bB (ae (qv 4) av))) av))))) ah)) aj)))))))))
(ag (ax 9 bI.nd (aL aj))
(ag (bC (g:=(Tg.tp [6,10])) PassesOwn.never U (DO (i:=5) U T.dO bv (pv 5)) (dy (bo 6 bI.nd) (bo 10 bI.nd))
(ag (ax 11 bI.nd (aK (IS T 31) hr T.j4 (ae (qv 0) (ae (HS (ae (qv 4) (ae (qv 5) (ae (qv 3) av)))) (ae (Za (aQ (mL U) lY be T.mM bv (ae (ao (qv 10) ah) av))) (ae (qv 6) (ae (Za (HU (aL (af (Zb (qv 2)) aj)))) av)))))))
(ai (bF (i:=9) (pv 9) (aJ (qv 10) (Za (ar (af (Zb (qv 11)) aj))))))))
(ai (aD (ar (af (Zb (qv 4)) (af (aQ (bG U) bE be T.cH bv (ae (qv 9) av)) aj)))))))))))),λts Q hh=>?_)
 let(mo,u,U,c0,cV,u0,cR,hq):=hh;refine(40,U,am,am,λws hl a0 _=>?_);have hl:ws.length=40:=bd;refine(ws,U,hl,a0,λks cj _=>?_);obtain⟨ow,eo⟩:∃ow:Int,ow=1:=(1,U);have w0:0<=ow:=bd;have w1:ow<2:=bd;have gk:=cj.p;have k1:=gk.k1;have k2:=gk.k2;have lk:((ks.map tK).length:Int)=ks.length:=by rw[e7]
 refine(bd,bd,λn n0 n1=>?_);refine(bd,bd,λi q=>T5 λhs L o5 o6 o7=>q=[.r .dj,.r (.i mo),.r (.i u),.o (.l (ws.map .s)),.o (tKs ks),.o (.l L),o5,o6,o7,.no,.no,.no]/\L=hs.map tH/\tI ks ws ow.toNat hs i,([],_,_,_,_,U,U,(U,U,nofun)),?_,?_)
 ·rintro i x q hx ⟨hs,L,o5,o6,o7,rfl,rfl,hH⟩;let(U,hi):=fJ hx;refine(_,U,am,am,λr2 cE cC=>?_);let(m,hm,em):=iK (xs:=[1,1,2,2,0,3,4]) (f:=ϖ) cE cC;have hm:m=1\/m=1\/m=2\/m=2\/m=0\/m=3\/m=4:=(hm:);refine(_,em,bd,bd,aE (by rw[cv];omega),λp ys=>∃ps:Sc,ys=ps.map tP/\ps.map (·.1)=ws.take p/\∀q∈ps,q.2∈ks.map (·.1),([],U,U,nofun),?_,?_)
  ·rintro p y ys hy ⟨ps,rfl,aP,bc⟩;let(U,hp):=fJ hy;have b0:p<ws.length:=bd;have ew:atI (ws.map ϕ) (0+((p:Nat):Int))=Z (.s ws[p]):=by rw[R5];exact eO (by simp[b0])
   refine(_,U,_,ew,U,by rw[lk];omega,by rw[lk];omega,λr3 ct bz=>?_);rw[lk]at bz;let(kd,bg,ek):=iK (f:=tK) ct bz;refine(_,ek,_,U,U,ps++[(ws[p],kd.1)],by simp[tP],?_,λq cG=>?_)
   ·rw[pq,aP];exact take_one (by simp[b0])
   obtain z|z:=rh.mp cG
   ·exact bc q z
   rw[fy.mp z];exact sd.mpr (kd,bg,U)
  rintro ys ⟨ps,rfl,aP,bc⟩;rw[cv]at aP;have cF:ps.length=m.toNat:=by have:=congrArg zN aP;rw[e7,vM]at this;omega
  have bR:nM ow.toNat i<ws.length:=by unfold nM;split <;> omega
  have ei:atI (ws.map ϕ) (39-(0+(i:Int)))=Z (.s ws[nM ow.toNat i]):=by
   have e:39-(0+(i:Int))=((nM ow.toNat i:Nat):Int):=by subst eo;show _=((39-i:Nat):Int);omega
   rw[e];exact eO (by simp[bR])
  refine(aE (by rw[e7,hH.ln];omega),_,ei,U,aW du _,by rw[lk];omega,by rw[lk];omega,λr4 ck br=>?_);rw[lk]at br;let(kd,bg,ek):=iK (f:=tK) ck br;refine(_,ek,_,U,U,hs++[(ws[nM ow.toNat i],ps,kd.1)],_,_,_,_,U,by simp[tH],hH.snoc (mu bR) (by show ps.length<=4;omega,bc,by show ps.map (·.1)=ws.take ps.length;rw[cF];exact aP,sd.mpr (kd,bg,U)))
 rintro q ⟨hs,L,o5,o6,o7,rfl,rfl,hH⟩;rw[cv]at hH;have W:Wld ks hs ws:=(gk,hl,a0,by rw[hH.ln];omega,by rw[hH.ln];omega,hH.nd hl a0 bd,hH.hp);refine(λi q=>T5 λfs L o5 o9 a3=>q=[.r .dj,.r (.i mo),.r (.i u),.o (.l (ws.map .s)),.o (tKs ks),.r (.l (hs.map tH)),o5,o6,o7,.o (.l L),o9,a3]/\L=fs.map tF/\fs.map (·.1)=hs.take i/\∀f∈fs,Snd ks hs f.1.2.2 f.2.2 f.1.2.1 f.2.1/\f.2.2<=sz u.toNat/\Dep (3*u.toNat+2) f.2.1,([],_,_,_,_,U,U,U,nofun),?_,?_)
 ·rintro i x q hx ⟨fs,L,o5,o9,a3,rfl,rfl,V,aN⟩;let(y,hy,U):=eZ hx;rw[kf]at hy;let(hd,aT,U):=mU.mp hy;have vf:=nZ aT;let(q1,q2,q3,q4):=W.hp hd vf;have c1:fs.length=i:=by have:=congrArg zN V;rw[e7,vM]at this;have:=(mT.mp aT).1;omega
  have lhs:=W.h8;have c2:=(mT.mp aT).1;refine(_,U,_,U,aW du _,U,ks,hs,ws,hd.2.1,i,hd,u,U,W,aT,(q3,bd,q2,oQ _,by rw[uj]),bd,bd,λn b hn hb dd=>?_);refine(aE (by rw[e7];omega),hb.im,bw (by show 4<=10000;decide),OV hd,(by show(b.im&&O)=O;rw[hb.im];rfl),fs++[(hd,b,n)],_,_,_,_,U,by simp[tF],?_,λf' cN=>?_)
  ·rw[pq,V,ui,aT];rfl
  obtain z|z:=rh.mp cN
  ·exact aN f' z
  rw[fy.mp z];exact(hb,hn,dd)
 rintro q ⟨fs,L,o5,o9,a3,rfl,rfl,V,aN⟩;rw[b9,e7,uj]at V;have cL:ϔ (fs.map tF)=true:=by
  have go:∀(l:ϓ),(∀f∈l,f.2.1.im=O)->ϔ (l.map tF)=true:=by
   intro l;induction l with
   |nil=>intro _;rfl
   |cons f r ih =>intro h;show((O&&(ϔ (f.1.2.1.map tP)&&(O&&(f.2.1.im&&O))))&&ϔ (r.map tF))=O;rw[aW du,h f iY,ih λf hf=>h f (mm _ hf)];rfl
  exact go fs λf hf=>(aN f hf).1.im
 refine(iN ks,cL,hq ks fs (gk,?_,?_,λf hf=>?_,λf hf=>?_,λf hf=>((aN f hf).2.2).mono bd) cj ?_ (λf hf=>(aN f hf).2.1) ?_ λf hf=>(aN f hf).2.2)
 ·have:=congrArg zN V;rw[e7]at this;have:=W.h8;omega
 ·have:fs.map (·.1.1)=(fs.map (·.1)).map (·.1):=by rw[Gk];rfl
  rw[this,V];exact W.hn
 ·have hm:f.1∈hs:=by rw[<- V];exact sd.mpr (f,hf,U)
  let(q1,q2,q3,q4):=W.hp f.1 hm;exact(q1,q2,by rw[q3];exact a0.sublist (Ry _ _),q4)
 ·rw[V];exact((aN f hf).1,vN (aN f hf).2.1 (vN (G9 bd) NT))
 ·intro e;rw[e]at V;have:=hH.ln;rw[<- V]at this;simp at this;omega
 have:=hH.ln;rw[<- V,e7]at this;omega
theorem Ap(T:Txt K mg a):aS P w K mg base CX0 1 a.cV a.iR ["self",Zd,"above","arm"] (ua a.aY [Zd,"above","arm"]):=by
 refine Fun.ok T.fB um (λvs H Q E h=>?_) λcdv A outer s H vs Q E hr h=>?_
 ·let(x,dx,args,U,hl,_):=h;show args.length+1=4;rw[hl];rfl
 let(x,dx,args,U,hl,hx,hq):=h;obtain⟨v1,v2,g,rfl⟩:∃v1 v2 g,args=[v1,v2,g]:=by
  cases args with
  |nil=>cases hl
  |cons v1 r=>cases r with
   |nil=>cases hl
   |cons v2 r=>cases r with
    |nil=>cases hl
    |cons g r=>cases r with|nil=>exact(v1,v2,g,U)|cons=>cases hl
 refine(_,bq (mw (pv 0) (pv 1) U) (bq (mw (pv 0) (pv 2) U) (dZ (mw (pv 0) (pv 3) U))),(_,U,_,U,x,a.aY,dx,_,U,hx,T.k7,T.fP,(by show 0<1000;decide),(_,U,_,U,x,a.aY,dx,_,U,au,T.k7,T.rT,(by show 1<1000;decide),(_,U,_,U,x,a.aY,dx,_,U,au,T.k7,T.w5,(by show 2<1000;decide),?_))));rw[i6,i6];exact hq
theorem kE(T:Txt K mg a):aS P w K mg base CX0 1 a.vk a.FQ ["known","name"] (spQ K LO):=by
 refine T.i5.F.okQ Hz (λ_ _ _ _ _ _ hr=>?_);have g:=a7 hr;refine(_,_,((ai (aM (a4 (BO g) v7 U (qv 1) (qv 0))
(ai dH)
aA))),λts Q h=>?_)
 let(m,ks,x,U,hm,hx,hq):=h;cases m with
 |d ks'=>cases hm;exact aC (λz=>absurd (show(!(bK ks (.inr x)).isSome)=O from z) (by rw[hx];decide)) (λ_=>hq)
 |fd o vs ks'=>cases hm;exact aC (λz=>absurd (show(!(bK ks (.inr x)).isSome)=O from z) (by rw[hx];decide)) (λ_=>hq)
 |dp p ks'=>cases hm;exact aC (λz=>absurd (show(!(bK ks (.inr x)).isSome)=O from z) (by rw[hx];decide)) (λ_=>hq)
 |_=>cases hm
theorem kD(T:Txt K mg a):aS P w K mg base CX0 1 a.fi a.nc ["bound","name","kind"] (spQ K yX):=by
 refine T.i4.F.okQ uk (λ_ _ _ _ _ _ hr=>?_);have g:=a7 hr;refine(_,_,((ai (aM (a4 kC gw (bb _) (gD (qv 0) (qv 1)) (qv 2))
(ai dH)
aA))),λts Q h=>?_)
 let(m,ks,x,k,U,hm,hx,hq):=h;cases m with
 |d ks'=>cases hm;exact(_,hx,U,aC (λz=>absurd z ap) (λ_=>hq))
 |fd o vs ks'=>cases hm;exact(_,hx,U,aC (λz=>absurd z ap) (λ_=>hq))
 |dp p ks'=>cases hm;exact(_,hx,U,aC (λz=>absurd z ap) (λ_=>hq))
 |_=>cases hm
theorem gJ(T:Txt K mg a):aS P w K mg base CX0 1 a.vv a.FZ ["bound","name","what"] (spM K 0 LX):=by
 refine T.bR.F.okM HA (λts Q h=>?_) (λ_ _ _ _ _ _ hr=>?_)
 ·let(p,ks,x,v,U,_):=h;rfl
 have g:=a7 hr;refine(_,_,((ag (aM (a4 (Mg g) v7 U (qv 1) (qv 0))
(ai dH)
aA)
(ai (HL (i:=0) g (pv 0) (qv 1) (qv 2))))),λts Q V ks' h q=>?_)
 let(p,ks,x,v,U,hx,hi,hv,hl,hq):=h;cases q;refine aC (λz=>absurd (show(bK ks' (.inr x)).isSome=O from z) (by rw[hx];decide)) (λ_=>(hl,hi,hv,_,U,Jn hi hv,hq))
theorem ES(T:Txt K mg a):aS P w K mg base CX0 1 a.cG a.gS ["self","kinds","makers",Zh] (ua a.aP ["kinds","makers",Zh]):=by
 refine Fun.ok (k:=0) T.d8 rL (λvs H Q E h=>?_) λcdv A outer s H vs Q E hr h=>?_
 ·let(x,dx,args,U,hl,_):=h;show args.length+1=4;rw[hl];rfl
 let(x,dx,args,U,hl,hx,hq):=h;obtain⟨v1,v2,g,rfl⟩:∃v1 v2 g,args=[v1,v2,g]:=by match args,hl with|[v1,v2,g],_=>exact(v1,v2,g,U)
 refine(_,bq (mw (pv 0) (pv 1) U) (bq (mw (pv 0) (pv 2) U) (dZ (mw (pv 0) (pv 3) U))),?_);refine(_,U,_,U,x,a.aP,dx,_,U,hx,T.dN,T.c9,(by show 0<1000;decide),?_);refine(_,U,_,U,x,a.aP,dx,_,U,au,T.dN,T.gZ,(by show 1<1000;decide),?_);refine(_,U,_,U,x,a.aP,dx,_,U,au,T.dN,T.eD,(by show 2<1000;decide),?_);rw[i6,i6];exact hq
theorem pY(T:Txt K mg a):aS P w K mg base CX0 2 a.dE a.jw ["kinds","rows"] (spQ K uI):=by
 refine T.jB.F.okQ bJ (λ_ _ _ _ _ _ hr=>?_);have hu:=a7 hr;refine(_,_,((ag (ax 2 bJ.nd oo)
(ag (bC (g:=(Tg.tp [3,4])) PassesOwn.never U (fL (Zb (qv 1))) (dy (bo 3 bJ.nd) (bo 4 bJ.nd))
(ai (bC (g:=(Tg.tp [5,6])) PassesOwn.never U (fL (Zb (qv 4))) (dy (bo 5 bJ.nd) (bo 6 bJ.nd))
(ag (dB (i:=2) (j:=0) (gJ T) (hr.mono bd) U T.bR.m T.bR.F.kp T.bR.b (dC (i:=2) (pv 2) (ae (qv 5) (ae (Za (ar (af (Zb (qv 6)) (af (Zb (qv 3)) aj)))) av))))
(ai (bC (g:=(Tg.nm 7)) PassesOwn.never U (fL (Zb (qv 6))) (bo 7 bJ.nd)
(ai (c6 (Za (aK (kE T) hr T.i5 (ae (qv 0) (ae (qv 7) av))))))))))))
(ai (dY (i:=2) (pv 2)))))),λts Q h=>?_)
 let(m,ks,U,hm,G,hq):=h;refine(iN ks,λi q=>T6 λD o3 o4 o5 o6 z=>q=[.r m,.r (tKs ks),.o (.d D),o3,o4,o5,o6,z]/\D=en gM (mkL (ks.take i)),(_,_,_,_,_,_,U,U),?_,?_)
 ·rintro i t q hx ⟨D,o3,o4,o5,o6,z,rfl,rfl⟩;rw[kf]at hx;let(kd,aP,U):=mU.mp hx;have vf:=nZ aP;have l6:=G.ne kd vf;have lL:(mkL (ks.take i)).length<=36:=IZ (by rw[vM];have:=G.k2;omega) λk hk=>G.ne k (JY hk);refine(_,U,eR kd.2,λj q=>Q4 λD o5 o6 z=>q=[.r m,.r (tKs ks),.o (.d D),.r (.s kd.1),.r (tMs kd.2),o5,o6,z]/\D=en gM (mkL (ks.take i)++(kd.2.take j).map (mkR kd)),(_,_,_,_,U,ap),?_,?_)
  ·rintro j t q hx ⟨D,o5,o6,z,rfl,rfl⟩;rw[kf]at hx;let(V,aN,U):=mU.mp hx;have hf:=E2 G.mn aP aN;let(a3,a0):=G.fl kd vf V (nZ aN);refine(_,U,bV jt _,λp=>(ay _,U,(by show(O&&(L2.T.im (gM (V.2,kd.1))&&O))=O;rw[jt];rfl),p,_,V.1,gM (V.2,kd.1),U,gR hf,bV jt _,jt _,aE (by rw[jU,mS,e7,vM];omega),?_));rw[jT hf];refine(ay _,λ_ q=>∃z,q=[.r m,.r (tKs ks),.o (.d (en gM (mkL (ks.take i)++(kd.2.take j).map (mkR kd)++[(V.1,(V.2,kd.1))]))),.r (.s kd.1),.r (tMs kd.2),.r (.s V.1),.r (.t (V.2.map .s)),z],(_,U),?_,?_)
   ·rintro k t q hx ⟨z,rfl⟩;rw[kf]at hx;let(f,aT,U):=mU.mp hx;exact(_,U,m,_,f,U,hm,oN G.nd (a0 f (nZ aT)),_,U)
   rintro q ⟨z,rfl⟩;refine(_,_,_,_,U,?_);rw[ui,aN,wh];simp[mkR]
  rintro q ⟨D,o5,o6,z,rfl,rfl⟩;refine(_,_,_,_,_,_,U,?_);rw[show(kd.2.map tM).length=kd.2.length by rw[e7],uj,E6 aP]
 rintro q ⟨D,o3,o4,o5,o6,z,rfl,rfl⟩;rw[show(ks.map tK).length=ks.length by rw[e7],uj];exact hq
theorem kF(T:Txt K mg a):aS P w K mg base CX0 2 a.cE a.gf ["rows"] (spQ K BE):=by
 refine T.gm.F.okQ cq (λ_ _ _ _ _ _ hr=>?_);have hu:=a7 hr;refine(_,_,((ag (ax 1 cq.nd oo)
(ag (bC (g:=(Tg.nm 2)) PassesOwn.never U (fL (Zb (qv 0))) (bo 2 cq.nd)
(ag (ax 3 cq.nd (aQ (bG U) bE be T.cH bv (ae (Za (b6 U (iH (ao (qv 2) ah)) (N':=["name","kind"]) (.own U (.own U .nil)) (bX (g:=(Tg.tp [0,1])) (λ_ _ _ _ _=>((dy (cz 0) (cz 1)),(Zb (qv 1))))))) av)))
(ai (dB (i:=1) (j:=0) (gJ T) (hr.mono bd) U T.bR.m T.bR.F.kp T.bR.b (dC (i:=1) (pv 1) (ae (ao (qv 2) ah) (ae (Za (ar (af (Zb (qv 3)) (af (Zb (ao (qv 2) ah)) aj)))) av)))))))
(ai (dY (i:=1) (pv 1)))))),λts Q h=>?_)
 let(fs,U,hb,h8,hn,hq):=h;refine(eQ λf hf=>(hb f hf).1,λi q=>P3 λD V z=>q=[.r (.t (fs.map tF)),.o (.d D),V,z]/\D=en gM (hsL ((fs.take i).map (·.1))),(_,_,_,U,U),?_,?_)
 ·rintro i t q hx ⟨D,V,z,rfl,rfl⟩;rw[kf]at hx;let(f,hf,U):=mU.mp hx;have l4:=(hb f (nZ hf)).2;have fr:f.1.1 ∉ (hsL ((fs.take i).map (·.1))).map (·.1):=by rw[sR,Gk];have:=fresh_at (xs:=([]:Γ)) (ys:=fs.map λ(f:Fn)=>f.1.1) (i:=i) (y:=f.1.1) hn (by rw[kf,hf];rfl);rw[SU,<- Lh]at this;exact this
  refine(_,U,_,U,aE (by rw[e7];omega),λj ys=>ys=((f.1.2.1.take j).map (·.2)).map .s,U,?_,?_)
  ·rintro j y ys hy rfl;rw[kf]at hy;let(p,hp,U):=mU.mp hy;refine(_,U,U,?_);show _++[ϕ p.2]=_;rw[ui,hp];simp
  rintro ys rfl;rw[show(f.1.2.1.map tP).length=f.1.2.1.length by rw[e7],uj];refine(ay _,bV jt _,λp=>(_,U,ay _,_,U,U,(by show(O&&(L2.T.im (gM (f.1.2.1.map (·.2),f.1.2.2))&&O))=O;rw[jt];rfl),p,_,f.1.1,gM (f.1.2.1.map (·.2),f.1.2.2),U,gR fr,bV jt _,jt _,aE (by rw[jU];unfold hsL;rw[e7,e7,vM];omega),?_));rw[jT fr];refine(_,_,_,U,?_);rw[ui,hf,pq];unfold hsL;simp
 rintro q ⟨D,V,z,rfl,rfl⟩;rw[show(fs.map tF).length=fs.length by rw[e7],uj];exact hq
theorem uT(T:Txt K mg a):aS P w K mg base CX0 2 a.fj a.ng ["arm","fields","above"] (spQ K yY):=by
 refine T.nF.F.okQ dW (λ_ _ _ _ _ _ hr=>?_);have hu:=a7 hr;refine(_,_,((ag (aM (a4 kC gw (bb _) (Za (a6 T.bB (ae (ao (qv 0) ah) av))) (Za (a6 T.bB (ae (qv 1) av))))
(ai dH)
aA)
(ag (ax 3 dW.nd (aQ qS uf be T.zF bv (ae (qv 2) av)))
(ag (bC (g:=(Tg.tp [4,5])) PassesOwn.never U (DN U T.xQ bv (ae (ao (qv 0) ah) (ae (qv 1) av))) (dy (bo 4 dW.nd) (bo 5 dW.nd))
(ai (dB (i:=3) (j:=0) (gJ T) (hr.mono bd) U T.bR.m T.bR.F.kp T.bR.b (dC (i:=3) (pv 3) (ae (qv 4) (ae (qv 5) av))))))
(ai (dY (i:=3) (pv 3))))))),λts Q h=>?_)
 let(x,b,m,ns,fs,sc,U,aP,a3,(o,vs,U),hlen,a0,aT,hn,hq):=h;refine(_,U,U,aC (λz=>absurd z (by simp[hlen])) (λ_=>(bV gO _,_,U,ay _,ay _,λi q=>P3 λD o4 o5=>q=[.r (.t [x,.t (ns.map .s),b]),.r (.t (fs.map .s)),.r (.fd o vs (en ϕ sc)),.o (.d D),o4,o5]/\D=en ϕ (sc++(ns.zip fs).take i),(_,_,_,U,ap),?_,?_)))
 ·rintro i t q hx ⟨D,o4,o5,rfl,rfl⟩;let(y,z,h1,h2,U):=gs hx;rw[kf]at h1 h2;let(n,V,U):=mU.mp h1;let(f,aN,U):=mU.mp h2;have hz:(ns.zip fs)[i]?=Z (n,f):=Rv.mpr (V,aN);have hi:=(mT.mp V).1;have fr:n ∉ (sc++(ns.zip fs).take i).map (·.1):=by rw[pq,Lh,gq hlen];exact fresh_at hn V
  refine(_,U,bV gO _,λp=>(U,p,_,n,.s f,U,gR fr,bV gO _,U,aH (by rw[jU,mS,vM];omega),?_));rw[jT fr];refine(_,_,_,U,?_);rw[ui,hz,wh];rfl
 rintro q ⟨D,o4,o5,rfl,rfl⟩;have e:(lO (ns.map ϕ) (fs.map ϕ)).length=(ns.zip fs).length:=by rw[cZ,e7,e7,QL]
 rw[e,uj];exact hq
theorem wX(T:Txt K mg a):aS P w K mg base CX0 2 a.gP a.qO ["makings",Zd,"bound"] (spM K 2 BD):=by
 refine T.cR.F.okM cS (λts Q h=>?_) (λ_ _ _ _ _ _ hr=>?_)
 ·let(o,vs,L,pw,b,x,m,k,ns,fs,p,sc,U,_):=h;rfl
 have hu:=a7 hr;refine(_,_,((ag (ax 3 cS.nd (Zb (ao (qv 1) ah)))
(ag (bC (g:=(Tg.nm 4)) PassesOwn.never U (fL (Zb (qv 3))) (bo 4 cS.nd)
(ai (c6 (Za (aK (kE T) hr T.i5 (ae (qv 2) (ae (qv 4) av)))))))
(ag (c6 (Za (aK (kE T) hr T.i5 (ae (qv 0) (ae (ao (qv 1) ah) av)))))
(ag (ax 5 cS.nd (Zb (ao (gD (qv 0) (ao (qv 1) ah)) ah)))
(ag (aM (a4 kC gw (bb _) (Za (a6 T.bB (ae (qv 3) av))) (Za (a6 T.bB (ae (qv 5) av))))
(ai dH)
aA)
(ag (bC (g:=(Tg.tp [4,6])) PassesOwn.never U (DN U T.xQ bv (ae (qv 3) (ae (qv 5) av))) (dy (bo 4 cS.nd) (bo 6 cS.nd))
(ai (c6 (Za (aK (kD T) hr T.i4 (ae (qv 2) (ae (qv 4) (ae (qv 6) av))))))))
(ai (dB (i:=2) (j:=0) (gJ T) (hr.mono bd) U T.bR.m T.bR.F.kp T.bR.b (dC (i:=2) (pv 2) (ae (ao (qv 1) ah) (ae (ao (gD (qv 0) (ao (qv 1) ah)) ah) av)))))))))))),λts Q p' ks' h ht=>?_)
 let(o,vs,L,pw,b,x,m,k,ns,fs,p,sc,U,hL,hm,hF,aT,hx,a5,bc,a3,hq):=h;cases ht;have lk:=fw (g:=gM) hL hm;have aP:∀{i:Nat}{n f:Str},ns[i]?=Z n->fs[i]?=Z f->(n,f)∈sc:=λ{i n f} h1 h2=>hF.2 (n,f) (nZ (i:=i) (Rv.mpr (h1,h2)));refine(_,U,ay _,ay _,λi q=>∃o4,q=[.r (.fd o vs (en gM L)),.r (.t [pw,.s x,.s m,.t (ns.map .s),b]),.o (.dp p' (en ϕ sc)),.o (.t (ns.map .s)),o4,.no,.no],(_,U),?_,?_)
 ·rintro i t q V ⟨o4,rfl⟩;rw[kf]at V;let(n,aN,U):=mU.mp V;have hi:=(mT.mp aN).1;have vf:=aP aN (mu (by rw[<- hF.1];exact hi));exact(_,U,_,_,n,U,U,oN aT (sd.mpr (_,vf,U)),_,U)
 rintro q ⟨o4,rfl⟩;refine(_,U,_,_,m,U,U,by rw[lk];rfl,_,U,_,lk,_,U,ay _,U,aC (λz=>absurd z (by simp[hF.1])) (λ_=>?_));refine(ay _,ay _,λi q=>∃o4 o6,q=[.r (.fd o vs (en gM L)),.r (.t [pw,.s x,.s m,.t (ns.map .s),b]),.o (.dp p' (en ϕ sc)),.o (.t (ns.map .s)),o4,.o (.t (fs.map .s)),o6],(_,_,U),?_,?_)
 ·rintro i t q V ⟨o4,o6,rfl⟩;let(y,z,h1,h2,U):=gs V;rw[kf]at h1 h2;let(n,aN,U):=mU.mp h1;let(f,a0,U):=mU.mp h2;exact(_,U,_,_,n,f,U,U,fw aT (aP aN a0),_,_,U)
 rintro q ⟨o4,o6,rfl⟩;refine(bV gO _,_,U,_,U,_,lk,_,U,U,p',_,x,.s k,U,gR hx,bV gO _,U,aH (by rw[jU];omega),?_);rw[jT hx];exact(_,U,bV gO _,hq)
theorem rQ(T:Txt K mg a):aS P w K mg base CX0 3 a.d5 a.kU ["known",Zd,"bound"] (spM K 2 (wG a.aP)):=by
 refine T.d9.F.okM jq (λts Q h=>?_) (λ_ _ _ _ _ _ hr=>?_)
 ·let(kn,ks,hs,pc,b,p,sc,sc',U,_):=h;rfl
 have hu:=a7 hr;refine(_,_,((ag (ax 3 jq.nd (Zb (ao (qv 1) ah)))
(ai (aM (bx hu (qv 3) (Za aF))
(ai (dB (i:=2) (j:=2) (wX T) (hr.mono bd) U T.cR.m T.cR.F.kp T.cR.b (ja (gE T.dN T.gZ (qv 0)) (ja (qv 1) (dC (i:=2) (pv 2) av)))))
(ai (aM (bx hu (qv 3) (Za aF))
(ai (dB (i:=2) (j:=2) (wX T) (hr.mono bd) U T.cR.m T.cR.F.kp T.cR.b (ja (gE T.dN T.eD (qv 0)) (ja (qv 1) (dC (i:=2) (pv 2) av)))))
(ai (aM (bx hu (qv 3) (Za aF))
(ag (c6 (Za (aK (kE T) hr T.i5 (ae (qv 2) (ae (ao (qv 1) ah) av)))))
(ai (dB (i:=2) (j:=0) (gJ T) (hr.mono bd) U T.bR.m T.bR.F.kp T.bR.b (dC (i:=2) (pv 2) (ae (ao (qv 1) ah) (ae (gD (qv 2) (ao (qv 1) ah)) av))))))
aA)))))))),λts Q p' ks' h ht=>?_)
 let(kn,ks,hs,pc,b,p,sc,sc',U,(o1,v1,o2,v2,o3,v3,U),G,hn,hS,q,V,aN,hq):=h;cases ht;cases hS with|cj hw =>refine(_,U,U,U,aC (λz=>?_) (λ_=>(U,aC (λz=>?_) (λ_=>(U,aC (λz=>?_) (λ_=>(_,U,bV gO _,hq)))))));all_goals(obtain rfl|rfl:=hw <;> exact absurd z bn)|@name x y k _ hy hx =>refine(_,U,U,U,aC (λz=>absurd z bn) (λ_=>(U,aC (λz=>absurd z bn) (λ_=>(U,aC (λ_=>?_) (λz=>absurd bn z))))));have lk:=fw (g:=ϕ) V hy;refine(_,U,_,_,y,U,U,by rw[lk];rfl,bV gO _,_,U,_,U,_,lk,U,p',_,x,.s k,U,gR hx,bV gO _,U,aH (by rw[jU];omega),?_);rw[jT hx];exact(_,U,bV gO _,hq)|@make x m kd ns _ aT hm hF hx =>refine(_,U,U,U,aC (λ_=>?_) (λz=>absurd bn z));exact(bV gO _,U,am,_,U,U,(by show(O&&(O&&(O&&(ϔ (ns.map .s)&&(b.im&&O)))))=O;rw[ay,q];rfl),U,o2,v2,mkL ks,.s "make",b,x,m.1,kd.1,ns,m.2,p',sc,U,by rw[sL];exact G.mn,IY aT hm,hF,V,hx,U,q,aN,_,U,bV gO _,hq)|@call x h ns _ hh hF hx =>refine(_,U,U,U,aC (λz=>absurd z bn) (λ_=>(U,aC (λ_=>?_) (λz=>absurd bn z))));exact(bV gO _,U,am,_,U,U,(by show(O&&(O&&(O&&(ϔ (ns.map .s)&&(b.im&&O)))))=O;rw[ay,q];rfl),U,o3,v3,hsL hs,.s "call",b,x,h.1,h.2.2,ns,h.2.1.map (·.2),p',sc,U,by rw[sR];exact hn,Jo hh,hF,V,hx,U,q,aN,_,U,bV gO _,hq)
theorem uV(T:Txt K mg a):aS P w K mg base CX0 1 a.ft a.ni ["known",Zd,"bound"] (spQ K (y0 a.aP)):=by
 refine T.nH.F.okQ kg (λ_ _ _ _ _ _ hr=>?_);have hu:=a7 hr;refine(_,_,((ag (ax 3 kg.nd (Zb (Ac hu (gE T.dN T.c9 (qv 0)) (gD (qv 2) (ao (qv 1) ah)) (Za (ar aj)))))
(ag (aM (a4 (Ma hu U) Hl (bb _) (Za (b6 U (iH (ao (qv 1) ah)) (N':=["arm"]) (.own U .nil) (bX (g:=(Tg.nm 0)) (λ_ _ _ _ _=>((cz 0),(Zb (ao (qv 0) ah))))))) (Za (b6 U (iH (qv 3)) (N':=["maker"]) (.own U .nil) (bX (g:=(Tg.nm 0)) (λ_ _ _ _ _=>((cz 0),(Zb (ao (qv 0) ah))))))))
(ai dH)
aA)
(ai (aD (b6 U (Lr U T.xQ bv (ae (ao (qv 1) ah) (ae (qv 3) av))) (N':=["arm","maker","bound"]) (.own U (.own U (.got (i:=2) U U (.inl U) .nil))) (bX (g:=(Tg.tp [0,1])) (λ_ _ _ _ _=>((dy (cz 0) (cz 1)),(ar (af (Zb (qv 0)) (af (Zb (ao (qv 1) ah)) (af (Zb (qv 2)) aj))))))))))))),λts Q h=>?_)
 let(kn,ks,hs,x,kd,arms,o,vs,sc,U,(o1,v1,o2,v2,o3,v3,U),G,hx,V,hnm,a0,bc,hq):=h;have lk:=fw (g:=ϕ) a0 hx;have aT:bK (en tMs ks) (.inr kd.1)=Z (tMs kd.2):=fw (g:=tMs) (v:=kd.2) G.nd V;refine(U,am,_,U,_,U,_,lk,?_);show L2.T.im (Option.getD (bK (en tMs ks) (.inr kd.1)) (.t []))=O/\_;rw[aT];have h6:=G.ne kd V;have a5:arms.length=kd.2.length:=by have:=congrArg zN hnm;simpa using this
 refine(eR kd.2,_,U,aE (by rw[e7];omega),λi ys=>ys=((arms.take i).map (·.1)).map .s,U,?_,?_)
 ·rintro i y ys q rfl;rw[kf]at q;let(p,hp,U):=mU.mp q;refine(_,U,_,U,U,?_);show _++[ϕ p.1]=_;rw[ui,hp];simp
 rintro ys rfl;rw[show(arms.map tA).length=arms.length by rw[e7],uj];refine(aE (by rw[e7];omega),λi ys=>ys=((kd.2.take i).map (·.1)).map .s,U,?_,?_)
 ·rintro i y ys q rfl;rw[kf]at q;let(p,hp,U):=mU.mp q;refine(_,U,_,U,U,?_);show _++[ϕ p.1]=_;rw[ui,hp];simp
 rintro ys rfl;rw[show(kd.2.map tM).length=kd.2.length by rw[e7],uj,<- hnm];refine(by rw[cB];rfl,aC (λz=>absurd (show(!eqF ((arms.map (·.1)).map ϕ) ((arms.map (·.1)).map ϕ))=O from z) (by rw[FH];decide)) (λ_=>?_));refine(_,U,aE (by rw[cZ,e7,e7];omega),λi ys=>ys=Bh (arms.take i) (kd.2.take i) o vs sc,U,?_,?_)
 ·rintro i y ys q rfl;let(y1,z1,h1,h2,U):=gs q;rw[kf]at h1 h2;let(a1,aN,U):=mU.mp h1;let(m1,a3,U):=mU.mp h2;refine(_,U,?_,_,U,ay _,U,?_)
  ·have z:∀l:ώ,ϔ l=O->∀t∈l,t.im=true:=by
    intro l;induction l with
    |nil=>intro _ t ht;cases ht
    |cons x r ih =>
     intro h t ht;have h:(x.im&&ϔ r)=true:=h;rw[ri]at h;obtain e|e:=ot.mp ht
     ·rw[e];exact h.1
     exact ih h.2 t e
   exact z _ bc (tA a1) (sd.mpr (a1,nZ aN,U))
  show _++[ϗ [tA a1,.t (m1.2.map .s),.fd o vs (en ϕ sc)]]=_;unfold Bh;rw[vR aN a3,pq];rfl
 rintro ys rfl;have e:(lO (arms.map tA) (kd.2.map tM)).length=arms.length:=by rw[cZ,e7,e7];omega
 rw[e,uj,a5,uj];exact hq
theorem uU(T:Txt K mg a):aS P w K mg base CX0 4 a.fq a.nh ["known","function","params"] (spQ K (yZ a.aP)):=by
 refine T.nG.F.okQ bS (λ_ _ _ _ _ _ hr=>?_);have hu:=a7 hr;refine(_,_,((ag (ax 3 bS.nd (aL (af (ar (af (ar (af aF (af (ar aj) (af (Zb (ao (qv 1) ah)) aj)))) (af (ar aj) (af (Zb (qv 2)) aj)))) aj)))
(ai (iG PassesOwn.never (wt (qv 3))
(ag (DL (j:=4) bS.nd U (Or.inl U) (pv 3))
(ag (ax 5 bS.nd (Zb (ao (qv 4) ah)))
(ag (ax 6 bS.nd (aK (uT T) hr T.nF (ae (qv 5) (ae (ao (qv 4) ah) (ae (ao (qv 4) ah) av)))))
(ag (ax 7 bS.nd (Zb (ao (qv 5) ah)))
(ag (iG PassesOwn.never (QPW.pt (jG (a4 kC gw (bb _) (ao (qv 7) ah) (Za aF)) (gB (a4 kC gw (bb _) (ao (qv 7) ah) (Za aF)))))
(ag (dB (i:=6) (j:=2) (rQ T) (hr.mono bd) U T.d9.m T.d9.F.kp T.d9.b (ja (qv 0) (ja (qv 7) (dC (i:=6) (pv 6) av))))
(ai (ax 7 bS.nd (Zb (ao (qv 7) (Za (fM ah))))))))
(ag (c6 (Za (aK (kE T) hr T.i5 (ae (qv 6) (ae (ao (qv 7) ah) av)))))
(ai (aM (bx hu (ao (qv 7) ah) (Za aF))
(ai (c6 (Za (aK (kD T) hr T.i4 (ae (qv 6) (ae (ao (qv 7) ah) (ae (ao (qv 1) ah) av)))))))
(ag (yO (i:=6) (ax 8 bS.nd (aK (uV T) hr T.nH (ae (qv 0) (ae (qv 7) (ae (qv 6) av))))))
(ai (mh (i:=3) (pv 3) (m4 U U T.mM U T.gT (qv 8))))))))))))))))),λts Q h=>?_)
 let(kn,ks,hs,f,o,vs,U,hK,G,hn,hS,cH,b0,cC,hq):=h;refine(_,U,hS.im,U,λc q=>T7 λ(ws:List Wi)(A:ώ)(o4 o5 o6 o7 o8:Sl)=>q=[.r kn,.r (tF f),.r (.fd o vs (en ϕ f.1.2.1)),.o (.l A),o4,o5,o6,o7,o8]/\A=ws.map tWi/\(∀w∈ws,WOk ks hs f.1.2.2 w)/\fU ws<=50000/\c=fU ws,(_,[("",[],[],f.2.1,o,vs,f.1.2.1,f.2.2)],_,_,_,_,_,_,U,U,?_,?_,U),?_)
 ·intro w hw;rw[fy.mp hw];exact(U,Rm _,(b0:),(hS:),by show f.1.2.1.length+4*f.2.2+4<=300010;omega)
 ·show f.2.2+0<=50000;omega
 rintro c q ⟨ws,A,o4,o5,o6,o7,o8,rfl,rfl,hW,bR,rfl⟩;obtain rfl |⟨aN,wi,rfl⟩:=S0 ws
 ·exact hq
 rw[List.concat_eq_append]at *;have hw:=hW wi ap;have bc:∀w∈aN,WOk ks hs f.1.2.2 w:=λw h=>hW w (vr _ h);have MT:fU (aN++[wi])=fU aN+wi.n:=by rw[vU];simp[fU]
 have hl:=CL bc;refine aC (λ_=>?_) (λz=>absurd ap z);refine(λq'=>∃(aT:List Wi)(A:ώ)(o4 o5 o6 o7 o8:Sl),q'=[.r kn,.r (tF f),.r (.fd o vs (en ϕ f.1.2.1)),.o (.l A),o4,o5,o6,o7,o8]/\A=aT.map tWi/\(∀w∈aT,WOk ks hs f.1.2.2 w)/\fU aT<fU (aN++[wi]),?_,?_)
 ·rintro q' ⟨aT,A,o4,o5,o6,o7,o8,rfl,rfl,g1,g2⟩;exact(fU aT,g2,aT,_,_,_,_,_,_,U,U,g1,bd,U)
 refine(aN.map tWi,tWi wi,ap,?_,am,?_)
 ·have:=Fi hW;exact this
 have ck:=hK.im;refine(_,U,(by show(O&&(ϔ (wi.ns.map .s)&&(wi.b.im&&O)))=O;rw[ay,hw.sn.im];rfl),_,U,_,U,.s wi.nm,wi.b,_,wi.ns,wi.fs,wi.sc,U,U,hw.sn.im,(wi.o,wi.vs,U),hw.ln,by have:=hw.l4;omega,by have:=hw.sz;omega,hw.nd,?_);refine(_,U,hw.sn.im,λc q=>Q4 λ(pc:L2.T)(sc:Sc)(n:Nat)(o8:Sl)=>q=[.r kn,.r (tF f),.r (.fd o vs (en ϕ f.1.2.1)),.o (.l (aN.map tWi)),.o (tWi wi),.o (.t [.s wi.nm,.t (wi.ns.map .s),wi.b]),.o (.d (en ϕ sc)),.o pc,o8]/\Snd ks hs f.1.2.2 n sc pc/\(sc.map (·.1)).Nodup/\sc.length+4*n<=300010/\n<=wi.n/\c=n,(_,wi.b,wi.sc++wi.ns.zip wi.fs,wi.n,_,U,hw.sn,?_,?_,oQ _,U),?_)
 ·rw[pq,gq hw.ln];exact hw.nd
 ·rw[mS,QL];have:=hw.sz;have:=hw.l4;omega
 rintro c q ⟨pc,sc,n,o8,rfl,bg,a0,hsz,cE,rfl⟩;obtain⟨x,rfl,hx⟩|⟨x,kd,arms,rfl,hx,a5,hnm,cL,h1,h2⟩|⟨xs,w1,b,sc',n',rfl,V⟩:=bg.view a0
 ·have lk:=fw (g:=ϕ) a0 hx;refine(_,U,U,aC (λz=>absurd z bn) (λ_=>?_));refine(_,U,_,_,x,U,U,by rw[lk];rfl,_,U,U,aC (λ_=>?_) (λz=>absurd bn z));exact(_,U,_,U,_,_,x,f.1.2.2,U,U,lk,aN,_,_,_,_,_,_,U,U,bc,by rw[MT];have:=hw.sn.pos;omega)
 ·have lk:=fw (g:=ϕ) a0 hx;have h6:=G.ne kd a5;have cj:arms.length=kd.2.length:=by have:=congrArg zN hnm;simpa using this
  have ct:ϔ (arms.map tA)=true:=by have z:(O&&(O&&(ϔ (arms.map tA)&&O)))=true:=bg.im;simpa using z
  refine(_,U,U,aC (λ_=>(_,U,U,aC (λz=>absurd z bn) (λ_=>?_))) (λz=>absurd bn z));refine(_,U,_,_,x,U,U,by rw[lk];rfl,_,U,U,aC (λz=>absurd z bn) (λ_=>?_));refine(bV gO _,λo' a3=>(kn,ks,hs,x,kd,arms,o',a3,sc,U,hK,G,hx,a5,hnm,a0,ct,?_));have hA:=JI (o:=o') (vs:=a3) G a5 hnm h1 h2 bd;refine(by rw[CG];exact Fi hA,?_,aN++((arms.zip kd.2).map (CH o' a3 sc)).reverse,_,_,_,_,_,_,U,?_,λw bz=>?_,?_)
  ·rw[e7,Fx];unfold Bh;rw[e7,QL];have:fU aN+wi.n<=50000:=by rw[<- MT];exact bR
   exact x9 (aH bd)
  ·rw[CG,pq,Sb]
  ·obtain z|z:=rh.mp bz
   ·exact bc w z
   exact hA w (Tv.mp z)
  rw[vU,CK,Bk cj,MT];omega
 refine(_,V.h0,U,aC (λ_=>(_,V.h0,U,aC (λ_=>?_) (λz=>absurd (ne_str V.w2) z))) (λz=>absurd (ne_str V.w1) z));have cF:=V.nn;have cG:=V.ln;refine(λq'=>∃(pc:L2.T)(sc:Sc)(n2:Nat)(o8:Sl),q'=[.r kn,.r (tF f),.r (.fd o vs (en ϕ f.1.2.1)),.o (.l (aN.map tWi)),.o (tWi wi),.o (.t [.s wi.nm,.t (wi.ns.map .s),wi.b]),.o (.d (en ϕ sc)),.o pc,o8]/\Snd ks hs f.1.2.2 n2 sc pc/\(sc.map (·.1)).Nodup/\sc.length+4*n2<=300010/\n2<=wi.n/\n2<c,?_,?_)
 ·rintro q' ⟨pc,br,n2,o8,rfl,g1,g2,g3,g4,g5⟩;exact(n2,g5,pc,br,n2,_,U,g1,g2,g3,g4,U)
 exact(bV gO _,λp=>(ck,bg.im,U,kn,ks,hs,_,b,p,sc,sc',U,hK,G,hn,V.st,V.sn.im,a0,bd,_,V.hl,V.sn.im,b,sc',n',_,U,V.sn,V.nd,bd,bd,bd))
theorem mD(T:Txt K mg a):aS P w K mg base CX0 5 a.cO a.g9 ["known","function"] (spQ K (pO a.aP)):=by
 refine T.hZ.F.okQ cD (λ_ _ _ _ _ _ hr=>?_);have hu:=a7 hr;refine(_,_,((ag (ax 2 cD.nd oo)
(ag (bC (g:=(Tg.tp [3,4])) PassesOwn.never U (fL (Zb (ao (qv 1) ah))) (dy (bo 3 cD.nd) (bo 4 cD.nd))
(ag (dB (i:=2) (j:=0) (gJ T) (hr.mono bd) U T.bR.m T.bR.F.kp T.bR.b (dC (i:=2) (pv 2) (ae (qv 3) (ae (qv 4) av))))
(ai (c6 (Za (aK (kE T) hr T.i5 (ae (gE T.dN T.c9 (qv 0)) (ae (qv 4) av))))))))
(ag (c6 (Za (aK (kE T) hr T.i5 (ae (gE T.dN T.c9 (qv 0)) (ae (ao (qv 1) ah) av)))))
(ai (yO (i:=2) (c6 (Za (aK (uU T) hr T.nG (ae (qv 0) (ae (qv 1) (ae (qv 2) av)))))))))))),λts Q h=>?_)
 let(kn,ks,hs,f,U,hK,G,hn,hS,a3,z,a0,aT,aN,hq):=h;let(k1,v1,k2,v2,k3,v3,U):=id hK;refine(_,U,aW du _,λi q=>P3 λD o3 V=>q=[.r (.ob a.aP ["kinds","makers",Zh] [.fd k1 v1 (en tMs ks),.fd k2 v2 (en gM (mkL ks)),.fd k3 v3 (en gM (hsL hs))]),.r (tF f),.o (.d D),o3,V]/\D=en ϕ (f.1.2.1.take i),(_,_,_,U,U),?_,?_)
 ·rintro i t q hx ⟨D,o3,V,rfl,rfl⟩;rw[kf]at hx;let(p,hp,U):=mU.mp hx;have fr:p.1 ∉ (f.1.2.1.take i).map (·.1):=by have:=fresh_at (xs:=([]:Γ)) (ys:=f.1.2.1.map λ(p:Str×Str)=>p.1) (i:=i) (y:=p.1) z (by rw[kf,hp];rfl);rw[SU,<- Lh]at this;exact this
  refine(_,U,bV gO _,λad=>(U,ad,_,p.1,.s p.2,U,gR fr,bV gO _,U,aH (by rw[jU,vM];omega),?_));rw[jT fr];refine(U,am,_,U,_,_,p.2,U,U,oN G.nd (aT p (nZ hp)),_,_,_,U,?_);rw[ui,hp];rfl
 rintro q ⟨D,o3,V,rfl,rfl⟩;rw[show(f.1.2.1.map tP).length=f.1.2.1.length by rw[e7],uj];exact(U,am,_,U,_,U,_,_,f.1.2.2,U,U,oN G.nd aN,bV gO _,λo vs=>(_,ks,hs,f,o,vs,U,hK,G,hn,hS,a3,z,a0,hq))
theorem IL(T:Txt K mg a):aS P w K mg base CX0 6 a.f_look a.FT ["program"] (spQ K LR):=by
 refine T.GB.F.okQ i8 (λ_ _ _ _ _ _ hr=>?_);have hu:=a7 hr;refine(_,_,((ag (ax 1 i8.nd oo)
(ag (bC (g:=(Tg.tp [2,3])) PassesOwn.never U (fL (Zb (ao (qv 0) ah))) (dy (bo 2 i8.nd) (bo 3 i8.nd))
(ai (dB (i:=1) (j:=0) (gJ T) (hr.mono bd) U T.bR.m T.bR.F.kp T.bR.b (dC (i:=1) (pv 1) (ae (qv 2) (ae (qv 3) av))))))
(ag (yO (i:=1) (ax 4 i8.nd (ko U T.E4 (ES T) (hr.mono bd) U T.E1 T.vF (ae (qv 1) (ae (Za (Ad (aK (pY T) hr T.jB (ae (qv 1) (ae (ao (qv 0) ah) av))))) (ae (Za (Ad (aK (kF T) hr T.gm (ae (ao (qv 0) ah) av)))) av))))))
(ag (bC (g:=(Tg.nm 5)) PassesOwn.never U (fL (Zb (ao (qv 0) ah))) (bo 5 i8.nd)
(ai (c6 (Za (aK (mD T) hr T.hZ (ae (qv 4) (ae (qv 5) av)))))))
(ai (aD DT))))))),λts Q h=>?_)
 let(ks,fs,U,PW,hq):=h;have G:=PW.gk;refine(_,U,iN ks,λi q=>P3 λD o2 V=>q=[.r (.t [tKs ks,.t (fs.map tF)]),.o (.d D),o2,V,.no,.no]/\D=en tMs (ks.take i),(_,_,_,U,U),?_,?_)
 ·rintro i t q hx ⟨D,o2,V,rfl,rfl⟩;rw[kf]at hx;let(kd,z,U):=mU.mp hx;have fr:kd.1 ∉ (ks.take i).map (·.1):=by have:=fresh_at (xs:=([]:Γ)) (ys:=ks.map λ(p:Kd)=>p.1) (i:=i) (y:=kd.1) G.nd (by rw[kf,z];rfl);rw[SU,<- Lh]at this;exact this
  refine(_,U,bV eR _,λad=>((by show(O&&(L2.T.im (tMs kd.2)&&O))=O;rw[eR];rfl),ad,_,kd.1,tMs kd.2,U,gR fr,bV eR _,eR _,aE (by rw[jU,vM];have:=G.k2;omega),?_));rw[jT fr];refine(_,_,_,U,?_);rw[ui,z];rfl
 rintro q ⟨D,o2,V,rfl,rfl⟩;rw[show(ks.map tK).length=ks.length by rw[e7],uj];refine(bV eR _,λk1 v1=>(_,U,_,ks,U,U,G,bV jt _,λk2 v2=>(_,U,fs,U,λf hf=>((PW.sn f hf).1.im,by have:=(PW.pk f hf).1;omega),PW.l8,PW.hn,bV jt _,λk3 v3=>(U,U,?_))));refine(_,U,eQ (λf hf=>(PW.sn f hf).1.im),λi q=>∃o5,q=[.r (.t [tKs ks,.t (fs.map tF)]),.o (.fd k1 v1 (en tMs ks)),o2,V,.o (.ob a.aP ["kinds","makers",Zh] [.fd k1 v1 (en tMs ks),.fd k2 v2 (en gM (mkL ks)),.fd k3 v3 (en gM (hsL (fs.map (·.1))))]),o5],(_,U),?_,?_)
 ·rintro i t q hx ⟨o5,rfl⟩;rw[kf]at hx;let(f,hf,U):=mU.mp hx;have hm:=nZ hf;let(q1,q2,q3,q4):=PW.pk f hm;let(s1,s2):=PW.sn f hm;exact(_,U,_,ks,fs.map (·.1),f,U,(k1,v1,k2,v2,k3,v3,U),G,OZ PW.hn,s1,s2,q3,q1,q2,q4,_,U)
 rintro q ⟨o5,rfl⟩;exact hq
set_option genInjectivity true in
inductive Tr where
 |giv(x:Str)|one(h:ώ)(b:Tr)|cas(x:Str)(a:Tr)|nil|arm(m:Str)(ns:Γ)(b r:Tr)
def Tr.l:Tr->ώ
 |.giv x=>[.t [.s "give",.s x]]|.one h b=>[.t (h++b.l)]|.cas x a=>[.t [.s "case",.s x,.t a.l]]|.nil=>[]|.arm m ns b r=>.t (.s m :: .t (ns.map .s)::b.l)::r.l
def Tr.t(d:Tr):L2.T:=d.l.headD .n
def Tr.bs:Tr->List Tr
 |.arm _ _ b r=>b::r.bs|_=>[]
def Tr.kids:Tr->List Tr
 |.one _ b=>[b]|.cas _ a=>a.bs|_=>[]
def Tr.pre:Tr->List Tr
 |.giv x=>[.giv x]|.one h b=>.one h b::b.pre|.cas x a=>.cas x a::a.pre|.nil=>[]|.arm _ _ b r=>b.pre++r.pre
inductive Hok:ώ->Prop
 |cj{w:Str}{c:Int}:(w="pay" \/ w="get")->Hok [.s w,.i c]|name{x y:Str}:Hok [.s "name",.s x,.s y]|use{w x m:Str}{ns:Γ}:(w="make" \/ w="call")->Hok [.s w,.s x,.s m,.t (ns.map .s)]
inductive Wf:Bool->Tr->Prop
 |giv{x:Str}:Wf O (.giv x)|one{h:ώ}{b:Tr}:Hok h->Wf O b->Wf O (.one h b)|cas{x:Str}{a:Tr}:Wf ϊ a->Wf O (.cas x a)|nil:Wf ϊ .nil|arm{m:Str}{ns:Γ}{b r:Tr}:Wf O b->Wf ϊ r->Wf ϊ (.arm m ns b r)
theorem Wf.l1(h:Wf O d):d.l=[d.t]:=by cases h <;> rfl
theorem Wf.bs{a:Tr}(h:Wf ϊ a):∀b∈a.bs,Wf O b:=by
 induction a with
 |arm m ns b r _ g =>
  cases h with
  |arm h1 h2 =>
   intro x hx;obtain e|e:=ot.mp hx
   ·rw[e];exact h1
   exact g h2 x e
 |_=>exact nofun
theorem Wf.kids{d:Tr}(h:Wf O d):∀b∈d.kids,Wf O b:=by
 cases h with
 |giv=>exact nofun|one _ h2=>intro x hx;rw[fy.mp hx];exact h2
 |cas h1=>exact h1.bs
theorem Wf.Ot{a:Tr}(h:Wf ϊ a):a.pre=a.bs.flatMap Tr.pre:=by
 induction a with
 |arm m ns b r _ g=>cases h with|arm h1 h2=>show b.pre++r.pre=_;rw[g h2];rfl
 |nil=>rfl|_=>cases h
theorem Wf.eC(h:Wf O d):d.pre=d::d.kids.flatMap Tr.pre:=by cases h with|giv=>rfl|one _ h2=>show _::_=_::_;rw[show(Tr.one _ _).kids=[_]from U,x2,Sd,u3]|cas h1=>show _::_=_::_;rw[h1.Ot];rfl
theorem Wf.pos(h:Wf O d):0<d.pre.length:=by rw[h.eC];exact Nat.succ_pos _
theorem Hok.im{h:ώ}(x:Hok h):ϔ h=true:=by cases x with|cj _=>rfl|name=>rfl|use _=>show(O&&(O&&(O&&(ϔ _&&O))))=O;rw[ay];rfl
theorem Wf.im{s:Bool}{d:Tr}(h:Wf s d):ϔ d.l=true:=by induction h with|giv=>rfl|one x _ g=>show(ϔ (_++_)&&O)=O;rw[cA,x.im,g];rfl|cas _ g=>show((O&&(O&&(ϔ _&&O)))&&O)=O;rw[g];rfl|nil=>rfl|arm _ _ z q=>show((O&&(ϔ _&&ϔ _))&&ϔ _)=O;rw[ay,z,q];rfl
theorem Wf.imt(h:Wf O d):d.t.im=true:=by have:=h.im;rw[h.l1]at this;exact(ri _ _▸this:_/\_).1
theorem En{xs ys:ώ}(h1:L2.T.dR xs=O)(h2:L2.T.dR ys=O):L2.T.dR (xs++ys)=true:=by induction xs with|nil=>exact h2|cons x r g =>have h1:(x.pln&&L2.T.dR r)=true:=h1;rw[ri]at h1;show(x.pln&&L2.T.dR (r++ys))=O;rw[h1.1,g h1.2];rfl
theorem mx(ws:Γ):L2.T.dR (ws.map ϕ)=true:=by induction ws with|nil=>rfl|cons w r g=>exact g
theorem Hok.pl{h:ώ}(x:Hok h):L2.T.dR h=true:=by cases x with|cj _=>rfl|name=>rfl|use _=>show(O&&(O&&(O&&(L2.T.dR _&&O))))=O;rw[mx];rfl
theorem Wf.pl{s:Bool}{d:Tr}(h:Wf s d):L2.T.dR d.l=true:=by induction h with|giv=>rfl|one x _ g=>show(L2.T.dR (_++_)&&O)=O;rw[En x.pl g];rfl|cas _ g=>show((O&&(O&&(L2.T.dR _&&O)))&&O)=O;rw[g];rfl|nil=>rfl|arm _ _ z q=>show((O&&(L2.T.dR _&&L2.T.dR _))&&L2.T.dR _)=O;rw[mx,z,q];rfl
def Tr.wa:Tr->List Tr->Tr
 |.arm m ns _ r,b::bs=>.arm m ns b (r.wa bs)|d,_=>d
def Tr.wb:Tr->List Tr->Tr
 |.one h _,bs=>.one h (bs.headD .nil)|.cas x a,bs=>.cas x (a.wa bs)|d,_=>d
inductive SA:Tr->Tr->Prop
 |nil:SA .nil .nil|arm{m:Str}{ns:Γ}{b b' r r':Tr}:SA r r'->SA (.arm m ns b r) (.arm m ns b' r')
inductive SH:Tr->Tr->Prop
 |giv{x:Str}:SH (.giv x) (.giv x)|one{h:ώ}{b b':Tr}:SH (.one h b) (.one h b')|cas{x:Str}{a a':Tr}:SA a a'->SH (.cas x a) (.cas x a')
theorem Wf.sa{a:Tr}(h:Wf ϊ a):SA a a:=by
 induction a with
 |arm m ns b r _ g=>cases h with|arm h1 h2=>exact .arm (g h2)
 |nil=>exact .nil|_=>cases h
theorem Wf.sh(h:Wf O d):SH d d:=by cases h with|giv=>exact .giv|one=>exact .one|cas h1=>exact .cas h1.sa
theorem SA.wa{a a':Tr}(h:SA a a'):a.wa a'.bs=a':=by induction h with|nil=>rfl|arm _ g=>show Tr.arm _ _ _ _=_;rw[g]
theorem SA.len{a a':Tr}(h:SA a a'):a.bs.length=a'.bs.length:=by induction h with|nil=>rfl|arm _ g=>show _+1=_+1;rw[g]
theorem SH.wb{c d:Tr}(h:SH c d):c.wb d.kids=d:=by cases h with|giv=>rfl|one=>rfl|cas h1=>exact congrArg (Tr.cas _) h1.wa
theorem SH.len{c d:Tr}(h:SH c d):c.kids.length=d.kids.length:=by cases h with|giv=>rfl|one=>rfl|cas h1=>exact h1.len
theorem sx{a:Tr}(h:Wf ϊ a):∀{bs:List Tr},bs.length=a.bs.length->(∀b∈bs,Wf O b)->SA a (a.wa bs)/\(a.wa bs).bs=bs/\Wf ϊ (a.wa bs):=by
 induction a with
 |arm m ns b r _ K =>
  cases h with
  |arm h1 h2 =>
   intro bs hl hw;cases bs with
   |nil=>cases hl
   |cons y ys =>let(z,q,g):=K h2 (Nat.succ.inj hl) λb P=>hw b (mm _ P);exact(.arm z,congrArg (y :: ·) q,.arm (hw y iY) g)
 |nil =>
  intro bs hl _;cases bs with|nil=>exact(.nil,U,.nil)|cons _ _=>cases hl
 |_=>cases h
theorem NK(h:Wf O d){bs:List Tr}(hl:bs.length=d.kids.length)(hw:∀b∈bs,Wf O b):SH d (d.wb bs)/\(d.wb bs).kids=bs/\Wf O (d.wb bs):=by
 cases h with
 |giv=>cases bs with|nil=>exact(.giv,U,.giv)|cons _ _=>cases hl
 |one h1 _=>cases bs with
  |nil=>cases hl
  |cons b r=>cases r with|nil=>exact(.one,U,.one h1 (hw b iY))|cons _ _=>cases hl
 |cas h1 =>let(z,q,g):=sx h1 hl hw;exact(.cas z,q,.cas g)
inductive F2:List Tr->List Tr->Prop
 |nil:F2 [] []|cons{a b:Tr}{l m:List Tr}:SH a b->F2 l m->F2 (a::l) (b::m)
theorem F2.app{a b c d:List Tr}(h:F2 a b)(h2:F2 c d):F2 (a++c) (b++d):=by induction h with|nil=>exact h2|cons s _ g=>exact .cons s g
theorem F2.refl{a:List Tr}(h:∀x∈a,Wf O x):F2 a a:=by induction a with|nil=>exact .nil|cons x r g=>exact .cons (h x iY).sh (g λy q=>h y (mm _ q))
theorem F2.at{a b:List Tr}(h:F2 a b):∀{i:Nat}{y:Tr},b[i]?=Z y->∃x,a[i]?=Z x/\SH x y:=by
 induction h with
 |nil=>intro i y z;cases z
 |cons s _ g =>
  intro i y z;cases i with
  |zero=>cases z;exact(_,U,s)
  |succ i=>exact g z
theorem F2.len{a b:List Tr}(h:F2 a b):a.length=b.length:=by induction h with|nil=>rfl|cons _ _ g=>exact congrArg (· + 1) g
theorem Wf.ji{s:Bool}(h:Wf s d):∀x∈d.pre,Wf O x:=by
 induction h with
 |giv=>intro x hx;rw[fy.mp hx];exact .giv
 |one h1 h2 g =>
  intro x hx;obtain e|e:=ot.mp hx
  ·rw[e];exact .one h1 h2
  exact g x e
 |cas h1 g =>
  intro x hx;obtain e|e:=ot.mp hx
  ·rw[e];exact .cas h1
  exact g x e
 |nil=>exact nofun|arm _ _ K q =>
  intro x hx;obtain e|e:=rh.mp hx
  ·exact K x e
  exact q x e
def Tr.put:Tr->Nat->Tr->Tr
 |.giv x,n,e=>if n=0 then e else .giv x|.one h b,n,e=>if n=0 then e else .one h (b.put (n-1) e)|.cas x a,n,e=>if n=0 then e else .cas x (a.put (n-1) e)|.nil,_,_=>.nil|.arm m ns b r,n,e=>if n<b.pre.length then .arm m ns (b.put n e) r else .arm m ns b (r.put (n-b.pre.length) e)
structure PC(s:Bool)(d:Tr)(n:Nat)(c e:Tr):Prop where
 wf:Wf s (d.put n e)
 sa:s=ϊ->SA d (d.put n e)
 pr:∃A A' TL,d.pre=A++(c.pre++TL)/\A.length=n/\(d.put n e).pre=A'++(e.pre++TL)/\F2 A A'/\∀x∈TL,Wf O x
theorem eB{s:Bool}(h:Wf s d)(he:Wf O e):∀{n:Nat}{c:Tr},d.pre[n]?=Z c->PC s d n c e:=by
 induction h with
 |@giv x =>
  intro n c g;cases n with
  |zero=>cases g;exact(he,(λz=>nomatch z),[],[],[],U,U,by show e.pre=_;simp,.nil,nofun)
  |succ n=>cases g
 |@one h b h1 h2 Q =>
  intro n c g;cases n with
  |zero=>cases g;exact(he,(λz=>nomatch z),[],[],[],ap,U,by show e.pre=_;simp,.nil,nofun)
  |succ n =>let(w,_,A,A',TL,p1,p2,p3,K,q):=Q (n:=n) g;exact(.one h1 w,(λz=>nomatch z),.one h b::A,.one h (b.put n e)::A',TL,by show _::_=_;rw[p1];rfl,by simp[p2],by show _ ::(b.put n e).pre=_;rw[p3];rfl,.cons .one K,q)
 |@cas x a h1 Q =>
  intro n c g;cases n with
  |zero=>cases g;exact(he,(λz=>nomatch z),[],[],[],ap,U,by show e.pre=_;simp,.nil,nofun)
  |succ n =>let(w,sa,A,A',TL,p1,p2,p3,K,q):=Q (n:=n) g;exact(.cas w,(λz=>nomatch z),.cas x a::A,.cas x (a.put n e)::A',TL,by show _::_=_;rw[p1];rfl,by simp[p2],by show _ ::(a.put n e).pre=_;rw[p3];rfl,.cons (.cas (sa U)) K,q)
 |nil=>intro n c g;cases g
 |@arm m ns b r h1 h2 i1 V =>
  intro n c g;by_cases hn:n<b.pre.length
  ·rw[show(Tr.arm m ns b r).pre=b.pre++r.pre from U,A0 hn]at g;let(w,_,A,A',TL,p1,p2,p3,K,q):=i1 g;have P:(Tr.arm m ns b r).put n e=.arm m ns (b.put n e) r:=if_pos hn;refine(by rw[P];exact .arm w h2,λ_=>by rw[P];exact .arm h2.sa,A,A',TL++r.pre,by show b.pre++r.pre=_;rw[p1];simp,p2,by rw[P];show(b.put n e).pre++r.pre=_;rw[p3];simp,K,λx hx=>?_);obtain z|z:=rh.mp hx
   ·exact q x z
   exact h2.ji x z
  rw[show(Tr.arm m ns b r).pre=b.pre++r.pre from U,CC bd]at g;let(w,sa,A,A',TL,p1,p2,p3,K,q):=V g;have P:(Tr.arm m ns b r).put n e=.arm m ns b (r.put (n-b.pre.length) e):=if_neg hn;exact(by rw[P];exact .arm h1 w,λ_=>by rw[P];exact .arm (sa U),b.pre++A,b.pre++A',TL,by show b.pre++r.pre=_;rw[p1];simp,by rw[mS,p2];omega,by rw[P];show b.pre++(r.put _ e).pre=_;rw[p3];simp,(F2.refl h1.ji).app K,q)
inductive HB(ks:ϑ)(hs:List Hd):ώ->Sc->Sc->Prop
 |cj{w:Str}{c:Int}:(w="pay" \/ w="get")->0<=c->HB ks hs [.s w,.i c] [] []|name{x y k:Str}:HB ks hs [.s "name",.s x,.s y] [(y,k)] [(x,k)]|make{x:Str}{m:Mk1}{kd:Kd}{ns:Γ}:kd∈ks->m∈kd.2->ns.length=m.2.length->HB ks hs [.s "make",.s x,.s m.1,.t (ns.map .s)] (ns.zip m.2) [(x,kd.1)]|call{x:Str}{h:Hd}{ns:Γ}:h∈hs->ns.length=(h.2.1.map (·.2)).length->HB ks hs [.s "call",.s x,.s h.1,.t (ns.map .s)] (ns.zip (h.2.1.map (·.2))) [(x,h.2.2)]
inductive SB(ks:ϑ)(hs:List Hd)(r:Str):Sc->Option (List Mk1)->Tr->Prop
 |giv{sc:Sc}{x:Str}:(x,r)∈sc->SB ks hs r sc Y (.giv x)|one{sc us bs:Sc}{h:ώ}{b:Tr}:HB ks hs h us bs->(∀p∈us,p∈sc)->(∀p∈bs,p.1 ∉ sc.map (·.1))->SB ks hs r (sc++bs) Y b->SB ks hs r sc Y (.one h b)|cas{sc:Sc}{x:Str}{kd:Kd}{a:Tr}:(x,kd.1)∈sc->kd∈ks->SB ks hs r sc (Z kd.2) a->SB ks hs r sc Y (.cas x a)|nil{sc:Sc}:SB ks hs r sc (Z []) .nil|arm{sc:Sc}{m:Mk1}{ms:List Mk1}{ns:Γ}{b a:Tr}:ns.length=m.2.length->(sc.map (·.1)++ns).Nodup->SB ks hs r (sc++ns.zip m.2) Y b->SB ks hs r sc (Z ms) a->SB ks hs r sc (Z (m::ms)) (.arm m.1 ns b a)
section
variable{ks:ϑ}{hs:List Hd}{r:Str}
theorem HB.ok{h:ώ}{bs:Sc}(x:HB ks hs h us bs):Hok h:=by cases x with|cj hw _=>exact .cj hw|name=>exact .name|make _ _ _=>exact .use (.inl U)|call _ _=>exact .use (.inr U)
theorem SB.wf(h:SB ks hs r sc o d):Wf o.isNone d:=by induction h with|giv _=>exact .giv|one h1 _ _ _ g=>exact .one h1.ok g|cas _ _ _ g=>exact .cas g|nil=>exact .nil|arm _ _ _ _ z q=>exact .arm z q
theorem vZ{sc:Sc}:∀(arms:List Arm)(ms:List Mk1),arms.map (·.1)=ms.map (·.1)->(∀(i:Nat)(a:Arm)(m:Mk1),arms[i]?=Z a->ms[i]?=Z m->(a.2.1.length=m.2.length/\(sc.map (·.1)++a.2.1).Nodup)/\∃d,SB ks hs r (sc++a.2.1.zip m.2) Y d/\d.l=[a.2.2.1]/\d.pre.length<=a.2.2.2) ->
  ∃A,SB ks hs r sc (Z ms) A/\A.l=arms.map tA/\A.pre.length <=(arms.map (·.2.2.2)).sum
 |[],[],_,_=>(.nil,.nil,U,oQ _)|[],_::_,h,_=>by cases h
 |_::_,[],h,_=>by cases h
 |a::as,m::ms,h,g=>by
  let((V,Q),d,P,K,q5):=g 0 a m U U;let(A,z,q,r3):=vZ as ms (List.cons.inj h).2 λi a' m' h1 h2=>g (i+1) a' m' h1 h2;have e1:m.1=a.1:=(List.cons.inj h).1.symm;refine(.arm m.1 a.2.1 d A,.arm V Q P z,?_,?_)
  ·show ϗ (.s m.1 :: .t (a.2.1.map .s)::d.l)::A.l=_;rw[K,q,e1];rfl
  rw[E3,RS];show(d.pre++A.pre).length<=_;rw[mS];omega
theorem Snd.tr{b:L2.T}(h:Snd ks hs r n sc b):∃d,SB ks hs r sc Y d/\d.l=[b]/\d.pre.length<=n:=by
 have go:∀{n:Nat}{sc us bs:Sc}{h:ώ}{b:L2.T},HB ks hs h us bs->(∀p∈us,p∈sc)->(∀p∈bs,p.1 ∉ sc.map (·.1))->(∃d,SB ks hs r (sc++bs) Y d/\d.l=[b]/\d.pre.length<=n)->∃d,SB ks hs r sc Y d/\d.l=[.t (h++[b])]/\d.pre.length<=n+1:=by rintro n sc us bs h b hb h1 h2 ⟨d,Q,P,V⟩;exact(.one h d,.one hb h1 h2 Q,by show [ϗ (h++d.l)]=_;rw[P],Nat.succ_le_succ V)
 induction h with|give hx=>exact(_,.giv hx,U,oQ _)|cj hw hc _ g=>exact go (.cj hw hc) nofun nofun (by rw[u3];exact g)|name hy hx _ g=>exact go .name (λp hp=>by rw[fy.mp hp];exact hy) (λp hp=>by rw[fy.mp hp];exact hx) g|make q hm K hx _ g=>exact go (.make q hm K.1) K.2 (λp hp=>by rw[fy.mp hp];exact hx) g|call hh K hx _ g=>exact go (.call hh K.1) K.2 (λp hp=>by rw[fy.mp hp];exact hx) g|@case sc x kd arms hx q hnm h1 h2 g =>let(A,Q,P,V):=vZ arms kd.2 hnm λi a m ha hm=>(h1 i a m ha hm,g i a m ha hm);exact(.cas x A,.cas hx q Q,by show [ϗ [_,_,.t A.l]]=_;rw[P],by show A.pre.length+1<=_;omega)
theorem SB.snd(h:SB ks hs r sc o d):match o with
  |none=>∃b,d.l=[b]/\Snd ks hs r d.pre.length sc b|some ms=>∃arms:List Arm,d.l=arms.map tA/\arms.map (·.1)=ms.map (·.1)/\(arms.map (·.2.2.2)).sum=d.pre.length /\
   ∀(i:Nat)(a:Arm)(m:Mk1),arms[i]?=Z a->ms[i]?=Z m->(a.2.1.length=m.2.length/\(sc.map (·.1)++a.2.1).Nodup)/\Snd ks hs r a.2.2.2 (sc++a.2.1.zip m.2) a.2.2.1:=by
 induction h with
 |giv hx=>exact(_,U,.give hx)|@one sc us bs h b hb h1 h2 _ g =>
  let(t,e,g):=g;refine(.t (h++[t]),by show [ϗ (h++b.l)]=_;rw[e],?_);show Snd ks hs r (b.pre.length+1) sc _;cases hb with|cj hw hc=>rw[u3]at g;exact .cj hw hc g|name=>exact .name (h1 _ iY) (h2 _ iY) g|make q hm hl=>exact .make q hm (hl,h1) (h2 _ iY) g|call hh hl=>exact .call hh (hl,h1) (h2 _ iY) g
 |@cas sc x kd a hx q _ g =>let(arms,Q,P,K,z):=g;refine(_,U,?_);rw[Q,show(Tr.cas x a).pre.length=1+(arms.map (·.2.2.2)).sum by rw[K];show a.pre.length+1=_;omega];exact .case arms hx q P (λi a m h1 h2=>(z i a m h1 h2).1) λi a m h1 h2=>(z i a m h1 h2).2|nil=>exact([],U,U,U,λi a m h=>by simp at h)|@arm sc m ms ns b a hl hn _ _ i1 V =>
  let(t,e,s):=i1;let(arms,Q,P,K,z):=V;refine((m.1,ns,t,b.pre.length)::arms,?_,by show m.1::_=_;rw[P];rfl,?_,λi a' m' h1 h2=>?_)
  ·show ϗ (.s m.1 :: .t (ns.map .s)::b.l)::a.l=_;rw[e,Q];rfl
  ·rw[E3,RS,K];exact mS.symm
  cases i with
  |zero=>cases h1;cases h2;exact((hl,hn),s)
  |succ i=>exact z i a' m' h1 h2
theorem SB.perm(h:SB ks hs r sc o d):∀{sc':Sc},sc.Perm sc'->SB ks hs r sc' o d:=by induction h with|giv hx=>exact λp=>.giv (p.mem_iff.mp hx)|one V h1 h2 _ g=>exact λp=>.one V (λq hq=>p.mem_iff.mp (h1 q hq)) (λq hq z=>h2 q hq ((p.map (·.1)).mem_iff.mpr z)) (g (p.append_right _))|cas hx K _ g=>exact λp=>.cas (p.mem_iff.mp hx) K (g p)|nil=>exact λ_=>.nil|arm hl hn _ _ Q P=>exact λp=>.arm hl (((p.map (·.1)).append_right _).nodup_iff.mp hn) (Q (p.append_right _)) (P p)
theorem SB.put{sc:Sc}{o:Option (List Mk1)}{d:Tr}(h:SB ks hs r sc o d){c e:Tr}(he:∀{sc:Sc},SB ks hs r sc Y c->SB ks hs r sc Y e):∀{n:Nat},d.pre[n]?=Z c->SB ks hs r sc o (d.put n e):=by
 induction h with
 |giv hx =>
  intro n g;cases n with
  |zero=>cases g;exact he (.giv hx)
  |succ n=>cases g
 |one P h1 h2 h3 K =>
  intro n g;cases n with
  |zero=>cases g;exact he (.one P h1 h2 h3)
  |succ n=>exact .one P h1 h2 (K (n:=n) g)
 |cas hx q h3 K =>
  intro n g;cases n with
  |zero=>cases g;exact he (.cas hx q h3)
  |succ n=>exact .cas hx q (K (n:=n) g)
 |nil=>intro n g;cases g
 |@arm sc m ms ns b a hl hn h1 h2 V Q =>
  intro n g;show SB ks hs r sc _ (if n<b.pre.length then _ else _);by_cases z:n<b.pre.length
  ·rw[show(Tr.arm m.1 ns b a).pre=b.pre++a.pre from U,A0 z]at g;rw[if_pos z];exact .arm hl hn (V g) h2
  rw[show(Tr.arm m.1 ns b a).pre=b.pre++a.pre from U,CC bd]at g;rw[if_neg z];exact .arm hl hn h1 (Q g)
end
def txt:L2.T->Str
 |.s x=>x|_=>""
def nO:ώ->Option Str
 |[.s w,.s x,.s _]=>if w="name" then Z x else Y|[.s w,.s x,.s _,.t _]=>if w="make" then Z x else Y|_=>Y
def hnm:ώ->Γ
 |[.s _,.s _,.s y]=>[y]|[.s _,.s _,.s _,.t ns]=>ns.map txt|_=>[]
def Tr.nms:Tr->Γ
 |.giv x=>[x]|.cas x _=>[x]|.one h _=>hnm h|_=>[]
def mvB(h:ώ)(b:Tr):Option Tr:=match nO h with|none=>Y|some x=>match b with|.giv _=>Y|_=>if x∈b.nms then Y else Z (b.wb (b.kids.map (.one h)))
def mv:Tr->Option Tr
 |.one h b=>mvB h b|_=>Y
theorem sA(ns:Γ):(ns.map ϕ).map txt=ns:=by rw[Gk];exact Tj ns
section
variable{ks:ϑ}{hs:List Hd}{r:Str}
theorem HB.nm{h:ώ}{bs:Sc}(x:HB ks hs h us bs):hnm h=us.map (·.1):=by cases x with|cj _ _=>rfl|name=>rfl|make _ _ hl=>show(SO txt _)=_;rw[sA,gq hl]|call _ hl=>show(SO txt _)=_;rw[sA,gq hl]
theorem HB.lt{h:ώ}{bs:Sc}(g:HB ks hs h us bs)(e:nO h=Z x):∃k,bs=[(x,k)]:=by
 cases g with
 |cj _ _=>cases e
 |name=>cases e;exact(_,U)
 |make _ _ _=>cases e;exact(_,U)
 |call _ _=>cases e
theorem qf{h:ώ}(x:mvB h b=Z e):∃y,nO h=Z y/\(∀z,b ≠ .giv z)/\y ∉ b.nms/\e=b.wb (b.kids.map (.one h)):=by
 unfold mvB at x;cases q:nO h with
 |none=>rw[q]at x;cases x
 |some y =>
  rw[q]at x;cases b with
  |giv z=>cases x
  |_ =>
   refine(y,U,nofun,?_);have x:(if y∈_ then Y else Z _)=Z e:=x;split at x
   ·cases x
   rename_i g;cases x;exact(g,U)
theorem M3{bs:Sc}{k:Str}(hx:x ∉ sc.map (·.1))(hn:((sc++[Prod.mk x k]).map (·.1)++ns).Nodup):(sc.map (·.1)++ns).Nodup/\x ∉ sc.map (·.1)++ns:=by rw[pq,wh]at hn;have p:(sc.map (·.1)++([Prod.mk x k].map (·.1)++ns)).Perm (x ::(sc.map (·.1)++ns)):=List.perm_middle;have:=p.nodup_iff.mp hn;rw[yd]at this;exact(this.2,this.1)
theorem wN(sc a b:Sc):(sc++a++b).Perm (sc++b++a):=by rw[wh,wh];exact List.Perm.append_left sc SX
theorem SB.under{sc us:Sc}{x k:Str}{h:ώ}(g:HB ks hs h us [(x,k)])(z:∀p∈us,p∈sc)(hx:x ∉ sc.map (·.1)):∀{a:Tr}{ms:List Mk1},SB ks hs r (sc++[Prod.mk x k]) (Z ms) a->SB ks hs r sc (Z ms) (a.wa (a.bs.map (.one h)))
 |.nil,ms,q=>by cases q;exact .nil
 |.arm m ns b a,ms,q=>by
  cases q with|arm hl hn h1 h2 =>let(n1,n2):=M3 (bs:=[]) hx hn;refine .arm hl n1 (.one g (λp hp=>vr _ (z p hp)) (λp hp=>?_) (h1.perm (wN _ _ _))) (SB.under g z hx h2);rw[fy.mp hp,pq,gq hl];exact n2
 |.giv _,_,q=>nomatch q
 |.one _ _,_,q=>nomatch q
 |.cas _ _,_,q=>nomatch q
theorem SB.mv{sc:Sc}{c e:Tr}(h:SB ks hs r sc Y c)(x:K55.mv c=Z e):SB ks hs r sc Y e:=by
 cases h with
 |giv _=>cases x
 |cas _ _ _=>cases x
 |@one _ us bs h b V hu hx h3 =>
  let(y,e1,e2,e3,U):=qf x;let(k,U):=V.lt e1;have hy:y ∉ sc.map (·.1):=hx _ iY;have out:∀{p:Str×Str},p.1≠y->p∈sc++[(y,k)]->p∈sc:=λ{p} hn hp=>by
   obtain z|z:=rh.mp hp
   ·exact z
   rw[fy.mp z]at hn;exact absurd U hn
  cases h3 with
  |giv _=>exact absurd U (e2 _)|@cas _ z kd a hz Q h4 =>refine .cas (out (λq=>e3 ?_) hz) Q (SB.under V hu hy h4);rw[<- q];exact fy.mpr U|@one _ aN aP h1 b1 K P g h4 =>
   refine .one K (λp hp=>out (λq=>e3 ?_) (P p hp)) (λp hp z=>g p hp ?_) (.one V (λp hp=>vr _ (hu p hp)) (λp hp=>?_) (h4.perm (wN _ _ _)))
   ·show y∈hnm h1;rw[K.nm,<- q];exact sd.mpr (p,hp,U)
   ·rw[pq];exact vr _ z
   rw[fy.mp hp,pq];intro z;obtain z|z:=rh.mp z
   ·exact hy z
   let(q,hq,eq):=sd.mp z;exact g q hq (by rw[eq,pq];exact rz _ (fy.mpr U))
end
theorem oP{M:Nat}{ts:ώ}(h:Dep M (.t ts)):∃g,M=g+1/\∀x∈ts,Dep g x:=by
 cases M with
 |zero=>obtain⟨x,e⟩|⟨x,e⟩:=h <;> cases e
 |succ M =>
  obtain⟨x,e⟩|⟨x,e⟩|⟨us,e,h⟩:=h
  ·cases e
  ·cases e
  cases e;exact(M,U,h)
def cp(N:Nat)(d:Tr):Prop:=∀x∈d.l,Dep N x
theorem cp.mono{M:Nat}(h:cp N d)(g:N<=M):cp M d:=λx hx=>(h x hx).mono g
theorem Wf.QK(w:Wf O d)(h:Dep N d.t):cp N d:=λx hx=>by
 rw[w.l1]at hx;rw[fy.mp hx];exact h
theorem Wf.dep(w:Wf O d)(h:cp N d):Dep N d.t:=h _ (by rw[w.l1];exact fy.mpr U)
theorem oO{h:ώ}(g:cp N (.one h b)):∃M,N=M+1/\(∀x∈h,Dep M x)/\cp M b:=by let(M,e,q):=oP (g _ (fy.mpr U));exact(M,e,λx hx=>q x (vr _ hx),λx hx=>q x (rz _ hx))
theorem oE{h:ώ}(h1:∀x∈h,Dep N x)(h2:cp N b):cp (N+1) (.one h b):=λx hx=>by
 rw[fy.mp hx];exact Dep.t λy g=>(rh.mp g).elim (h1 y) (h2 y)
theorem vz{a:Tr}(g:cp N (.cas x a)):∃M,N=M+2/\cp M a:=by let(M,e,q):=oP (g _ (fy.mpr U));let(z,K,q'):=oP (q (.t a.l) ap);exact(z,bd,q')
theorem AX{a:Tr}(g:cp N a):cp (N+2) (.cas x a):=λy q=>by
 rw[fy.mp q];exact Dep.t (bf Dep.s (bf Dep.s (bf (Dep.t g) cP)))
theorem vA{m:Str}{r:Tr}(g:cp N (.arm m ns b r)):∃M,N=M+1/\Dep M (.t (ns.map .s))/\cp M b/\cp N r:=by let(M,e,q):=oP (g _ iY);exact(M,e,q _ ap,λx hx=>q x (mm _ (mm _ hx)),λx hx=>g x (mm _ hx))
theorem vH{m:Str}{r:Tr}(h1:Dep N (.t (ns.map .s)))(h2:cp N b)(h3:cp (N+1) r):cp (N+1) (.arm m ns b r):=λx hx=>by
 obtain e|e:=ot.mp hx
 ·rw[e];exact Dep.t (bf Dep.s (bf h1 h2))
 exact h3 x e
theorem Wf.Pg(w:Wf O d)(h:cp (N+1) d):∀k∈d.kids,cp N k:=by
 have go:∀{M:Nat}{a:Tr},Wf ϊ a->cp M a->∀k∈a.bs,cp M k:=by
  intro M a;induction a with
  |arm m ns b r _ V =>
   intro w g;cases w with
   |arm w1 w2 =>
    let(M',e,_,Q,P):=vA g;intro k K;obtain z|z:=ot.mp K
    ·rw[z];exact Q.mono bd
    exact V w2 P k z
  |nil=>intro _ _ k K;cases K
  |_=>intro w;cases w
 cases w with
 |giv=>exact nofun|one _ _ =>
  let(M,e,_,q):=oO h;intro k K;rw[fy.mp K];exact q.mono bd
 |cas w =>let(M,e,q):=vz h;exact go w (q.mono bd)
theorem JB{s:Bool}(w:Wf s d){c:Tr}(he:∀M,cp M c->cp (M+3) e):∀{N n:Nat},d.pre[n]?=Z c->cp N d->cp (N+3) (d.put n e):=by
 induction w with
 |giv =>
  intro N n K g;cases n with
  |zero=>cases K;exact he _ g
  |succ n=>cases K
 |one _ _ V =>
  intro N n K g;cases n with
  |zero=>cases K;exact he _ g
  |succ n =>let(M,U,Q,P):=oO g;exact oE (λx hx=>(Q x hx).mono bd) (V (n:=n) K P)
 |cas _ V =>
  intro N n K g;cases n with
  |zero=>cases K;exact he _ g
  |succ n =>let(M,U,q):=vz g;exact AX (V (n:=n) K q)
 |nil=>intro N n K;cases K
 |@arm m ns b r _ _ i1 i2 =>
  intro N n K g;let(M,U,Q,P,q3):=vA g;show cp _ (if n<b.pre.length then _ else _);by_cases z:n<b.pre.length
  ·rw[show(Tr.arm m ns b r).pre=b.pre++r.pre from U,A0 z]at K;rw[if_pos z];exact vH (Q.mono bd) (i1 K P) (q3.mono bd)
  rw[show(Tr.arm m ns b r).pre=b.pre++r.pre from U,CC bd]at K;rw[if_neg z];exact vH (Q.mono bd) (P.mono bd) (i2 K q3)
theorem Mp{c:Tr}(w:Wf O c)(x:mv c=Z e):∀M,cp M c->cp (M+3) e:=by
 intro M g;cases w with
 |giv=>cases x
 |cas _=>cases x
 |@one h b h1 w =>
  let(y,_,e2,_,U):=qf x;let(M,U,K,z):=oO g;cases w with
  |giv=>exact absurd U (e2 _)|one _ w =>let(M,U,q,q4):=oO z;exact oE (λx hx=>(q x hx).mono bd) (oE (N:=M+3) (λx hx=>(K x hx).mono bd) (q4.mono bd))|@cas y a w =>
   let(M,U,q):=vz z;have go:∀{a:Tr},Wf ϊ a->cp M a->cp (M+4) (a.wa (a.bs.map (.one h))):=by
    intro a;induction a with
    |arm m ns b r _ ih =>
     intro w g;cases w with|arm w1 w2 =>let(M',U,V,Q,P):=vA g;exact vH (V.mono bd) (oE (N:=M'+3) (λx hx=>(K x hx).mono bd) (Q.mono bd)) (ih w2 P)
    |nil=>intro _ _ k hk;cases hk
    |_=>intro w;cases w
   exact AX (go w q)
structure Nw(c e:Tr)(h:ώ)(b:Tr):Prop where
 ec:c=.one h b
 w:Wf O b
 o:Hok h
 ee:e=b.wb (b.kids.map (.one h))
 sh:SH b e
 kd:e.kids=b.kids.map (.one h)
 we:Wf O e
theorem p9{c:Tr}(w:Wf O c)(x:mv c=Z e):∃h b,Nw c e h b:=by
 cases w with
 |giv=>cases x
 |cas _=>cases x
 |@one h b h1 w =>
  let(y,_,V,_,U):=qf x;let(K,q,g):=NK (bs:=b.kids.map (.one h)) w (by rw[e7]) λk Q=>by
   let(z,P,U):=sd.mp Q;exact .one h1 (w.kids z P)
  exact(h,b,U,w,h1,U,K,q,g)
theorem xC(h:ώ)(ks:List Tr):(ks.map (.one h)).flatMap Tr.pre=ks.flatMap λk=>.one h k::k.pre:=by rw[List.flatMap_map];rfl
theorem len_one(h:ώ):∀ks:List Tr,(∀k∈ks,Wf O k)->(ks.flatMap λk=>Tr.one h k::k.pre).length<=2*(ks.flatMap Tr.pre).length
 |[],_=>oQ _|k::r,w=>by
  have:=len_one h r λx hx=>w x (mm _ hx);have p:=(w k iY).pos;simp only[x2,mS,p7];omega
theorem Nw.len{c:Tr}{h:ώ}(m:Nw c e h b):e.pre.length<=2*c.pre.length:=by have l1:=len_one h b.kids m.w.kids;rw[m.we.eC,m.kd,xC,p7,m.ec,show(Tr.one h b).pre=.one h b::b.pre from U,p7,m.w.eC,p7];omega
def jj:Nat->List Tr->List Nat
 |_,[]=>[]|p,b::r=>p::jj (p+b.pre.length) r
theorem uJ:∀{p:Nat}{ks:List Tr},∀j∈jj p ks,p<=j
 |p,[],j,h=>nomatch h
 |p,b::r,j,h=>by
  obtain e|e:=ot.mp h
  ·omega
  have:=uJ j e;omega
theorem wL:∀{p:Nat}{xs ys:List Tr},jj p (xs++ys)=jj p xs++jj (p+(xs.flatMap Tr.pre).length) ys
 |p,[],ys=>rfl|p,x::r,ys=>by
  show p::jj _ (r++ys)=p ::(jj _ r++_);rw[wL,x2,mS,S6]
def ins{α:Type}(x:α)(bg:List Nat):Nat->List α->List α
 |_,[]=>[]|p,y::r=>(if p∈bg then [x,y]else [y])++ins x bg (p+1) r
theorem xt{α β:Type}(f:α->β)(x:α)(bg:List Nat):∀(p:Nat)(l:List α),(ins x bg p l).map f=ins (f x) bg p (l.map f)
 |_,[]=>rfl|p,y::r=>by
  show(_++ins x bg (p+1) r).map f=_++ins (f x) bg (p+1) (r.map f);rw[pq,xt f];split <;> rfl
theorem kL{α:Type}{x:α}{bg:List Nat}:∀{p:Nat}{l R:List α},(∀j∈bg,¬(p<=j/\j<p+l.length))->ins x bg p (l++R)=l++ins x bg (p+l.length) R
 |p,[],R,_=>rfl|p,y::r,R,h=>by
  show(if p∈bg then _ else _)++ins x bg (p+1) (r++R)=_;rw[if_neg (λz=>h p z (oQ _,ap)),kL (p:=p+1) λj g z=>h j g (bd,by simp;omega)];show y ::(r++_)=y ::(r++_);rw[show p+1+r.length=p+(y::r).length by simp;omega]
theorem xq{α:Type}{x:α}{bg bg':List Nat}:∀{p:Nat}{l:List α},(∀j,p<=j->(j∈bg ↔ j∈bg'))->ins x bg p l=ins x bg' p l
 |p,[],_=>rfl|p,y::r,h=>by
  show(if p∈bg then _ else _)++_=(if p∈bg' then _ else _)++_;rw[xq (p:=p+1) λj g=>h j bd];simp only[h p (oQ _)]
theorem xr(c:Tr):∀{ks:List Tr}{p:Nat}{TL:List Tr},(∀k∈ks,Wf O k)->ins c (jj p ks) p (ks.flatMap Tr.pre++TL)=(ks.flatMap λk=>c::k.pre)++TL
 |[],p,TL,_=>by
  have:=kL (x:=c) (bg:=[]) (p:=p) (l:=TL) (R:=[]) nofun;rw[u3]at this;show ins c [] p TL=TL;rw[this];exact u3 TL
 |k::r,p,TL,w=>by
  have g:=w k iY;have P:=g.pos;rw[x2,x2,wh];rw[g.eC]at P ⊢;show(if p∈p::jj _ r then [c,k]else [k])++ins c _ (p+1) (k.kids.flatMap Tr.pre++_)=_;rw[if_pos iY,kL λj K z=>?_,xq (bg':=jj (p+k.pre.length) r) λj K=>?_]
  ·have e:p+1+(k.kids.flatMap Tr.pre).length=p+k.pre.length:=by rw[g.eC,p7];omega
   rw[e,xr c λx hx=>w x (mm _ hx)];simp
  ·show j∈p::_ ↔ _;rw[ot];exact(λq=>q.elim (λe=>bd) id,.inr)
  obtain e|e:=ot.mp K
  ·omega
  have:=uJ j e;rw[g.eC,p7]at this;omega
def qJ:Nat->List Tr->List Tr
 | 0,fo=>fo|_+1,[]=>[]|k+1,p::ps=>qJ k (p.kids++ps)
theorem oF:∀{k:Nat}{fo:List Tr},(∀x∈fo,Wf O x)->∀x∈qJ k fo,Wf O x
 | 0,_,h=>h|_+1,[],h=>h|k+1,p::ps,h=>oF (k:=k) λx hx=>(rh.mp hx).elim ((h p iY).kids x) λq=>h x (mm _ q)
theorem sT:∀{k:Nat}{fo:List Tr},(∀x∈fo,Wf O x)->(qJ k fo).flatMap Tr.pre=(fo.flatMap Tr.pre).drop k
 | 0,_,_=>rfl|k+1,[],_=>by show []=TB (k+1) [];rw[List.drop_nil]|k+1,p::ps,h=>by
  have w:=h p iY;show(qJ k (p.kids++ps)).flatMap Tr.pre=_;rw[sT λx hx=>(rh.mp hx).elim (w.kids x) λq=>h x (mm _ q),yc,x2,w.eC];rfl
theorem sS:∀{k:Nat}{fo:List Tr}{p:Tr}{ps:List Tr},qJ k fo=p::ps->qJ (k+1) fo=p.kids++ps
 | 0,fo,p,ps,h=>by subst h;rfl|k+1,[],p,ps,h=>by cases h
 |k+1,x::xs,p,ps,h=>sS (k:=k) (fo:=x.kids++xs) h
theorem iV{ts:ώ}{b:L2.T}:atI (ts++[b]) (-1)=Z b:=by
 unfold atI ixN;rw[if_neg am,if_pos (by rw[mS];simp;omega),Option.bind_some];have:(-1+((ts++[b]).length:Int)).toNat=ts.length:=by rw[mS];simp;omega
 rw[this];simp
theorem bY{x:L2.T}{l:ώ}:atI (x::l) 0=Z x:=by unfold atI ixN;rw[if_pos (NC _),if_pos (by rw[p7];omega)];rfl
inductive Vw:Tr->Prop
 |giv(x:Str):Vw (.giv x)|one(w:Str)(r:ώ)(b:Tr)(wb:Wf O b)(ho:Hok (.s w::r))(et:(Tr.one (.s w::r) b).t=.t (.s w ::(r++[b.t])))(n1:¬ decide ((ϕ w).v=(ϕ "give").v)=O)(n2:¬ decide ((ϕ w).v=(ϕ "case").v)=O):Vw (.one (.s w::r) b)|cas(x:Str)(a:Tr)(wa:Wf ϊ a):Vw (.cas x a)
theorem Wf.vw(w:Wf O d):Vw d:=by
 cases w with
 |giv=>exact .giv _|cas w=>exact .cas _ _ w|@one h b ho wb =>
  have et:∀{w:Str}{r:ώ},(Tr.one (.s w::r) b).t=.t (.s w ::(r++[b.t])):=λ{w r}=>by
   show ϗ ((.s w::r)++b.l)=_;rw[wb.l1];rfl
  cases ho with|cj hw=>exact .one _ _ _ wb (.cj hw) et (by obtain rfl|rfl:=hw <;> decide +kernel) (by obtain rfl|rfl:=hw <;> decide +kernel)|name=>exact .one _ _ _ wb .name et bn bn|use hw=>exact .one _ _ _ wb (.use hw) et (by obtain rfl|rfl:=hw <;> decide +kernel) (by obtain rfl|rfl:=hw <;> decide +kernel)
theorem qV{a:Tr}(w:Wf ϊ a):∀{i:Nat}{y:L2.T},a.l[i]?=Z y->∃(m:Str)(ns:Γ)(b:Tr),y=.t [.s m,.t (ns.map .s),b.t]/\a.bs[i]?=Z b/\Wf O b:=by
 induction a with
 |arm m ns b r _ g =>
  cases w with
  |arm w1 w2 =>
   intro i y h;cases i with
   |zero =>
    cases h;exact(m,ns,b,by rw[w1.l1],U,w1)
   |succ i=>exact g w2 h
 |nil=>intro i y h;cases h
 |_=>cases w
theorem d7{a:Tr}(w:Wf ϊ a):a.l.length=a.bs.length:=by
 induction a with
 |arm m ns b r _ g =>
  cases w with|arm w1 w2=>exact congrArg (· + 1) (g w2)
 |nil=>rfl|_=>cases w
theorem jS:∀{L:List Tr},(∀p∈L,Wf O p)->L.length <=(L.flatMap Tr.pre).length
 |[],_=>oQ _|p::r,h=>by
  have h1:=(h p iY).pos;have h2:=jS λq hq=>h q (mm _ hq);rw[x2,mS,p7];omega
def spO(C:J)(p:Tr×L2.T×L2.T):L2.T:=.ob C [Zd,"above","arm"] [p.1.t,p.2.1,p.2.2]
inductive BG(C:J)(ts:ώ)(Q:ϐ):Prop
 |mk(d:Tr)(n:L2.T)(h1:ts=[d.t,n])(h2:Wf O d)(h3:n.im=O)(h4:d.kids.length<=50000)(h5:∀L:List (Tr×L2.T×L2.T),L.map (·.1)=d.kids->Q (.l (L.map (spO C))))
theorem mB(T:Txt K mg a):aS P w K mg base CX0 3 a.cN a.g8 [Zd,"number"] (spQ K (BG a.aY)):=by
 refine T.hV.F.okQ l5 (λ_ _ _ _ _ _ hr=>?_);have hu:=a7 hr;refine(_,_,((ag (aM (bx hu (ao (qv 0) ah) (Za aF))
(ai (aD (aL aj)))
aA)
(ag (aM (bx hu (ao (qv 0) ah) (Za aF))
(ai (aD (b6 U (iH (ao (qv 0) ah)) (N':=["arm","number"]) (.own U (.got (i:=1) U U (.inl U) .nil)) (bX (g:=(Tg.nm 0)) (λ_ _ _ _ _=>((cz 0),(ko U T.u7 (Ap T) (hr.mono bd) U T.uZ T.iU (ae (ao (qv 0) ah) (ae (qv 1) (ae (qv 0) av))))))))))
aA)
(ai (aD (aL (af (ko U T.u7 (Ap T) (hr.mono bd) U T.uZ T.iU (ae (ao (qv 0) (Za (fM ah))) (ae (qv 1) (ae (Za c7) av)))) aj))))))),λts Q h=>?_)
 let(d,n,U,w,hn,hk,hq):=h;cases w.vw with
 |giv x=>exact(_,U,U,aC (λ_=>hq [] U) (λz=>absurd bn z))|one wd r b wb ho et n1 n2 =>rw[et];refine(_,bY,U,aC (λz=>absurd z n1) λ_=>(_,bY,U,aC (λz=>absurd z n2) λ_=>(_,iV (ts:=.s wd::r),?_)));exact((by show(b.t.im&&(n.im&&(O&&O)))=O;rw[wb.imt,hn];rfl),U,hq [(b,n,.n)] U)|cas x A wa =>
  refine(_,U,U,aa ((_,U,U,aC (λ_=>?_) λz=>absurd bn z)));have V:A.l.length=A.bs.length:=d7 wa;have hk:A.bs.length<=50000:=hk;refine(_,U,aH (by rw[V];omega),λi ys=>∃L:List (Tr×L2.T×L2.T),ys=L.map (spO a.aY)/\L.map (·.1)=A.bs.take i,([],U,U),?_,?_)
  ·rintro i y ys hy ⟨L,rfl,q⟩;let(m,ns,b,U,hb,wb):=qV wa hy;refine(_,U,_,U,(by show(b.t.im&&(n.im&&((O&&(ϔ (ns.map .s)&&(b.t.im&&O)))&&O)))=O;rw[wb.imt,hn,ay];rfl),U,L++[(b,n,.t [.s m,.t (ns.map .s),b.t])],by rw[pq];rfl,?_);rw[pq,q,ui,hb];rfl
  rintro ys ⟨L,rfl,q⟩;rw[V,uj]at q;exact hq L q
inductive Ic(C:J)(ts:ώ)(Q:ϐ):Prop
 |mk(d:Tr)(h1:ts=[d.t])(h2:Wf O d)(h3:d.pre.length<=50000)(h4:∀L:List (Tr×L2.T×L2.T),L.map (·.1)=d.pre->Q (.l (L.map (spO C))))
def flP(L:List (Tr×L2.T×L2.T)):List Tr:=(L.map (·.1)).flatMap Tr.pre
theorem vi:∀{L:List (Tr×L2.T×L2.T)},(∀p∈L,Wf O p.1)->L.length <=(flP L).length
 |[],_=>oQ _|p::r,h=>by
  have h1:=(h p iY).pos;have h2:=vi λq hq=>h q (mm _ hq);show r.length+1 <=(p.1.pre++flP r).length;rw[mS];omega
theorem EN(T:Txt K mg a):aS P w K mg base CX0 4 a.oH a.AN ["body"] (spQ K (Ic a.aY)):=by
 refine T.A8.F.okQ ke (λ_ _ _ _ _ _ hr=>?_);have hu:=a7 hr;refine(_,_,((ag (ax 1 ke.nd (aL aj))
(ag (ax 2 ke.nd (aL (af (ko U T.u7 (Ap T) (hr.mono bd) U T.uZ T.iU (ae (qv 0) (ae (Za c7) (ae (Za c7) av)))) aj)))
(ag (iG PassesOwn.never (wt (qv 2))
(ag (DL (j:=3) ke.nd U (Or.inl U) (pv 2))
(ag (mh (i:=2) (pv 2) (m4 U U T.mM U T.gT (Za (aK (mB T) hr T.hV (ae (gE T.k7 T.fP (qv 3)) (ae (Za (a6 T.bB (ae (qv 1) av))) av))))))
(ai (bF (i:=1) (pv 1) (Zb (qv 3)))))))
(ai (dY (i:=1) (pv 1))))))),λts Q h=>?_)
 let(d,U,w,hl,hq):=h;refine((by show(d.t.im&&(O&&(O&&O)))=O;rw[w.imt];rfl),U,?_);refine(λc q=>T5 λ(L M:List (Tr×L2.T×L2.T))(X TK:ώ)(o3:Sl)=>q=[.r d.t,.o (.l X),.o (.l TK),o3]/\X=L.map (spO a.aY)/\TK=M.reverse.map (spO a.aY)/\(∀p∈M,Wf O p.1)/\L.map (·.1)++flP M=d.pre/\c=(flP M).length,(_,[],[(d,.n,.n)],_,_,_,U,U,U,(λp hp=>by rw[fy.mp hp];exact w),(by show []++(d.pre++[])=_;simp),U),?_);rintro c q ⟨L,M,X,TK,o3,rfl,rfl,rfl,hM,g,rfl⟩;cases M with
 |nil =>rw[show flP []=[]from U,u3]at g;exact hq L g|cons v M =>
  have wv:=hM v iY;have eF:flP (v::M)=v.1 ::(v.1.kids.flatMap Tr.pre++flP M):=by show v.1.pre++_=_;rw[wv.eC];rfl
  have aP:L.length+(flP (v::M)).length<=50000:=by have:=congrArg zN g;rw[mS,e7]at this;omega
  have aN:=vi hM;have lk:v.1.kids.length <=(v.1.kids.flatMap Tr.pre).length:=by
   have:=vi (L:=v.1.kids.map λk=>(k,.n,.n)) λp hp=>by
    let(k,hk,U):=sd.mp hp;exact wv.kids k hk
   unfold flP at this;rw[e7,Gk]at this;exact vN this (Sr (by congr 1;congr 1;exact Tj _))
  have eY:(v::M).reverse.map (spO a.aY)=M.reverse.map (spO a.aY)++[spO a.aY v]:=by simp
  rw[eF,p7,mS]at aP;rw[eF,p7,p7,mS]at aN;refine aC (λ_=>?_) (λz=>absurd (by rw[eY];simp) z);refine(λq'=>∃(L V:List (Tr×L2.T×L2.T))(X TK:ώ)(o3:Sl),q'=[.r d.t,.o (.l X),.o (.l TK),o3]/\X=L.map (spO a.aY)/\TK=V.reverse.map (spO a.aY)/\(∀p∈V,Wf O p.1)/\L.map (·.1)++flP V=d.pre/\(flP V).length<(flP (v::M)).length,?_,?_)
  ·rintro q' ⟨L,V,X,TK,o3,rfl,rfl,rfl,g1,g2,g3⟩;exact(_,g3,L,V,_,_,_,U,U,U,g1,g2,U)
  refine(_,_,eY,kM λt ht=>by let(z,_,U):=sd.mp ht;rfl,am,?_);refine(U,am,_,U,v.1,_,U,wv,U,bd,λN hN=>?_);have lN:N.length=v.1.kids.length:=by have:=congrArg zN hN;rwa [e7]at this
  refine(kM λt ht=>by let(z,_,U):=sd.mp ht;rfl,?_);refine(?_,?_)
  ·simp only[e7,Fx];exact x9 (aH bd)
  refine(aH (by rw[e7];omega),U,?_);refine(L++[v],N++M,_,_,_,U,ap,ap,λp hp=>?_,?_,?_)
  ·obtain z|z:=rh.mp hp
   ·exact wv.kids _ (by rw[<- hN];exact sd.mpr (p,z,U))
   exact hM p (mm _ z)
  ·rw[<- g,eF];show(L++[v]).map _++((N++M).map _).flatMap _=_;rw[pq,pq,hN,yc,wh];rfl
  rw[eF];show(((N++M).map _).flatMap _).length<_;rw[pq,hN,yc];exact Rn _
inductive Ei(ts:ώ)(Q:ϐ):Prop
 |mk(d:Tr)(h1:ts=[d.t])(h2:Wf O d)(h3:d.pre.length<=50000)(h4:Q (.l (d.pre.map Tr.t)))
theorem BP(T:Txt K mg a):aS P w K mg base CX0 5 a.kO a.xI ["body"] (spQ K Ei):=by
 refine T.yh.F.okQ Bu (λ_ _ _ _ _ _ hr=>?_);have hu:=a7 hr;refine(_,_,((ai (aD (b6 U (km (Za (aK (EN T) hr T.A8 (ae (qv 0) av)))) (N':=["spot"]) (.own U .nil) (bX (g:=(Tg.nm 0)) (λ_ _ _ _ _=>((cz 0),(Zb (gE T.k7 T.fP (qv 0)))))))))),λts Q h=>?_);let(d,U,w,hl,hq):=h;refine(d,U,w,hl,λL z=>?_);have V:L.length=d.pre.length:=by have:=congrArg zN z;rwa [e7]at this
 refine(aH (by rw[e7];omega),λi ys=>ys=(d.pre.take i).map Tr.t,U,?_,?_)
 ·rintro i y ys q rfl;rw[kf]at q;let(p,hp,U):=mU.mp q;have e:d.pre[i]?=Z p.1:=by rw[<- z,kf,hp];rfl
  refine(_,U,U,am,_,U,(w.ji _ (nZ e)).imt,?_);rw[ui,e,pq];rfl
 rintro ys rfl;rw[e7,V,uj];exact hq
inductive Ej(ts:ώ)(Q:ϐ):Prop
 |mk(fs:ϓ)(x:Str)(h1:ts=[.t (fs.map tF),.s x])(h2:ϔ (fs.map tF)=O)(h3:∀t,t.im=O->Q t)
theorem uS(T:Txt K mg a):aS P w K mg base CX0 1 a.fh a.m9 [Zh,"name"] (spQ K Ej):=by
 refine T.nE.F.okQ gx (λ_ _ _ _ _ _ hr=>?_);have hu:=a7 hr;refine(_,_,((ag (bC (g:=(Tg.tp [2,3])) PassesOwn.never U (HQ U T.dO bv (ae (qv 0) av)) (dy (bo 2 gx.nd) (bo 3 gx.nd))
(ai (aM (bx hu (ao (qv 3) ah) (qv 1))
(ai (aD (Zb (qv 2))))
aA)))
(ai (aD c7)))),λts Q h=>?_)
 let(fs,x,U,aN,hq):=h;refine(aN,λi q=>∃o2 V,q=[.r (.t (fs.map tF)),.r (.s x),o2,V],(_,_,U),?_,?_)
 ·rintro i y q hy ⟨o2,V,rfl⟩;let(z,hz,U):=eZ hy;rw[kf]at hz;let(f',aP,U):=mU.mp hz;exact(_,U,_,U,U,aC (λ_=>(U,hq _ U)) λ_=>(_,_,U))
 rintro q ⟨o2,V,rfl⟩;exact hq _ U
inductive LP(ts:ώ)(Q:ϐ):Prop
 |mk(d:Tr)(h1:ts=[d.t])(h2:Wf O d)(h3:Q (.i (d.kids.length:Int)))
theorem dS(T:Txt K mg a):aS P w K mg base CX0 1 a.dg a.iQ [Zd] (spQ K LP):=by
 refine T.dn.F.okQ nK (λ_ _ _ _ _ _ hr=>?_);have g:=a7 hr;refine(_,_,((ag (aM (bx g (ao (qv 0) ah) (Za aF))
(ai (aD bP))
aA)
(ai (aD (N9 (bx g (ao (qv 0) ah) (Za aF)) (a6 T.bB (ae (ao (qv 0) ah) av)) bP))))),λts Q h=>?_)
 let(d,U,w,hq):=h;cases w.vw with|giv x=>exact(_,U,U,aC (λ_=>hq) (λz=>absurd bn z))|one q r b wb ho et n1 n2 =>rw[et];exact(_,bY,U,aC (λz=>absurd z n1) λ_=>(_,bY,U,aC (λz=>absurd z n2) λ_=>hq))|cas x A wa =>have hq:Q (.i (A.bs.length:Int)):=hq;rw[<- d7 wa]at hq;exact(_,U,U,aa ((_,U,U,aC (λ_=>(_,U,hq)) λz=>absurd bn z)))
def ldT(p:Tr×L2.T):L2.T:=.t [p.1.t,p.2]
def tPr(ks:ϑ)(fs:ϓ):L2.T:=.t [tKs ks,.t (fs.map tF)]
structure FnB(fs:ϓ)(f:Nat)(d:Tr):Prop where
 ex:∃fn,fs[f]?=Z fn/\fn.2.1=d.t
 im:∀f∈fs,f.2.1.im=O
 w:Wf O d
 ln:d.pre.length<=25000
inductive LV(ts:ώ)(Q:ϐ):Prop
 |mk(ks:ϑ)(fs:ϓ)(f:Nat)(d:Tr)(h1:ts=[tPr ks fs,.i (f:Int)])(h2:FnB fs f d)(h3:∀L:List (Tr×L2.T),L.map (·.1)=d.pre->(∀p∈L,p.2.im=O)->Q (.l (L.map ldT)))
theorem wY(T:Txt K mg a):aS P w K mg base CX0 6 a.gQ a.qP ["program","f"] (spQ K LV):=by
 refine T.rC.F.okQ v9 (λ_ _ _ _ _ _ hr=>?_);have hu:=a7 hr;refine(_,_,((ai (aD (b6 U (DP U T.dO bv (ae (Za (aK (BP T) hr T.yh (ae (ao (ao (ao (qv 0) ah) (qv 1)) ah) av))) av)) (N':=["n",Zd,"f"]) (.own U (.own U (.got (i:=1) U U (.inl U) .nil))) (bX (g:=(Tg.tp [0,1])) (λ_ _ _ _ _=>((dy (cz 0) (cz 1)),(ar (af (Zb (qv 1)) (af (ar (af (ar (af (ar (af aF (af (Zb (qv 2)) (af (Zb (qv 0)) aj)))) (af bP aj))) aj)) aj)))))))))),λts Q h=>?_);let(ks,fs,f,d,U,TL,hq):=h;let(fn,hf,eb):=TL.ex;have ef:atI (fs.map tF) (f:Int)=Z (tF fn):=b7 (by rw[kf,hf];rfl);have ln:=TL.ln;refine(_,U,_,ef,_,U,d,by rw[eb],TL.w,bd,?_);have pl:(d.pre.map Tr.t).length=d.pre.length:=e7 ..;refine(aH (by rw[b9,pl];omega),λi ys=>∃L:List (Tr×L2.T),ys=L.map ldT/\L.map (·.1)=d.pre.take i/\∀p∈L,p.2.im=O,([],U,U,nofun),?_,?_)
 ·rintro i y ys hy ⟨L,rfl,hL,V⟩;let(z,hz,U):=eZ hy;rw[kf]at hz;let(x,hx,U):=mU.mp hz;refine(_,U,(TL.w.ji _ (nZ hx)).imt,U,U,L++[(x,.t [.t [.t [.s "piece",.i f,.i i],.i 1]])],by rw[pq];rfl,?_,λp hp=>?_)
  ·rw[pq,hL,ui,hx];rfl
  obtain q|q:=rh.mp hp
  ·exact V p q
  rw[fy.mp q];rfl
 rintro ys ⟨L,rfl,hL,V⟩;rw[b9,pl,uj]at hL;exact hq L hL V
inductive Ii(ts:ώ)(Q:ϐ):Prop
 |mk(L:List (Tr×L2.T))(A TL:List Tr)(c:Tr)(h1:ts=[.l (L.map ldT),.i (A.length:Int)])(h2:L.map (·.1)=A++(c.pre++TL))(h3:Wf O c)(h4:(∀p∈L,p.2.im=O))(h5:L.length<=60000)(h6:Q (.i ((A.length+c.pre.length:Nat):Int)))
theorem CS{i:Nat}{x:Int}(h:q[i]?=Z (.o (.i x)))(hq:Q (decide (y<x))):c8 (qOp (qI0 λi j=>L2.T.b (decide (j<i))) (aU i) (qC (.i y))) q Q:=by unfold c8 qOp aU;rw[h];exact hq
theorem Ks{x:Int}(h:Q (decide (x<y))):qI0 (λi j=>L2.T.b (decide (i<j))) (.i x) (.i y) (λt=>match t with|.b x=>Q x|_=>False):=h
theorem BR(T:Txt K mg a):aS P w K mg base CX0 2 a.kQ a.xK ["laid","n"] (spQ K Ii):=by
 refine T.yj.F.okQ fY (λ_ _ _ _ _ _ hr=>?_);have hu:=a7 hr;refine(_,_,((ag (ax 2 fY.nd bP)
(ag (ax 3 fY.nd (Zb (qv 1)))
(ag (iG PassesOwn.never (DJ (qv 2) ah)
(ag (z8 (i:=2) fY.nd (Za (yP (Za (aK (dS T) hr T.dn (ae (ao (ao (qv 0) (qv 3)) ah) av))) ah)))
(ai (z8 (i:=3) fY.nd ah))))
(ai (aD (Zb (qv 3)))))))),λts Q h=>?_)
 let(L,A,TL,c,U,hL,w,aN,hl,hq):=h;refine(U,λk q=>T2 λ(pend:List Tr)(D:List Tr)=>q=[.r (.l (L.map ldT)),.r (.i (A.length:Int)),.o (.i (pend.length:Int)),.o (.i (D.length:Int))]/\(∀p∈pend,Wf O p)/\L.map (·.1)=D++(pend.flatMap Tr.pre++TL)/\D.length+(pend.flatMap Tr.pre).length=A.length+c.pre.length/\k=(pend.flatMap Tr.pre).length,(_,[c],A,U,(λp hp=>by rw[fy.mp hp];exact w),by rw[hL];simp,ap,U),?_);rintro k q ⟨pend,D,rfl,hw,g,hn,rfl⟩;have lL:L.length=D.length+((pend.flatMap Tr.pre).length+TL.length):=by have:=congrArg zN g;rwa [e7,mS,mS]at this
 cases pend with
 |nil =>refine CS U (aC (λz=>absurd z am) (λ_=>?_));have hn:D.length+0=A.length+c.pre.length:=hn;rw[<- hn]at hq;exact(U,hq)|cons p ps =>
  have wp:=hw p iY;refine CS U (aC (λ_=>?_) (λz=>absurd (decide_eq_true (by rw[p7];omega)) z));obtain⟨it,hit,ep⟩:∃it,L[D.length]?=Z it/\it.1=p:=by
   have:(L.map (·.1))[D.length]?=Z p:=by rw[g,x2,wp.eC];simp
   rw[kf]at this;exact mU.mp this
  have eL:atI (L.map ldT) (D.length:Int)=Z (ldT it):=b7 (by rw[kf,hit];rfl);have V:(p::ps).flatMap Tr.pre=p ::((p.kids++ps).flatMap Tr.pre):=by rw[x2,wp.eC,yc];rfl
  refine(λq'=>∃(pend:List Tr)(D:List Tr),q'=[.r (.l (L.map ldT)),.r (.i (A.length:Int)),.o (.i (pend.length:Int)),.o (.i (D.length:Int))]/\(∀p∈pend,Wf O p)/\L.map (·.1)=D++(pend.flatMap Tr.pre++TL)/\D.length+(pend.flatMap Tr.pre).length=A.length+c.pre.length/\(pend.flatMap Tr.pre).length<((p::ps).flatMap Tr.pre).length,?_,?_)
  ·rintro q' ⟨pend,D,rfl,g1,g2,g3,g4⟩;exact(_,g4,pend,D,U,g1,g2,g3,U)
  refine(_,U,_,eL,_,U,p,by rw[ep],wp,?_);refine(_,U,p.kids++ps,D++[p],?_,λx hx=>?_,?_,?_,?_)
  ·show([_,_,_,_]:Sq)=[_,_,_,_];congr 3
   ·congr 2;simp only[p7,mS];omega
   congr 3;simp
  ·obtain z|z:=rh.mp hx
   ·exact wp.kids x z
   exact hw x (mm _ z)
  ·rw[g,V];simp
  ·rw[<- hn,V,mS,p7];simp;omega
  rw[V];exact Rn _
theorem wJ:∀{p:Nat}{ks:List Tr},(jj p ks).length=ks.length
 |_,[]=>rfl|_,_::_=>congrArg (· + 1) wJ
inductive El(ts:ώ)(Q:ϐ):Prop
 |mk (L:List (Tr×L2.T)) (A TL:List Tr) (c:Tr) (h1:ts=[.l (L.map ldT),.i (A.length:Int)]) (h2:L.map (·.1)=A++(c.pre++TL)) (h3:Wf O c) (h4:(∀p∈L,p.2.im=O)) (h5:L.length<=60000) (h6:Q (.l ((jj (A.length+1) c.kids).map λ(n:Nat)=>ϖ (n:Int))))
theorem kG(T:Txt K mg a):aS P w K mg base CX0 3 a.cF a.gg ["laid","n"] (spQ K El):=by
 refine T.gn.F.okQ cu (λ_ _ _ _ _ _ hr=>?_);have hu:=a7 hr;refine(_,_,((ag (ax 2 cu.nd (aL aj))
(ag (ax 3 cu.nd (aJ (qv 1) ah))
(ag (iG PassesOwn.never (z6 (Za (a6 T.bB (ae (qv 2) av))) (Za (aK (dS T) hr T.dn (ae (ao (ao (qv 0) (qv 1)) ah) av))))
(ag (bF (i:=2) (pv 2) (Zb (qv 3)))
(ai (ax 3 cu.nd (aK (BR T) hr T.yj (ae (qv 0) (ae (qv 3) av)))))))
(ai (dY (i:=2) (pv 2))))))),λts Q h=>?_)
 let(L,A,TL,c,U,hL,w,V,hl,hq):=h;have lL:L.length=A.length+(c.pre.length+TL.length):=by have:=congrArg zN hL;rwa [e7,mS,mS]at this
 have fk:=jS w.kids;have lc:c.pre.length=(c.kids.flatMap Tr.pre).length+1:=by rw[w.eC,p7]
 obtain⟨it,hit,ep⟩:∃it,L[A.length]?=Z it/\it.1=c:=by
  have:(L.map (·.1))[A.length]?=Z c:=by rw[hL,w.eC];simp
  rw[kf]at this;exact mU.mp this
 have eL:atI (L.map ldT) (A.length:Int)=Z (ldT it):=b7 (by rw[kf,hit];rfl);refine(λk q=>P3 λ(k1 k2:List Tr)(X:ώ)=>q=[.r (.l (L.map ldT)),.r (.i (A.length:Int)),.o (.l X),.o (.i ((A.length+1+(k1.flatMap Tr.pre).length:Nat):Int))]/\X=(jj (A.length+1) k1).map (λ(n:Nat)=>ϖ (n:Int))/\k1++k2=c.kids/\k=k2.length,(_,[],c.kids,_,U,U,U,U),?_);rintro k q ⟨k1,k2,X,rfl,rfl,g,rfl⟩;refine(_,eL,_,U,c,by rw[ep],w,?_);have lk:k1.length+k2.length=c.kids.length:=by rw[<- g,mS]
 have lp:((jj (A.length+1) k1).map λ(n:Nat)=>ϖ (n:Int)).length=k1.length:=by rw[e7];exact wJ
 have aP:(k1.flatMap Tr.pre).length+(k2.flatMap Tr.pre).length=(c.kids.flatMap Tr.pre).length:=by rw[<- g,yc,mS]
 cases k2 with
 |nil =>refine Ks (aC (λz=>absurd (of_decide_eq_true z) (by rw[lp];simp at lk;omega)) (λ_=>?_));rw[u3]at g;subst g;exact hq|cons p ps =>
  have wp:Wf O p:=w.kids p (by rw[<- g];simp);have aN:(p::ps).length=ps.length+1:=rfl;refine Ks (aC (λ_=>?_) (λz=>absurd (decide_eq_true (by rw[lp];omega)) z));refine(λq'=>∃(k1 k2:List Tr)(X:ώ),q'=[.r (.l (L.map ldT)),.r (.i (A.length:Int)),.o (.l X),.o (.i ((A.length+1+(k1.flatMap Tr.pre).length:Nat):Int))]/\X=(jj (A.length+1) k1).map (λ(n:Nat)=>ϖ (n:Int))/\k1++k2=c.kids/\k2.length<(p::ps).length,?_,?_)
  ·rintro q' ⟨k1,k2,X,rfl,rfl,g1,g2⟩;exact(_,g2,k1,k2,_,U,U,g1,U)
  have hD:L.map (·.1)=(A++(c::k1.flatMap Tr.pre))++(p.pre++(ps.flatMap Tr.pre++TL)):=by rw[hL,w.eC,<- g,yc,x2];simp
  have lD:(A++(c::k1.flatMap Tr.pre)).length=A.length+1+(k1.flatMap Tr.pre).length:=by rw[mS,p7];omega
  refine(aH (by rw[lp];omega),U,L,_,_,p,by rw[lD],hD,wp,V,hl,k1++[p],ps,_,?_,U,by rw[<- g];simp,Rn _);show([_,_,_,_]:Sq)=[_,_,_,_];rw[wL,pq,lD,yc,x2,Sd,u3,mS,<- S6];rfl
theorem kZ{ts:ώ}{b:L2.T}:cg (ts++[b]) Y (Z (-1))=ts:=by
 unfold cg HT.sIx;show((ts++[b]).drop 0).take ((if(-1:Int)<0 then(-1+((ts++[b]).length:Int)).toNat else _)-0)=ts;rw[if_pos am,Sy,Sv];have:(-1+((ts++[b]).length:Int)).toNat=ts.length:=by rw[mS];simp;omega
 rw[this,S3]
theorem Hok.len{h:ώ}(x:Hok h):h.length<=4:=by cases x <;> simp
theorem CJ{a:Tr}(w:Wf ϊ a):∀{bs:List Tr},bs.length=a.bs.length->(∀b∈bs,Wf O b)->∀{i:Nat}{m:Str}{ns:Γ}{t:L2.T}{b:Tr},a.l[i]?=Z (.t [.s m,.t (ns.map .s),t])->bs[i]?=Z b->(a.wa bs).l[i]?=Z (.t [.s m,.t (ns.map .s),b.t]):=by
 induction a with
 |arm m ns b r _ q =>
  cases w with
  |arm w1 w2 =>
   intro bs hl hw i m' g t b' h1 h2;cases bs with
   |nil=>cases h2
   |cons y ys =>
    cases i with
    |zero =>
     cases h2;have h1:Z (ϗ (.s m :: .t (ns.map .s)::b.l))=Z (.t [.s m',.t (g.map .s),t]):=h1;have e:=L2.T.t.inj (Option.some.inj h1);have K:ϕ m=.s m':=(List.cons.inj e).1;have z:ϗ (ns.map .s)=.t (g.map .s):=(List.cons.inj (List.cons.inj e).2).1;show Z (ϗ (.s m :: .t (ns.map .s)::b'.l))=_;rw[(hw b' iY).l1,K,z]
    |succ i=>exact q w2 (Nat.succ.inj hl) (λx hx=>hw x (mm _ hx)) h1 h2
 |nil=>intro bs hl hw i m' g t b' h1;cases h1
 |_=>cases w
inductive uH(ts:ώ)(Q:ϐ):Prop
 |mk(d:Tr)(bs:List Tr)(h1:ts=[d.t,.l (bs.map Tr.t)])(h2:Wf O d)(h3:bs.length=d.kids.length)(h4:(∀b∈bs,Wf O b))(h5:bs.length<=50000)(h6:Q (d.wb bs).t)
theorem pX(T:Txt K mg a):aS P w K mg base CX0 1 a.dD a.jv [Zd,"bodies"] (spQ K uH):=by
 refine T.jA.F.okQ iu (λ_ _ _ _ _ _ hr=>?_);have hu:=a7 hr;refine(_,_,((ag (aM (bx hu (ao (qv 0) ah) (Za aF))
(ai (aD (Zb (qv 0))))
aA)
(ag (aM (bx hu (ao (qv 0) ah) (Za aF))
(ag (gC (i:=2) iu.nd U (Or.inl U) U (Aa U T.xQ bv (ae (ao (qv 0) ah) (ae (qv 1) av))) (N':=["arm","body"]) (.own U (.own U .nil)) (bX (g:=(Tg.tp [0,1])) (λ_ _ _ _ _=>((dy (cz 0) (cz 1)),(ar (af (Zb (ao (qv 0) ah)) (af (Zb (ao (qv 0) ah)) (af (Zb (qv 1)) aj))))))))
(ai (aD (ar (af aF (af (Zb (ao (qv 0) ah)) (af (aQ (bG U) bE be T.cH bv (ae (qv 2) av)) aj)))))))
aA)
(ai (aD (aJ (Za (aZ (qv 0) bj (a9 (Za (fM ah))))) (Za (ar (af (Zb (ao (qv 1) ah)) aj))))))))),λts Q h=>?_)
 let(d,bs,U,w,hl,hw,h5,hq):=h;cases w.vw with
 |giv x=>exact(_,U,U,aC (λ_=>(U,hq)) (λz=>absurd bn z))|one q r b wb ho et n1 n2 =>
  rw[et];refine(_,bY,U,aC (λz=>absurd z n1) λ_=>(_,bY,U,aC (λz=>absurd z n2) λ_=>?_));cases bs with
  |nil=>cases hl
  |cons y ys =>
   have ec:cg (.s q ::(r++[b.t])) Y (Z (-1))=.s q::r:=kZ (ts:=.s q::r);obtain rfl:ys=[]:=by cases ys with|nil=>rfl|cons _ _=>cases hl
   have im:ϔ (.s q ::(r++[b.t]))=true:=by have:=(Wf.one ho wb).imt;rw[et]at this;exact this
   refine(im,?_);simp only[ec];refine(_,bY,(hw y iY).imt,?_);have aT:(Tr.one (.s q::r) y).t=.t ((.s q::r)++[y.t]):=by show ϗ (_++y.l)=_;rw[(hw y iY).l1]
   have hq:Q (Tr.one (.s q::r) y).t:=hq;rw[aT]at hq;refine(?_,ho.im,(by show(y.t.im&&O)=O;rw[(hw y iY).imt];rfl),hq);have aP:=ho.len;rw[p7]at aP;exact x9 (aH (by rw[p7];show _+1<=_;omega))
 |cas x A wa =>
  refine(_,U,U,aa ((_,U,U,aC (λ_=>?_) λz=>absurd bn z)));have lA:=d7 wa;refine(_,U,A.l,bs.map Tr.t,U,?_);have hl:bs.length=A.bs.length:=hl;have lz:(lO A.l (bs.map Tr.t)).length=bs.length:=by rw[cZ,e7,lA];omega
  refine(aH (by rw[lz];omega),λi ys=>ys=(A.wa bs).l.take i,U,?_,?_)
  ·rintro i y ys hy rfl;let(y1,y2,h1,h2,U):=gs hy;let(m,ns,b,U,hb,wb):=qV wa h1;rw[kf]at h2;let(b2,V,U):=mU.mp h2;have aN:=hw b2 (nZ V);refine(_,U,_,U,U,_,U,ay _,aN.imt,?_);rw[ui,CJ wa hl hw h1 V];rfl
  rintro ys rfl;have lw:(A.wa bs).l.length=bs.length:=by let(q1,q2,q3):=sx wa hl hw;rw[d7 q3,q2]
  rw[lz,<- lw,uj];exact(_,U,U,(sx wa hl hw).2.2.im,hq)
inductive Ek(ts:ώ)(Q:ϐ):Prop
 |mk(L:List (Tr×L2.T))(D:Tr)(h1:ts=[.l (L.map ldT)])(h2:Wf O D)(h3:F2 (L.map (·.1)) D.pre)(h4:(∀p∈L,Wf O p.1/\p.2.im=O))(h5:D.pre.length<=50000)(h6:Q D.t)
theorem zf(T:Txt K mg a):aS P w K mg base CX0 3 a.jg a.sY ["laid"] (spQ K Ek):=by
 refine T.jh.F.okQ eu (λ_ _ _ _ _ _ hr=>?_);have hu:=a7 hr;refine(_,_,((ag (ax 1 eu.nd (aL aj))
(ag (bC (g:=(Tg.tp [2,3])) PassesOwn.never U (Lp (i:=0) U T.gT (pv 0)) (dy (bo 2 eu.nd) (bo 3 eu.nd))
(ag (HM (i:=1) (j:=4) (n1:="number") (n2:="built") eu.nd U (Or.inl U) U U T.dm (ae (Za (aK (dS T) hr T.dn (ae (qv 2) av))) av) (.own U (.got (i:=1) U U (.inl U) .nil)) (λ_ _ _ _ _=>((cz 0),(pv 1))))
(ai (bF (i:=1) (pv 1) (aK (pX T) hr T.jA (ae (qv 2) (ae (qv 4) av)))))))
(ai (aD (Zb (ao (qv 1) ah))))))),λts Q h=>?_)
 let(L,D,U,w,hF,hL,hl,hq):=h;have ll:L.length=D.pre.length:=by have:=hF.len;rwa [e7]at this
 have w1:∀x ∈ [D],Wf O x:=λx hx=>by rw[fy.mp hx];exact w
 have dr:∀k,(qJ k [D]).flatMap Tr.pre=D.pre.drop k:=λk=>by rw[sT w1,x2,Sd,u3]
 refine(λi q=>Q4 λ(X:ώ)(o2 o3 o4:Sl)=>q=[.r (.l (L.map ldT)),.o (.l X),o2,o3,o4]/\X=((qJ (L.length-i) [D]).reverse).map Tr.t,?_,?_,?_)
 ·have e0:qJ L.length [D]=[]:=by rw[ll];have h1:=jS (oF (k:=D.pre.length) w1);rw[dr,List.drop_length]at h1;exact List.eq_nil_of_length_eq_zero (h1:)
  exact([],_,_,_,U,by rw[Sv,e0];rfl)
 ·rintro i y q hy ⟨X,o2,o3,o4,rfl,rfl⟩;have hi:i<L.length:=by have:=(mT.mp hy).1;simpa using this
  rw[R8 (by rw[e7];exact hi),e7,kf]at hy;let(it,hit,U):=mU.mp hy;obtain⟨k,hk⟩:∃k,L.length-(i+1)=k:=(_,U);have aN:L.length-i=k+1:=bd;rw[show L.length-1-i=k by omega]at hit;have aP:k<D.pre.length:=bd;obtain⟨p,ps,V⟩:∃p ps,qJ k [D]=p::ps:=by cases e:qJ k [D]with|nil=>have:=dr k;rw[e]at this;have:=congrArg zN this;rw[yb]at this;simp at this;omega|cons p ps=>exact(p,ps,U)
  have wf:=oF (k:=k) w1;rw[V]at wf;have wp:=wf p iY;have hp:D.pre[k]?=Z p:=by have h1:=congrArg (·[0]?) (dr k);simp only[V,x2,wp.eC,Sz,Nat.add_zero]at h1;exact h1.symm
  let(x,hx,sh):=hF.at hp;rw[kf,hit]at hx;obtain rfl:it.1=x:=Option.some.inj hx;let(wi,aT):=hL it (nZ hit);have es:=sS V;have lp:ps.length+p.kids.length<=50000:=by have h1:=jS (oF (k:=k+1) w1);rw[dr,es,mS,yb]at h1;omega
  have wk:∀b∈p.kids,Wf O b:=wp.kids;have imk:∀l:List Tr,(∀b∈l,Wf O b)->ϔ (l.map Tr.t)=true:=λl h=>kM λt ht=>by
   let(b,hb,U):=sd.mp ht;exact(h b hb).imt
  rw[aN,es,hk,V];refine(_,U,it.1,U,wi,it.1.kids.length,(ps.reverse).map Tr.t,(p.kids.reverse).map Tr.t,U,by rw[List.reverse_append,pq],by rw[e7,Fx,sh.len],by rw[sh.len];omega,?_,am,?_)
  ·exact imk _ λb hb=>by
    obtain z|z:=rh.mp (Tv.mp hb)
    ·exact wk b z
    exact wf b (mm _ z)
  rw[show(SO Tr.t p.kids.reverse).reverse=p.kids.map Tr.t by rw[<- Sb,List.reverse_reverse]];refine(aH (by rw[e7,Fx];omega),it.1,p.kids,U,wi,sh.len.symm,wk,bd,?_);rw[sh.wb];refine(_,_,_,_,U,?_);rw[Rz,pq];rfl
 rintro q ⟨X,o2,o3,o4,rfl,rfl⟩;rw[Fx,e7,Ti];exact(_,U,w.imt,hq)
inductive LN(ts:ώ)(Q:ϐ):Prop
 |mk (ks:ϑ) (fs:ϓ) (f n:Int) (d:Tr) (h1:ts=[.t [tKs ks,.t (fs.map tF)],.i f,.i n,d.t]) (h2:ϔ (fs.map tF)=O) (h3:Wf O d) (h4:d.nms.length<=50000) (h5:∀X:List (Str×L2.T),X.map (·.1)=d.nms->(∀p∈X,p.2.im=O)->Q (.l (X.map λp=>.t [.s p.1,p.2])))
theorem IJ(T:Txt K mg a):aS P w K mg base CX0 2 a.vj a.FP ["program","f","n",Zd] (spQ K LN):=by
 refine T.GA.F.okQ uh (λ_ _ _ _ _ _ hr=>?_);have hu:=a7 hr;refine(_,_,((ag (ax 4 uh.nd (Zb (ao (qv 3) ah)))
(ag (aM (bx hu (qv 4) (Za aF))
(ai (aD (b6 U (iH (ao (qv 3) ah)) (N':=["name","f","n"]) (.own U (.got (i:=1) U U (.inl U) (.got (i:=2) U U (.inl U) .nil))) (bX (g:=(Tg.nm 0)) (λ_ _ _ _ _=>((cz 0),(ar (af (Zb (qv 0)) (af (ar (af aF (af (Zb (qv 1)) (af (Zb (qv 2)) aj)))) aj)))))))))
aA)
(ag (aM (bx hu (qv 4) (Za aF))
(ag (ax 5 uh.nd (aK (uS T) hr T.nE (ae (ao (qv 0) ah) (ae (ao (qv 3) ah) av))))
(ai (aD (b6 U (Ab U T.dO bv (ae (ao (qv 3) ah) av)) (N':=["k","name","g"]) (.own U (.own U (.got (i:=5) U U (.inl U) .nil))) (bX (g:=(Tg.tp [0,1])) (λ_ _ _ _ _=>((dy (cz 0) (cz 1)),(ar (af (Zb (qv 1)) (af (ar (af aF (af (Zb (qv 2)) (af (Zb (qv 0)) aj)))) aj))))))))))
aA)
(ag (aM (bx hu (qv 4) (Za aF))
(ai (aD (aL (af (ar (af (Zb (ao (qv 3) ah)) (af (ar (af aF (af (Zb (qv 1)) (af (Zb (qv 2)) aj)))) aj))) aj))))
aA)
(ag (aM (bx hu (qv 4) (Za aF))
(ai (aD (aL (af (ar (af (Zb (ao (qv 3) ah)) (af (ar (af aF (af (Zb (qv 1)) (af (Zb (qv 2)) aj)))) aj))) aj))))
aA)
(ag (aM (bx hu (qv 4) (Za aF))
(ai (aD (aL (af (ar (af (Zb (ao (qv 3) ah)) (af (ar (af aF (af (Zb (qv 1)) aj))) aj))) aj))))
aA)
(ai (aD (aL aj)))))))))),λts Q h=>?_)
 let(ks,fs,f,n,d,U,aN,w,hl,hq):=h;have ss:∀{w:Str}{v:Str},w≠v->¬ decide ((ϕ w).v=(ϕ v).v)=true:=λ{w v} hn z=>hn (V.str.inj (of_decide_eq_true z));have sy:∀{w:Str},decide ((ϕ w).v=(ϕ w).v)=true:=λ{w}=>decide_eq_true U;cases w with
 |giv =>refine(_,U,U,U,aC (λz=>absurd z (ss bn)) λ_=>(U,aC (λz=>absurd z (ss bn)) λ_=>(U,aC (λz=>absurd z (ss bn)) λ_=>(U,aC (λz=>absurd z (ss bn)) λ_=>(U,aC (λ_=>?_) λz=>absurd sy z)))));exact(_,U,U,U,hq [(_,_)] U (λp hp=>by rw[fy.mp hp];rfl))|@cas x A wa =>refine(_,U,U,U,aC (λz=>absurd z (ss bn)) λ_=>(U,aC (λz=>absurd z (ss bn)) λ_=>(U,aC (λz=>absurd z (ss bn)) λ_=>(U,aC (λ_=>?_) λz=>absurd sy z))));exact(_,U,U,U,U,hq [(x,_)] U (λp hp=>by rw[fy.mp hp];rfl))|@one h b ho wb =>
  have et:(Tr.one h b).t=.t (h++[b.t]):=by show ϗ (h++b.l)=_;rw[wb.l1]
  rw[et];cases ho with
  |@cj w c hw =>
   have n1:∀{v:Str},v ≠ "pay"->v ≠ "get"->w≠v:=λ{v} h1 h2 e=>by obtain z|z:=hw <;>(rw[<- e,z]at h1 h2;first|exact h1 rfl|exact h2 U)
   refine(_,U,U,U,aC (λz=>absurd z (ss (n1 bn bn))) λ_=>(U,aC (λz=>absurd z (ss (n1 bn bn))) λ_=>(U,aC (λz=>absurd z (ss (n1 bn bn))) λ_=>(U,aC (λz=>absurd z (ss (n1 bn bn))) λ_=>(U,aC (λz=>absurd z (ss (n1 bn bn))) λ_=>?_)))));exact hq [] U nofun
  |@name x y =>refine(_,U,U,U,aC (λz=>absurd z (ss bn)) λ_=>(U,aC (λz=>absurd z (ss bn)) λ_=>(U,aC (λ_=>?_) λz=>absurd sy z)));exact(_,U,U,U,U,hq [(y,_)] U (λp hp=>by rw[fy.mp hp];rfl))|@use w x m ns hw =>
   have en:(Tr.one [.s w,.s x,.s m,.t (ns.map .s)] b).nms=ns:=sA ns;rw[en]at hq hl;have ln:(ns.map ϕ).length=ns.length:=e7 ..;obtain rfl|rfl:=hw
   ·refine(_,U,U,U,aC (λ_=>?_) λz=>absurd sy z);refine(_,U,aH (by rw[ln];omega),λi ys=>ys=((ns.take i).map λs=>((s,.t [.s "piece",.i f,.i n]):Str×L2.T)).map (λp=>ϗ [.s p.1,p.2]),U,?_,?_)
    ·rintro i y ys hy rfl;rw[kf]at hy;let(s,hs,U):=mU.mp hy;refine(_,U,U,U,U,?_);rw[ui,hs,pq,pq];rfl
    rintro ys rfl;rw[ln,uj];exact hq _ (by rw[Gk];exact Tj ns) (λp hp=>by let(s,_,U):=sd.mp hp;rfl)
   refine(_,U,U,U,aC (λz=>absurd z (ss bn)) λ_=>(U,aC (λ_=>?_) λz=>absurd sy z));refine(_,U,_,U,fs,m,U,aN,λg hg=>?_);refine(_,U,aH (by rw[b9,ln];omega),λi ys=>∃X:List (Str×L2.T),ys=X.map (λp=>ϗ [.s p.1,p.2])/\X.map (·.1)=ns.take i/\∀p∈X,p.2.im=O,([],U,U,nofun),?_,?_)
   ·rintro i y ys hy ⟨X,rfl,hX,hi⟩;let(z,hz,U):=eZ hy;rw[kf]at hz;let(s,hs,U):=mU.mp hz;refine(_,U,U,hg,U,X++[(s,.t [.s "param",g,.i i])],by rw[pq];rfl,?_,λp hp=>?_)
    ·rw[pq,hX,ui,hs];rfl
    obtain q|q:=rh.mp hp
    ·exact hi p q
    rw[fy.mp q];show(O&&(g.im&&(O&&O)))=O;rw[hg];rfl
   rintro ys ⟨X,rfl,hX,hi⟩;rw[b9,ln,uj]at hX;exact hq X hX hi
theorem BU{x:Int}(P:∀R,R (.i x)->qa q R)(K:∀R,R (.i y)->qb q R)(g:∀R,R (.i z)->qc q R)(h1:x<=y)(h2:y<z)(hq:Q ϊ):
  D5 (c8 (jI (qI0 λi j=>L2.T.b (decide (i<=j))) (qI0 λi j=>L2.T.b (decide (i<j))) qa qb qc)) q Q:=by
 unfold D5 c8 jI;refine P _ (K _ ?_);show(if decide (x<=y)=O then _ else _);rw[if_pos (decide_eq_true h1)];refine g _ ?_;show Q (!decide (y<z));rw[decide_eq_true h2];exact hq
theorem vY{x:Int}{s1:QS}{D:cI}(P:∀R,R (.i x)->qa q R)(K:∀R,R (.i y)->qb q R)(g:∀R,R (.i z)->qc q R)(h1:x<=y)(h2:y<z)(hq:rest D q):
  ic (mj (D5 (c8 (jI (qI0 λi j=>L2.T.b (decide (i<=j))) (qI0 λi j=>L2.T.b (decide (i<j))) qa qb qc))) s1 kr) rest D q:=by
 unfold ic mj;exact BU P K g h1 h2 hq
inductive y3(ts:ώ)(Q:ϐ):Prop
 |mk(ks:ϑ)(fs:ϓ)(f n:Nat)(d:Tr)(h1:ts=[tPr ks fs,.i (f:Int),.i (n:Int)])(h2:FnB fs f d)(h3:n<d.pre.length)(h4:∀L:List (Tr×L2.T),L.map (·.1)=d.pre->(∀p∈L,p.2.im=O)->Q (.l (L.map ldT)))
theorem uW(T:Txt K mg a):aS P w K mg base CX0 7 a.fu a.nj ["program","f","n"] (spQ K y3):=by
 refine T.nI.F.okQ kh (λ_ _ _ _ _ _ hr=>?_);have hu:=a7 hr;refine(_,_,((ag (aM (DI (pE EL (fF (g':=λi j=>.b (decide (i<=j))) λ_ _ _ _=>.b _) An (fF (g':=λi j=>.b (decide (i<j))) λ_ _ _ _=>.b _) ah (qv 1) (Za (a6 T.bB (ae (ao (qv 0) ah) av)))))
(ai dH)
aA)
(ag (ax 3 kh.nd (aK (wY T) hr T.rC (ae (qv 0) (ae (qv 1) av))))
(ag (aM (DI (pE EL (fF (g':=λi j=>.b (decide (i<=j))) λ_ _ _ _=>.b _) An (fF (g':=λi j=>.b (decide (i<j))) λ_ _ _ _=>.b _) ah (qv 2) (Za (a6 T.bB (ae (qv 3) av)))))
(ai dH)
aA)
(ai (dY (i:=3) (pv 3))))))),λts Q h=>?_)
 let(ks,fs,f,n,d,U,TL,hn,hq):=h;have hf:f<fs.length:=by let(fn,h,_):=TL.ex;exact(mT.mp h).1
 have lf:((fs.map tF).length:Int)=fs.length:=by rw[e7]
 refine vY (λ_ h=>h) (λ_ h=>h) (λR h=>(_,U,h)) (RU f) (by rw[lf];omega) ?_;refine(ks,fs,f,d,U,TL,λL V g=>?_);have lL:L.length=d.pre.length:=by have:=congrArg zN V;rwa [e7]at this
 exact id (vY (s1:=λ_ _=>False) (rest:=λD q=>match q[3]? with|some (L2.Sl.o t)=>D.rt t|_=>False) (D:=cI.fn Q) (q:=[.r (tPr ks fs),.r (.i (f:Int)),.r (.i (n:Int)),.o (.l (L.map ldT))]) (qa:=qC (.i 0)) (qb:=aU 2) (qc:=qCB wC (aG (aU 3) dq)) (x:=0) (y:=(n:Int)) (z:=((L.map ldT).length:Int)) (λ_ h=>h) (λ_ h=>h) (λR h=>h) (RU n) (by rw[e7];omega) (hq L V g))
inductive yW(ts:ώ)(Q:ϐ):Prop
 |mk(ks:ϑ)(fs:ϓ)(f:Nat)(fn:Fn)(b:L2.T)(h1:ts=[tPr ks fs,.i (f:Int),b])(h2:fs[f]?=Z fn)(h3:(∀f∈fs,f.2.1.im=O))(h4:b.im=O)(h5:fs.length<=8)(h6:Q (tPr ks (fs.set f (fn.1,b,fn.2.2))))
theorem uR(T:Txt K mg a):aS P w K mg base CX0 1 a.fg a.m8 ["program","f","body"] (spQ K yW):=by
 refine T.fC.F.okQ kc (λ_ _ _ _ _ _ hr=>?_);have hu:=a7 hr;refine(_,_,((ag (ax 3 kc.nd (Zb (ao (qv 0) ah)))
(ai (aD (ar (af (Zb (ao (qv 0) ah)) (af (aJ (Za (aJ (Za (aZ (qv 3) bj (a9 (qv 1)))) (Za (ar (af (aJ (Za (aZ (ao (qv 3) (qv 1)) bj (a9 ah))) (Za (ar (af (Zb (qv 2)) aj)))) aj))))) (Za (aZ (qv 3) (a9 (Za (aJ (qv 1) ah))) bj))) aj))))))),λts Q h=>?_)
 let(ks,fs,f,fn,b,U,hf,g,hb,h8,hq):=h;have aT:=(mT.mp hf).1;have ef:atI (fs.map tF) (f:Int)=Z (tF fn):=b7 (by rw[kf,hf];rfl);have e1:cg (fs.map tF) Y (Z (f:Int))=(fs.take f).map tF:=by rw[kY (by rw[e7];omega),Lh]
 have e2:cg (fs.map tF) (Z ((f:Int)+1)) Y=(fs.drop (f+1)).map tF:=by unfold cg;rw[show(f:Int)+1=((f+1:Nat):Int)from by omega,HT.kj,HT.pA,e7,QG bd,<- RI,RE (by rw[e7,yb];omega)]
 refine(_,U,eQ g,_,U,iN ks,?_);refine(eQ g,?_);simp only[e1];have V:ϔ [.s fn.1.1,.t (fn.1.2.1.map tP),.s fn.1.2.2,fn.2.1]=true:=by show(O&&(ϔ (fn.1.2.1.map tP)&&(O&&(fn.2.1.im&&O))))=O;rw[aW du,g fn (nZ hf)];rfl
 have z:ϔ ((fs.take f).map tF)=true:=eQ λx hx=>g x (JY hx);have aN:ϔ ((fs.drop (f+1)).map tF)=true:=eQ λx hx=>g x (RO hx);refine(_,ef,V,hb,(by show 3+1<=p6;decide),?_);have aP:ϔ [.s fn.1.1,.t (fn.1.2.1.map tP),.s fn.1.2.2]=true:=by show(O&&(ϔ (fn.1.2.1.map tP)&&(O&&O)))=O;rw[aW du];rfl
 have q:(tF (fn.1,b,fn.2.2)).im=true:=by show(O&&(ϔ (fn.1.2.1.map tP)&&(O&&(b.im&&O))))=O;rw[aW du,hb];rfl
 have lA:((fs.take f).map tF).length<=8:=by rw[e7,vM];omega
 have lB:((fs.drop (f+1)).map tF).length<=8:=by rw[e7,yb];omega
 refine(aP,(by show(b.im&&O)=O;rw[hb];rfl),x9 (aH (by show _+1<=_;omega)),z,(by show((tF (fn.1,b,fn.2.2)).im&&O)=O;rw[q];rfl),eQ g,?_);simp only[e2];refine(x9 (aH (by rw[mS];show _+1+_<=_;omega)),by rw[cA,z];show(O&&((tF (fn.1,b,fn.2.2)).im&&O))=O;rw[q];rfl,aN,?_);have es:(fs.set f (fn.1,b,fn.2.2)).map tF=(fs.take f).map tF++[tF (fn.1,b,fn.2.2)]++(fs.drop (f+1)).map tF:=by rw[RZ,if_pos aT,pq,E3,wh];rfl
 unfold tPr at hq;rw[es]at hq;exact hq
theorem xp{α:Type}{x y:α}{bg:List Nat}:∀{p:Nat}{l:List α},ins x bg p (l++[y])=ins x bg p l++(if p+l.length∈bg then [x,y]else [y])
 |p,[]=>by show(if p∈bg then _ else _)++[]=[]++_;rw[u3];rfl|p,z::r=>by
  show _++ins x bg (p+1) (r++[y])=(_++ins x bg (p+1) r)++_;rw[xp,wh,p7,show p+1+r.length=p+(r.length+1)by omega]
theorem Fh{ns:List Nat}:inT (.i (n:Int)) (ns.map λ(m:Nat)=>ϖ (m:Int))=decide (n∈ns):=by rw[RT,decide_eq_true_iff];unfold inT;rw[Ss,RB];refine(λ(m,h1,h2)=>?_,λh=>(n,h,beq_self_eq_true (n:Int)));have:(m:Int)=n:=eq_of_beq h2;obtain rfl:m=n:=bd;exact h1
theorem Mq{h:ώ}(e:nO h=Y):mvB h b=none:=by unfold mvB;rw[e]
theorem OL{y:Str}:nO [.s "name",.s x,.s y]=Z x:=by show(if("name":Str)="name" then Z x else Y)=_;rw[if_pos rfl]
theorem OM{y:Str}{ns:ώ}:nO [.s "make",.s x,.s y,.t ns]=Z x:=by show(if("make":Str)="make" then Z x else Y)=_;rw[if_pos rfl]
theorem OJ{y:Str}{ns:ώ}:nO [.s "call",.s x,.s y,.t ns]=none:=by show(if("call":Str)="make" then Z x else Y)=_;rw[if_neg bn]
theorem gL{h:ώ}:mv (.one h b)=mvB h b:=rfl
inductive Nx:Tr->Prop
 |no{c:Tr}{w:Str}{r:ώ}:mv c=Y->c.t=.t (.s w::r)->w ≠ "make"->w ≠ "name"->Nx c|yes{h:ώ}{b:Tr}{x w:Str}{r:ώ}:nO h=Z x->(Tr.one h b).t=.t (.s w :: .s x::r)->(w="make" \/ w="name")->Wf O b->Hok h->Nx (.one h b)
theorem Km{c:Tr}(w:Wf O c):Nx c:=by
 cases w with
 |giv=>exact .no U U bn bn|cas w=>exact .no U U bn bn|@one h b ho wb =>
  have et:(Tr.one h b).t=.t (h++[b.t]):=by show ϗ (h++b.l)=_;rw[wb.l1]
  cases ho with
  |cj hw =>refine .no U et ?_ ?_ <;>(obtain rfl|rfl:=hw <;> decide +kernel)|name=>exact .yes (x:=_) (OL) et (.inr U) wb .name|@use w x m ns hw =>
   obtain rfl|rfl:=hw
   ·exact .yes (x:=x) (OM) et (.inl U) wb (.use (.inl U))
   exact .no (gL.trans (Mq OJ)) et bn bn
theorem u6{h:ώ}(e:nO h=Z x)(hg:∀z,b ≠ .giv z)(hn:x ∉ b.nms):mvB h b=Z (b.wb (b.kids.map (.one h))):=by unfold mvB;rw[e];cases b with|giv z=>exact absurd U (hg z)|_=>exact if_neg hn
theorem zi{h:ώ}(e:nO h=Z x)(hn:x∈b.nms):mvB h b=none:=by unfold mvB;rw[e];cases b with|giv z=>rfl|_=>exact if_pos hn
theorem Ar{h:ώ}{z:Str}:mvB h (.giv z)=none:=by unfold mvB;cases nO h <;> rfl
theorem st{w v:Str}(h:w=v):decide ((ϕ w).v=(ϕ v).v)=true:=decide_eq_true (by rw[h])
theorem sf{w v:Str}(h:w≠v):¬ decide ((ϕ w).v=(ϕ v).v)=true:=λz=>h (V.str.inj (of_decide_eq_true z))
theorem nf{w v:Str}(h:w≠v):(!decide ((ϕ w).v=(ϕ v).v))=true:=by rw[RL];exact RK.mpr (sf h)
theorem AZ{x y:L2.T}{l:ώ}:atI (x::y::l) 1=Z y:=b7 (xs:=x::y::l) (j:=1) U
theorem KS{i:Nat}{w:Str}{r:ώ}(h:q[i]?=Z (.o (.t (.s w::r))))(h3:w="make" \/ w="name")(hq:Q ϊ):
  Bz (c8 (qOp qNe (qOp qIx (aU i) (qC (.i 0))) (qC (.s "make")))) (c8 (qOp qNe (qOp qIx (aU i) (qC (.i 0))) (qC (.s "name")))) q Q:=by
 unfold Bz c8 qOp aU;rw[h];refine(_,bY,U,aC (λz=>?_) λ_=>hq);obtain e|e:=h3
 ·subst e;exact absurd z bn
 exact(_,bY,U,by subst e;exact hq)
theorem xA(w:Wf O b):∃(v:Str)(r:ώ),b.t=.t (.s v::r)/\(v="give"->∃z,b=.giv z)/\(v ≠ "give"->∀z,b ≠ .giv z):=by
 cases w with
 |giv=>exact(_,_,U,λ_=>(_,U),λh=>absurd U h)|cas w=>exact(_,_,U,λh=>absurd h bn,λ_ _=>(λz=>nomatch z))|@one h b ho wb =>
  have:(∃v r,h=.s v::r/\v ≠ "give"):=by cases ho with|cj hw=>exact(_,_,U,by obtain rfl|rfl:=hw <;> decide +kernel)|name=>exact(_,_,U,bn)|use hw=>exact(_,_,U,by obtain rfl|rfl:=hw <;> decide +kernel)
  let(v,r,U,hv):=this;exact(v,_,U,λh=>absurd h hv,λ_ _=>(λz=>nomatch z))
theorem Ay{α:Type}{x:α}{bg:List Nat}:∀{p:Nat}{l:List α},(ins x bg p l).length<=2*l.length
 |p,[]=>oQ _|p,z::r=>by
  have:=Ay (x:=x) (bg:=bg) (p:=p+1) (l:=r);show((if p∈bg then [x,z]else [z])++ins x bg (p+1) r).length<=_;rw[mS,p7];split <;> simp <;> omega
theorem FF(os:List Nat):fls (os.map λ(i:Nat)=>ϖ i)=true:=by induction os with|nil=>rfl|cons w r g=>exact g
theorem Ax{α:Type}{x y:α}{bg:List Nat}:∀{p:Nat}{l:List α},y∈ins x bg p l->y=x\/y∈l
 |p,[],h=>nomatch h
 |p,z::r,h=>by
  obtain q|q:=rh.mp h
  ·split at q
   ·obtain e|e:=ot.mp q
    ·exact .inl e
    exact .inr (by rw[fy.mp e];exact iY)
   exact .inr (by rw[fy.mp q];exact iY)
  exact(Ax q).imp id (mm _)
theorem F2.ones{h:ώ}{b:Tr}:∀{ks:List Tr},(∀k∈ks,Wf O k)->F2 (ks.flatMap λk=>.one h b::k.pre) (ks.flatMap λk=>.one h k::k.pre)
 |[],_=>.nil|k::r,w=>by
  rw[x2,x2];exact F2.app (.cons .one (F2.refl (w k iY).ji)) (F2.ones λx hx=>w x (mm _ hx))
inductive wI(a:Adr)(ts:ώ)(Q:ϐ)(W:QW):Prop
 |mk(ks:ϑ)(fs:ϓ)(f n:Nat)(d c:Tr)(h1:ts=[tPr ks fs,.i (f:Int),.i (n:Int)])(h2:FnB fs f d)(h3:ϔ (fs.map tF)=O)(h4:d.pre[n]?=Z c)(h5:(∀x∈d.pre,x.nms.length<=50000))(h6:(mv c=Y->W a.ck [] []))(h7:∀e,mv c=Z e->∀L:List (Tr×L2.T),F2 (L.map (·.1)) (d.put n e).pre->(∀p∈L,Wf O p.1/\p.2.im=O)->Q (.l (L.map ldT)))
theorem rR(T:Txt K mg a):aS P w K mg base (CX1 P w) 8 a.d6 a.kW ["program","f","n"] (yt K (wI a)):=by
 refine T.lJ.F.OC bW (λts Q W h=>?_) (λ_ _ _ _ _ _ hr=>?_)
 ·let(ks,fs,f,n,d,c,U,_):=h;rfl
 have hu:=a7 hr;refine(_,_,((cT (jH (ax 3 bW.nd (aK (uW T) hr T.nI (ae (qv 0) (ae (qv 1) (ae (qv 2) av))))))
(cT (jH (ax 4 bW.nd (Zb (ao (ao (qv 3) (qv 2)) ah))))
(cT (DK (QPW.pt (jG (a4 kC gw (bb _) (ao (qv 4) ah) (Za aF)) (gB (a4 kC gw (bb _) (ao (qv 4) ah) (Za aF)))))
(iE (pF U U T.j7 T.sN U T.mE))
(z7 aA))
(cT (jH (ax 5 bW.nd (Zb (ao (ao (qv 3) (Za (aJ (qv 2) ah))) ah))))
(cT (DK (QPW.pt (wq (bx hu (ao (qv 5) ah) (Za aF)) (uy (a4 (jN U) ik U (ao (qv 4) ah) (Za (b6 U (km (Za (aK (IJ T) hr T.GA (ae (qv 0) (ae (qv 1) (ae (Za (aJ (qv 2) ah)) (ae (qv 5) av))))))) (N':=["name","family"]) (.own U (.own U .nil)) (bX (g:=(Tg.tp [0,1])) (λ_ _ _ _ _=>((dy (cz 0) (cz 1)),(Zb (qv 0)))))))))))
(iE (pF U U T.j7 T.sN U T.mE))
(z7 aA))
(cT (jH (ax 6 bW.nd (aK (kG T) hr T.gn (ae (qv 3) (ae (Za (aJ (qv 2) ah)) av)))))
(cT (jH (ax 7 bW.nd (aZ (qv 3) bj (a9 (qv 2)))))
(cT (jH (bC (g:=(Tg.nm 8)) PassesOwn.leaving U (Bx U T.dm (ae (Za (aJ (qv 2) ah)) (ae (Za (a6 T.bB (ae (qv 3) av))) av))) (bo 8 bW.nd)
(ag (aM (a4 (jN U) ik U (qv 8) (qv 6))
(ai (bF (i:=7) (pv 7) (Zb (ao (qv 3) (qv 2)))))
aA)
(ai (bF (i:=7) (pv 7) (Zb (ao (qv 3) (qv 8))))))))
(iE (jH (dY (i:=7) (pv 7))))))))))))),λts Q W h=>?_)
 let(ks,fs,f,n,d,c,U,TL,b0,hc,a3,hx,hq):=h;have hn:=(mT.mp hc).1;refine(ks,fs,f,n,d,U,TL,hn,λL hL hi=>?_);have lL:L.length=d.pre.length:=by have:=congrArg zN hL;rwa [e7]at this
 have wc:Wf O c:=TL.w.ji c (nZ hc);have bz:∀{m:Nat}{x:Tr},d.pre[m]?=Z x->∃t,L[m]?=Z (x,t)/\t.im=O/\atI (L.map ldT) (m:Int)=Z (ldT (x,t)):=λ{m x} h=>by
  rw[<- hL,kf]at h;let(p,h1,U):=mU.mp h;exact(p.2,h1,hi _ (nZ h1),b7 (by rw[kf,h1];rfl))
 let(t0,g1,g2,g3):=bz hc;refine(_,g3,_,U,wc.imt,?_);cases Km wc with
 |no h1 h2 h3 h4 =>simp only[h2];exact(_,bY,U,aC (λ_=>(_,bY,U,aC (λ_=>hx h1) (λz=>absurd (nf h4) z))) (λz=>absurd (nf h3) z))|@yes h b x w r h1 h2 h3 wb ho =>
  simp only[h2];refine KS (i:=4) U h3 (aC (λz=>absurd z am) λ_=>?_);have pb:d.pre[n+1]?=Z b:=by let(_,_,A,_,B',p1,p2,_):=eB TL.w wc hc;rw[p1,<- p2,CC bd,show A.length+1-A.length=1 by omega];show(b.pre++B')[0]?=_;rw[wb.eC];rfl
  let(t1,g4,g5,g6):=bz pb;refine(_,g6,_,U,wb.imt,?_);let(v,r',ev,ct,ck):=xA wb;simp only[ev];refine(_,bY,U,aC (λz=>aC (λ_=>hx ?_) λy=>absurd U y) λz=>?_)
  ·let(y,U):=ct (V.str.inj (of_decide_eq_true z));exact gL.trans Ar
  have nv:=ck λe=>z (st e);refine(_,AZ,ks,fs,(f:Int),(n:Int)+1,b,by rw[ev];rfl,b0,wb,a3 b (nZ pb),λX hX cC=>?_);have lX:X.length=b.nms.length:=by have:=congrArg zN hX;rwa [e7]at this
  have hb:=a3 b (nZ pb);refine(aH (by rw[e7];omega),λi ys=>ys=((X.take i).map (·.1)).map ϕ,U,?_,?_)
  ·rintro i y ys hy rfl;rw[kf]at hy;let(p,hp,U):=mU.mp hy;refine(_,U,U,?_);rw[ui,hp,pq,pq];rfl
  rintro ys rfl;rw[e7,uj,hX];refine(cB _,aC (λz=>hx ?_) λz=>?_)
  ·have z:inT (.s x) (b.nms.map ϕ)=true:=z;rw[bA,de]at z;exact gL.trans (zi h1 z)
  have nx:x ∉ b.nms:=λq=>z (by show inT (.s x) (b.nms.map ϕ)=O;rw[bA,de];exact q);have a0:=gL.trans (u6 h1 nv nx);generalize b.wb (b.kids.map (.one h))=e at a0;let(h',b',m):=p9 wc a0;let(U,U):=Tr.one.inj m.ec;let(_,_,A,A',B',p1,p2,p3,p4,p5):=eB TL.w m.we hc;have br:L.map (·.1)=(A++[.one h b])++(b.pre++B'):=by rw[hL,p1,wh];rfl
  have ln:=TL.ln;have lA:(A++[Tr.one h b]).length=n+1:=by rw[mS,p2];rfl
  refine(L,_,B',b,by rw[lA];rfl,br,wb,hi,bd,?_);have bR:ϔ (L.map ldT)=true:=kM λq hq=>by
   let(p,hp,U):=sd.mp hq;have wp:Wf O p.1:=TL.w.ji _ (by rw[<- hL];exact sd.mpr (p,hp,U));show(p.1.t.im&&(p.2.im&&O))=O;rw[wp.imt,hi p hp];rfl
  have e1:cg (L.map ldT) Y (Z (n:Int))=(L.take n).map ldT:=by rw[kY (by rw[e7];omega),Lh]
  refine(bR,?_);simp only[e1];have aP:((L.map ldT).length:Int)=L.length:=by rw[e7]
  rw[lA];generalize bc:jj (n+1+1) b.kids=bg;refine((bd,bd,bd,by rw[aP];omega),λi q=>∃o8,q=[.r (tPr ks fs),.r (.i (f:Int)),.r (.i (n:Int)),.o (.l (L.map ldT)),.o (.t (.s w :: .s x::r)),.o (.t (.s v::r')),.o (.l (bg.map λ(m:Nat)=>ϖ (m:Int))),.o (.l ((L.take n++ins (Tr.one h b,t0) bg (n+1) ((L.drop (n+1)).take i)).map ldT)),o8],(Sl.no,?_),?_,?_)
  ·show([_,_,_,_,_,_,_,_,_]:Sq)=_;rw[List.take_zero];show _=[_,_,_,_,_,_,_,Sl.o (L2.T.l ((L.take n++[]).map ldT)),_];rw[u3]
  ·rintro i y q hy ⟨o8,rfl⟩;let(U,cj):=fJ hy;have aN:n+1+i<L.length:=by rw[aP]at cj;omega
   have ei:(n:Int)+1+(i:Int)=((n+1+i:Nat):Int):=bd;have hd:(L.drop (n+1))[i]?=Z L[n+1+i]:=by rw[Sz,mu aN]
   have wd:Wf O L[n+1+i].1:=TL.w.ji _ (by rw[<- hL];exact sd.mpr (_,Qj aN,U));have aT:=hi _ (Qj aN);have ed:atI (L.map ldT) ((n+1+i:Nat):Int)=Z (ldT L[n+1+i]):=b7 (by rw[kf,mu aN];rfl);rw[ui,hd];generalize L[n+1+i]=it at wd aT ed;have eS:L.take n++ins (Tr.one h b,t0) bg (n+1) ((L.drop (n+1)).take i++(Z it).toList)=(L.take n++ins (Tr.one h b,t0) bg (n+1) ((L.drop (n+1)).take i))++(if n+1+i∈bg then [(Tr.one h b,t0),it]else [it]):=by show _++ins _ bg (n+1) (_++[it])=_;rw[xp,wh,vM,yb,QG bd]
   have lS:(L.take n++ins (Tr.one h b,t0) bg (n+1) ((L.drop (n+1)).take i)).length<=75000:=by have q1:=Ay (x:=(Tr.one h b,t0)) (bg:=bg) (p:=n+1) (l:=(L.drop (n+1)).take i);rw[vM,yb]at q1;rw[mS,vM];omega
   rw[eS];generalize L.take n++ins (Tr.one h b,t0) bg (n+1) ((L.drop (n+1)).take i)=S at lS;have im1:∀{p:Tr×L2.T},Wf O p.1->p.2.im=O->(ldT p).im=true:=λ{p} w1 w2=>by
    show(p.1.t.im&&(p.2.im&&O))=O;rw[w1.imt,w2];rfl
   refine(_,U,?_);have a5:∀{b:Bool},inT (ϖ ((n:Int)+1+(i:Int))) (bg.map λ(m:Nat)=>ϖ (m:Int))=b->decide (n+1+i∈bg)=b:=λ{b} h=>by rw[<- h,ei,Fh]
   refine(by rw[FF];rfl,aC (λz=>?_) λz=>?_)
   ·rw[if_pos (of_decide_eq_true (a5 z))];refine(aH (by rw[e7];omega),_,g3,im1 wc g2,aH (by rw[mS,e7];show _+1<=_;omega),_,(by rw[ei];exact ed),im1 wd aT,Sl.r (ϖ ((n:Int)+1+(i:Int))),?_);show([_,_,_,_,_,_,_,_,_]:Sq)=_;rw[pq,wh];rfl
   rw[if_neg (λq=>z (by have:=a5 (b:=ϊ);exact(Bool.eq_false_or_eq_true _).resolve_right λy=>absurd q (of_decide_eq_false (this y))))];refine(aH (by rw[e7];omega),_,(by rw[ei];exact ed),im1 wd aT,Sl.r (ϖ ((n:Int)+1+(i:Int))),?_);show([_,_,_,_,_,_,_,_,_]:Sq)=_;rw[pq];rfl
  rintro q ⟨o8,rfl⟩;have lr:(yK ((n:Int)+1) (((L.map ldT).length:Int)-((n:Int)+1)).toNat).length=(L.drop (n+1)).length:=by rw[cv,yb,aP];omega
  rw[lr,uj];have m0:=m.w.eC;have eM:(L.take n++ins (Tr.one h b,t0) bg (n+1) (L.drop (n+1))).map (·.1)=A++(b ::((b.kids.flatMap λk=>Tr.one h b::k.pre)++B')):=by
   rw[pq,xt,Lh,RI,br,wh,<- p2,S3];rw[show A.length+1=(A++[Tr.one h b]).length by rw[mS];rfl,<- wh A,List.drop_left];rw[m0];have e2:=kL (x:=Tr.one h b) (bg:=bg) (p:=(A++[Tr.one h b]).length) (l:=[b]) (R:=b.kids.flatMap Tr.pre++B') λj hj z=>by
    have:=uJ j (by rw[bc];exact hj);simp at z;omega
   have e3:=xr (Tr.one h b) (ks:=b.kids) (p:=n+1+1) (TL:=B') wb.kids;rw[bc]at e3;have e2:ins (Tr.one h b) bg (A++[Tr.one h b]).length (b ::(b.kids.flatMap Tr.pre++B'))=b::ins (Tr.one h b) bg ((A++[Tr.one h b]).length+1) (b.kids.flatMap Tr.pre++B'):=e2;show A++ins _ bg _ (b ::(b.kids.flatMap Tr.pre++B'))=_;rw[e2,lA,e3]
  refine hq e a0 _ ?_ ?_
  ·rw[eM,p3,m.we.eC,m.kd,xC];refine p4.app (.cons m.sh (F2.app ?_ (F2.refl p5)));exact F2.ones wb.kids
  intro p hp;obtain z|z:=rh.mp hp
  ·have:=JY z;exact(TL.w.ji _ (by rw[<- hL];exact sd.mpr (p,this,U)),hi p this)
  obtain rfl|z:=Ax z
  ·exact(wc,g2)
  have:=RO z;exact(TL.w.ji _ (by rw[<- hL];exact sd.mpr (p,this,U)),hi p this)
inductive Ie(a:Adr)(ts:ώ)(Q:ϐ)(W:QW):Prop
 |mk(ks:ϑ)(fs:ϓ)(f n:Nat)(d c:Tr)(fn:Fn)(h1:ts=[tPr ks fs,.i (f:Int),.i (n:Int)])(h2:FnB fs f d)(h3:ϔ (fs.map tF)=O)(h4:d.pre[n]?=Z c)(h5:(∀x∈d.pre,x.nms.length<=50000))(h6:fs[f]?=Z fn)(h7:fs.length<=8)(h8:(mv c=Y->W a.ck [] []))(h9:∀e,mv c=Z e->Q (tPr ks (fs.set f (fn.1,(d.put n e).t,fn.2.2))))
theorem EO(T:Txt K mg a):aS P w K mg base (CX1 P w) 9 a.oI a.AO ["program","f","n"] (yt K (Ie a)):=by
 refine T.A9.F.OC Dr (λts Q W h=>?_) (λ_ _ _ _ _ _ hr=>?_)
 ·let(ks,fs,f,n,d,c,fn,U,_):=h;rfl
 have hu:=a7 hr;refine(_,_,((iE (HJ (wo (uR T) (hr.mono bd) U T.fC.m T.fC.F.kp T.fC.b (sG (qv 0) (sG (qv 1) (wx (wo (zf T) (hr.mono bd) U T.jh.m T.jh.F.kp T.jh.b (wx (N7 (rR T) hr T.lJ (ae (qv 0) (ae (qv 1) (ae (qv 2) av)))) (DV av))) (DV av)))))))),λts Q W h=>?_);let(ks,fs,f,n,d,c,fn,U,TL,q,z,g,hf,h8,hx,hq):=h;refine(ks,fs,f,n,d,c,U,TL,q,z,g,hx,λe he L hL hw=>?_);let(h',b',m):=p9 (TL.w.ji c (nZ z)) he;have TC:=eB TL.w m.we z;have lp:(d.put n e).pre.length<=50000:=by let(A,A',B',p1,p2,p3,V,p5):=TC.pr;have l1:=congrArg zN p1;have l2:=m.len;have l3:=V.len;have l4:=TL.ln;rw[p3];simp only[mS]at l1 ⊢;omega
 exact(L,d.put n e,U,TC.wf,hL,hw,lp,ks,fs,f,fn,(d.put n e).t,U,hf,TL.im,TC.wf.imt,h8,hq e he)
inductive BF(ts:ώ)(Q:ϐ):Prop
 |mk(d:Tr)(h1:ts=[d.t])(h2:Wf O d)(h3:d.kids.length<=50000)(h4:Q (.l (d.kids.map Tr.t)))
theorem pZ(T:Txt K mg a):aS P w K mg base CX0 1 a.jf a.sX [Zp] (spQ K BF):=by
 refine T.mV.F.okQ yy (λ_ _ _ _ _ _ hr=>?_);have V:=a7 hr;refine(_,_,((ag (aM (bx V (ao (qv 0) ah) (Za aF))
(ai (aD (aL aj)))
aA)
(ag (aM (bx V (ao (qv 0) ah) (Za aF))
(ai (aD (b6 U (iH (ao (qv 0) ah)) (N':=["_law_arm"]) (.own U .nil) (bX (g:=(Tg.nm 0)) (λ_ _ _ _ _=>((cz 0),(Zb (ao (qv 0) ah))))))))
aA)
(ai (aD (aL (af (Zb (ao (qv 0) (Za (fM ah)))) aj))))))),λts Q h=>?_)
 let(d,U,w,hl,hq):=h;cases w.vw with
 |giv x=>exact(_,bY,U,aC (λ_=>hq) (λz=>absurd (st U) z))|one wd r b wb ho et n1 n2 =>rw[et];refine(_,bY,U,aC (λz=>absurd z n1) λ_=>(_,bY,U,aC (λz=>absurd z n2) λ_=>(_,iV (ts:=.s wd::r),wb.imt,hq)))|cas x A wa =>
  refine(_,U,U,aC (λz=>absurd z (sf bn)) λ_=>(_,U,U,aC (λ_=>?_) λz=>absurd (st U) z));have q:=d7 wa;have hl:A.bs.length<=50000:=hl;refine(_,U,aH (by rw[q];omega),λi ys=>ys=(A.bs.take i).map Tr.t,U,?_,?_)
  ·rintro i y ys hy rfl;let(m,ns,b,U,hb,wb):=qV wa hy;refine(_,U,_,U,wb.imt,?_);rw[ui,hb,pq];rfl
  rintro ys rfl;rw[q,uj];exact hq
inductive BB(N:Nat)(ts:ώ)(Q:ϐ):Prop
 |mk(d:Tr)(h1:ts=[d.t])(h2:Wf O d)(h3:cp N d)(h4:d.pre.length<=50000)(h5:Q (.l (d.pre.map Tr.t)))
theorem EX(w:Wf O d)(h:cp 0 d):False:=by have:=w.dep h;cases w <;>(obtain⟨x,e⟩|⟨x,e⟩:=this <;> cases e)
theorem Em{k:Tr}(w:Wf O d)(h:k∈d.kids):k.pre.length<d.pre.length:=by rw[w.eC,p7];let(A,TL,e):=List.append_of_mem h;rw[e,yc,x2];simp only[mS];omega
theorem jO(T:Txt K mg a)(N:Nat):aS P w K mg base CX0 (N+2) a.je a.sW [Zo] (spQ K (BB N)):=by
 induction N with
 |zero =>refine never λts Q hh=>?_;let(d,U,w,hd,_):=hh;exact EX w hd|succ N dz =>
  refine T.gj.F.okQ jC (λ_ _ _ _ _ _ hr=>?_);have hu:=a7 hr;refine(_,_,((ag (ax 1 jC.nd (aL (af (Zb (qv 0)) aj)))
(ag (bC (g:=(Tg.nm 2)) PassesOwn.never U (z9 (aK (pZ T) hr T.mV (ae (qv 0) av))) (bo 2 jC.nd)
(ai (mh (i:=1) (pv 1) (aK dz hr T.gj (ae (qv 2) av)))))
(ai (dY (i:=1) (pv 1)))))),λts Q h=>?_)
  let(d,U,w,hd,hl,hq):=h;have hk:=w.Pg hd;have lk:d.kids.length<d.pre.length:=by have:=jS w.kids;rw[w.eC,p7];omega
  refine(w.imt,d,U,w,bd,λi q=>∃o2,q=[.r d.t,.o (.l (((d ::(d.kids.take i).flatMap Tr.pre)).map Tr.t)),o2],(_,U),?_,?_)
  ·rintro i y q hy ⟨o2,rfl⟩;rw[kf]at hy;let(k,V,U):=mU.mp hy;have z:=nZ V;refine(_,U,?_);have lt:(d ::(d.kids.take i).flatMap Tr.pre).length<=50000:=by have h1:=congrArg (λl=>(l.flatMap Tr.pre).length) (Ru i d.kids);have h2:=congrArg zN w.eC;simp only[yc,mS,p7]at h1 h2 ⊢;omega
   have aN:=Em w z;refine(k,U,w.kids k z,hk k z,bd,x9 (aH (by rw[e7,e7];omega)),.r k.t,?_);rw[ui,V];show([_,_,_]:Sq)=_;rw[<- pq,yc,show(Z k).toList.flatMap Tr.pre=k.pre from u3 _];rfl
  rintro q ⟨o2,rfl⟩;rw[e7,uj,<- w.eC];exact hq
inductive LU:Tr->Prop
 |use{w x m:Str}{ns:Γ}{b:L2.T}{d:Tr}:(w="make" \/ w="call")->d.t=.t [.s w,.s x,.s m,.t (ns.map .s),b]->d.nms=ns->LU d|no{w:Str}{x1:L2.T}{R:ώ}{d:Tr}:w ≠ "make"->w ≠ "call"->d.t=.t (.s w::x1::R)->("name"=w->∃y R',R=.s y::R'/\d.nms=[y])->("give"=w \/ "case"=w->∃x,x1=.s x/\d.nms=[x])->("name" ≠ w->"give" ≠ w->"case" ≠ w->d.nms=[])->LU d
theorem Wf.lu(w:Wf O d):LU d:=by
 cases w with
 |giv=>exact .no bn bn U (λh=>absurd h bn) (λ_=>(_,U,U)) (λ_ h=>absurd U h)|cas wa=>exact .no bn bn U (λh=>absurd h bn) (λ_=>(_,U,U)) (λ_ _ h=>absurd U h)|@one h b ho wb =>
  have et:(Tr.one h b).t=.t (h++[b.t]):=by show ϗ (h++b.l)=_;rw[wb.l1]
  cases ho with
  |@cj w c hw =>
   have n1:∀{v:Str},v ≠ "pay"->v ≠ "get"->w≠v:=λ{v} h1 h2 e=>by obtain z|z:=hw <;>(rw[<- e,z]at h1 h2;first|exact h1 rfl|exact h2 U)
   have n2:∀{v:Str},v ≠ "pay"->v ≠ "get"->v≠w:=λh1 h2 e=>n1 h1 h2 e.symm;exact .no (n1 bn bn) (n1 bn bn) et (λh=>absurd h (n2 bn bn))
    (λh=>h.elim (λh=>absurd h (n2 bn bn)) λh=>absurd h (n2 bn bn)) (λ_ _ _=>rfl)
  |name=>exact .no bn bn et (λ_=>(_,_,U,U)) (λh=>h.elim (λh=>absurd h bn) λh=>absurd h bn) (λh=>absurd U h)|use hw=>exact .use hw et (sA _)
theorem OI{a b c w:Str}{x y z:L2.T}(ab:a≠b)(ac:a≠c)(g:b≠c):bK (cm [] [(.inr a,x),(.inr b,y),(.inr c,z)]) (.inr w)=if a=w then Z x else if b=w then Z y else if c=w then Z z else none:=by
 have e:cm [] [(.inr a,x),(.inr b,y),(.inr c,z)]=[((.inr a:Key),x),(.inr b,y),(.inr c,z)]:=by simp[cm,ml,ab,ac,g]
 rw[e];unfold bK;simp only[Nu,Sum.inr.injEq];by_cases h1:a=w
 ·simp[h1]
 by_cases h2:b=w
 ·simp[h1,h2]
 by_cases h3:c=w <;> simp[h1,h2,h3]
theorem F7{x y:L2.T}{R:ώ}:cg (x::y::R) (Z 2) (Z 3)=R.take 1:=by unfold cg;rw[show(2:Int)=((2:Nat):Int)from U,show(3:Int)=((3:Nat):Int)from U,HT.kj,HT.kj];cases R with|nil=>rfl|cons z r =>have q:min 2 (x::y::z::r).length=2:=QG ap;have g:min 3 (x::y::z::r).length=3:=QG ap;rw[q,g];rfl
inductive Ig(ts:ώ)(Q:ϐ):Prop
 |mk(d:Tr)(h1:ts=[d.t])(h2:Wf O d)(h3:Q (.zl (d.nms.map .s)))
theorem ER(T:Txt K mg a):aS P w K mg base CX0 1 a.oJ a.AQ [Zp] (spQ K Ig):=by
 refine T.Ba.F.okQ Ds (λ_ _ _ _ _ _ hr=>?_);have hu:=a7 hr;refine(_,_,((ag (aM (a4 (jN U) ik U (ao (qv 0) ah) (Za (ar (fe be))))
(ai (aD (kq (aQ (mL U) lY be T.mM bv (ae (ao (qv 0) ah) av)))))
aA)
(ai (aD (Zb (Ac hu (Za (DR (h16:=SY U) (pI (Za aF) (Za (kq (aQ (mL U) lY be T.mM bv (ae (Za (aZ (qv 0) (a9 ah) (a9 ah))) av)))) (pI (Za aF) (Za (kq (aL (af (Zb (ao (qv 0) ah)) aj)))) (pI (Za aF) (Za (kq (aL (af (Zb (ao (qv 0) ah)) aj)))) HN))))) (ao (qv 0) ah) (Za (kq (aL aj))))))))),λts Q h=>?_)
 let(d,U,w,hq):=h;have im:=w.imt;have pl:=w.pl;rw[w.l1]at pl;cases w.lu with
 |@use w x m ns b _ hw et en =>
  rw[et]at im pl ⊢;rw[en]at hq;refine(_,bY,(cB ["make","call"]),aC (λ_=>(_,U,ay ns,mx ns,hq)) λz=>absurd ?_ z);show inT (.s w) ((["make","call"]:Γ).map ϕ)=O;rw[bA,de];obtain rfl|rfl:=hw
  ·exact iY
  exact mm _ iY
 |@no w x1 R _ n1 n2 et c1 c2 c3 =>
  rw[et]at im pl ⊢;refine(_,bY,(cB ["make","call"]),aC (λz=>?_) λ_=>?_)
  ·have z:inT (.s w) ((["make","call"]:Γ).map ϕ)=true:=z;rw[bA,de]at z;obtain z|z:=ot.mp z
   ·exact absurd z n1
   exact absurd (fy.mp z) n2
  have im1:(O&&(x1.im&&ϔ R))=true:=im;have g:((O&&(x1.pln&&L2.T.dR R))&&O)=true:=pl;rw[Sg,ri]at im1;rw[Bool.and_true,Sg,ri]at g;have i0:=im1.1;have p0:L2.T.dR [x1]=true:=by show(x1.pln&&O)=O;rw[g.1];rfl
  have i1:ϔ (R.take 1)=true:=by cases R with|nil=>rfl|cons z r =>have:=im1.2;have:(z.im&&ϔ r)=true:=this;rw[ri]at this;show(z.im&&O)=O;rw[this.1];rfl
  have p1:L2.T.dR (R.take 1)=true:=by cases R with|nil=>rfl|cons z r =>have:=g.2;have:(z.pln&&L2.T.dR r)=true:=this;rw[ri]at this;show(z.pln&&O)=O;rw[this.1];rfl
  refine(im,?_,?_,?_,?_)
  ·rw[F7];exact i1
  ·rw[F7];exact p1
  ·rfl
  rw[F7];have hv:((bK (cm [] [(.inr "name",.zl (R.take 1)),(.inr "give",.zl [x1]),(.inr "case",.zl [x1])]) (.inr w)).getD (.zl []))=L2.T.zl (d.nms.map .s):=by
   rw[OI bn bn bn];by_cases h1:"name"=w
   ·let(y,R',V,q):=c1 h1;rw[if_pos h1,V,q];rfl
   rw[if_neg h1];by_cases h2:"give"=w
   ·let(y,V,q):=c2 (.inl h2);rw[if_pos h2,V,q];rfl
   rw[if_neg h2];by_cases h3:"case"=w
   ·let(y,V,q):=c2 (.inr h3);rw[if_pos h3,V,q];rfl
   rw[if_neg h3,c3 h1 h2 h3];rfl
  have fin:(λt:L2.T=>t.im=O/\(cI.fn Q).rt t) ((bK (cm [] [(.inr "name",.zl (R.take 1)),(.inr "give",.zl [x1]),(.inr "case",.zl [x1])]) (.inr w)).getD (.zl [])):=by rw[hv];exact(U,hq)
  exact(_,AZ,i0,p0,U,_,AZ,i0,p0,U,_,bY,U,fin)
inductive wH(ts:ώ)(Q:ϐ):Prop
 |mk(ks:ϑ)(fs:ϓ)(f n:Nat)(d c:Tr)(fn:Fn)(h1:ts=[tPr ks fs,.i (f:Int),.i (n:Int)])(h2:FnB fs f d)(h3:ϔ (fs.map tF)=O)(h4:d.pre[n]?=Z c)(h5:(∀x∈d.pre,x.nms.length<=50000))(h6:fs[f]?=Z fn)(h7:fs.length<=8)(h8:(mv c=Y->Q .n))(h9:∀e,mv c=Z e->Q (tPr ks (fs.set f (fn.1,(d.put n e).t,fn.2.2))))
theorem BQ(T:Txt K mg a):aS P w K mg base CX0 10 a.kP a.xJ [Zq,Zf,Zk] (spQ K wH):=by
 refine T.rB.F.okQ i9 (λ_ _ _ _ _ _ hr=>?_);have hu:=a7 hr;refine(_,_,((ag (ax 3 i9.nd c7)
(ag (Lm (λ_ _=>(iE (HI (i:=3) i9.nd U (Or.inl U) (N7 (EO T) hr T.A9 (ae (qv 0) (ae (qv 1) (ae (qv 2) av)))))))
(Ls U U T.mE T.j7 (λ_=>(ai (ax 3 i9.nd c7)))
DQ))
(ai (aD (Zb (qv 3))))))),λts Q h=>?_)
 let(ks,fs,f,n,d,c,fn,U,TL,q,V,g,hf,h8,hx,hq):=h;refine(ks,fs,f,n,d,c,fn,U,TL,q,V,g,hf,h8,λh=>?_,λe he=>?_)
 ·refine(_,_,T.j7,?_);rw[if_pos ap];exact(U,hx h)
 refine(?_,hq e he);let(h',b',m):=p9 (TL.w.ji c (nZ V)) he;have TC:=eB TL.w m.we V;show((tKs ks).im&&(ϔ _&&O))=O;rw[iN,eQ λx hx=>?_]
 ·rfl
 obtain z|z:=Nz hx
 ·exact TL.im x z
 rw[z];exact TC.wf.imt
def putK(n:Nat)(e:Tr):Nat->List Tr->List Tr
 |_,[]=>[]|p,k::r=>(if p<=n/\n<p+k.pre.length then k.put (n-p) e else k)::putK n e (p+k.pre.length) r
theorem pN{n:Nat}{e:Tr}:∀{p:Nat}{l:List Tr},(putK n e p l).length=l.length
 |_,[]=>rfl|_,_::_=>congrArg (· + 1) pN
theorem sI{n:Nat}{e k:Tr}:∀{p:Nat}{l:List Tr},putK n e p (l++[k])=putK n e p l++[if p+(l.flatMap Tr.pre).length<=n/\n<p+(l.flatMap Tr.pre).length+k.pre.length then k.put (n-(p+(l.flatMap Tr.pre).length)) e else k]
 |p,[]=>rfl|p,y::r=>by
  show _::putK n e (p+y.pre.length) (r++[k])=_ ::(putK n e (p+y.pre.length) r++_);rw[sI,x2,mS,S6 p]
theorem Ag{n:Nat}{e:Tr}(he:Wf O e):∀{p:Nat}{l:List Tr},(∀k∈l,Wf O k)->∀k∈putK n e p l,Wf O k
 |_,[],_,_,h=>nomatch h
 |p,y::r,w,k,h=>by
  obtain z|z:=ot.mp h
  ·rw[z];split
   ·rename_i g;have:y.pre[n-p]?=Z y.pre[n-p]:=mu bd;exact(eB (w y iY) he this).wf
   exact w y iY
  exact Ag he (λx hx=>w x (mm _ hx)) k z
theorem Ah{n:Nat}{e:Tr}:∀{p:Nat}{l:List Tr},n<p->putK n e p l=l
 |_,[],_=>rfl|p,y::r,h=>by
  show(if _ then _ else _)::putK n e _ r=_;rw[if_neg bd,Ah bd]
theorem LF{a:Tr}(w:Wf ϊ a):∀{p:Nat},p<=n->a.put (n-p) e=a.wa (putK n e p a.bs):=by
 induction a with
 |arm m ns b r _ g =>
  cases w with
  |arm w1 w2 =>
   intro p hp;show(if n-p<b.pre.length then _ else _)=Tr.arm m ns (if _ then _ else _) (r.wa (putK n e (p+b.pre.length) r.bs));by_cases h:n-p<b.pre.length
   ·rw[if_pos h,if_pos bd,Ah bd,w2.sa.wa]
   rw[if_neg h,if_neg bd,<- g w2 bd,Nat.sub_sub]
 |nil=>intro p _;rfl
 |_=>cases w
theorem LD(w:Wf O d)(h:n<d.pre.length)(h0:n≠0):d.put n e=d.wb (putK n e 1 d.kids):=by cases w with|giv=>exact absurd h (by show ¬ n<1;omega)|@one g b _ wb =>have h:n<b.pre.length+1:=h;show(if n=0 then e else .one g (b.put (n-1) e))=.one g (if 1<=n/\n<1+b.pre.length then b.put (n-1) e else b);rw[if_neg h0,if_pos bd]|@cas x a wa =>show(if n=0 then e else .cas x (a.put (n-1) e))=.cas x (a.wa (putK n e 1 a.bs));rw[if_neg h0,LF wa bd]
theorem Bo{x:Int}(V:∀R,R (.i x)->qa q R)(P:∀R,R (.i y)->qb q R)(K:∀R,R (.i z)->qc q R)(h1:x<=y->y<z->Q O)(h2:¬(x<=y/\y<z)->Q ϊ):
  c8 (jI (qI0 λi j=>L2.T.b (decide (i<=j))) (qI0 λi j=>L2.T.b (decide (i<j))) qa qb qc) q Q:=by
 unfold c8 jI;refine V _ (P _ ?_);show(if decide (x<=y)=O then _ else _);by_cases h:x<=y
 ·rw[if_pos (decide_eq_true h)];refine K _ ?_;show Q (decide (y<z));by_cases g:y<z
  ·rw[decide_eq_true g];exact h1 h g
  rw[decide_eq_false g];exact h2 λe=>g e.2
 rw[if_neg (λe=>h (of_decide_eq_true e))];exact h2 λe=>h e.1
inductive LQ(N:Nat)(ts:ώ)(Q:ϐ):Prop
 |mk(d e:Tr)(n:Nat)(h1:ts=[d.t,.i (n:Int),e.t])(h2:Wf O d)(h3:Wf O e)(h4:cp N d)(h5:n<d.pre.length)(h6:d.pre.length<=50000)(h7:Q (d.put n e).t)
theorem IK(T:Txt K mg a)(N:Nat):aS P w K mg base CX0 (N+3) a.vm a.FR [Zo,Zk,Zx] (spQ K (LQ N)):=by
 induction N with
 |zero =>refine never λts Q hh=>?_;let(d,e,n,U,w,we,hd,_):=hh;exact EX w hd|succ N zM =>
  refine T.zQ.F.okQ fc (λ_ _ _ _ _ _ hr=>?_);have hu:=a7 hr;refine(_,_,((ag (aM (bx hu (qv 1) ah)
(ai (aD (Zb (qv 2))))
aA)
(ag (ax 3 fc.nd bP)
(ag (ax 4 fc.nd (aL aj))
(ag (bC (g:=(Tg.nm 5)) PassesOwn.never U (z9 (aK (pZ T) hr T.mV (ae (qv 0) av))) (bo 5 fc.nd)
(ag (ax 6 fc.nd (a6 T.bB (ae (Za (aK (jO T N) hr T.gj (ae (qv 5) av))) av)))
(ag (aM (pE EL (fF (g':=λi j=>.b (decide (i<=j))) λ_ _ _ _=>.b _) An (fF (g':=λi j=>.b (decide (i<j))) λ_ _ _ _=>.b _) (qv 3) (qv 1) (Za (aJ (qv 3) (qv 6))))
(ai (ax 5 fc.nd (aK zM hr T.zQ (ae (qv 5) (ae (Za (yP (qv 1) (qv 3))) (ae (qv 2) av))))))
aA)
(ag (ax 3 fc.nd (aJ (qv 3) (qv 6)))
(ai (bF (i:=4) (pv 4) (Zb (qv 5))))))))
(ag (aM (a4 kC gw (bb _) (ao (qv 0) ah) (Za aF))
(ai (aD (aJ (Za (aZ (qv 0) bj (a9 (Za (fM ah))))) (Za (ar (af (Zb (ao (qv 4) ah)) aj))))))
aA)
(ag (gC (i:=7) fc.nd U (Or.inl U) U (Aa U T.xQ bv (ae (ao (qv 0) ah) (ae (qv 4) av))) (N':=["_law_arm","_law_inner"]) (.own U (.own U .nil)) (bX (g:=(Tg.tp [0,1])) (λ_ _ _ _ _=>((dy (cz 0) (cz 1)),(aJ (Za (aZ (qv 0) bj (a9 ah))) (Za (ar (af (Zb (qv 1)) aj))))))))
(ai (aD (aJ (Za (aZ (qv 0) bj (a9 ah))) (Za (ar (af (aQ (bG U) bE be T.cH bv (ae (qv 7) av)) aj))))))))))))),λts Q h=>?_)
  let(d,e,n,U,w,we,hd,hn,hl,hq):=h;have hk:=w.Pg hd;have lk:d.kids.length<d.pre.length:=by have:=jS w.kids;rw[w.eC,p7];omega
  refine(U,aC (λz=>?_) λz=>?_)
  ·have z:(n:Int)=0:=V.int.inj (of_decide_eq_true z);obtain rfl:n=0:=bd;have e0:d.put 0 e=e:=by cases w <;> exact if_pos U
   rw[e0]at hq;exact(we.imt,hq)
  have n0:n≠0:=λh=>z (by rw[h];exact decide_eq_true U);rw[LD w hn n0]at hq;refine(d,U,w,bd,λi q=>∃o5 o6:Sl,q=[.r d.t,.r (.i (n:Int)),.r e.t,.o (.i ((1+((d.kids.take i).flatMap Tr.pre).length:Nat):Int)),.o (.l ((putK n e 1 (d.kids.take i)).map Tr.t)),o5,o6,.no],(_,_,U),?_,?_)
  ·rintro i y q hy ⟨o5,o6,rfl⟩;rw[kf]at hy;let(k,a3,U):=mU.mp hy;have aN:=nZ a3;have wk:=w.kids k aN;have ck:=Em w aN;have hL:((d.kids.take i).flatMap Tr.pre).length<=50000:=by have h1:=congrArg (λl=>(l.flatMap Tr.pre).length) (Ru i d.kids);have h2:=congrArg zN w.eC;simp only[yc,mS,p7]at h1 h2 ⊢;omega
   have es:d.kids.take (i+1)=d.kids.take i++[k]:=by rw[ui,a3];rfl
   have b0:1+((d.kids.take (i+1)).flatMap Tr.pre).length=1+((d.kids.take i).flatMap Tr.pre).length+k.pre.length:=by rw[es,yc,mS,x2,Sd,u3];omega
   have bc:=sI (n:=n) (e:=e) (k:=k) (p:=1) (l:=d.kids.take i);rw[<- es]at bc;rw[b0,bc];have lS:(putK n e 1 (d.kids.take i)).length<=50000:=by rw[pN,vM];omega
   generalize putK n e 1 (d.kids.take i)=S at lS;generalize 1+((d.kids.take i).flatMap Tr.pre).length=p at hL;refine(_,U,k,U,wk,hk k aN,bd,?_);have lm:((k.pre.map Tr.t).length:Int)=k.pre.length:=by rw[e7]
   dsimp only[dq,wC,cI.seq];unfold ic mj;refine Bo (x:=(p:Int)) (y:=(n:Int)) (z:=(p:Int)+(((k.pre.map Tr.t).length:Nat):Int)) (λ_ h=>h) (λ_ h=>h) (λ_ h=>h) (λg1 g2=>?_) λg=>?_
   ·have aT:p<=n/\n<p+k.pre.length:=by rw[lm]at g2;omega
    rw[if_pos aT];refine(k,e,n-p,?_,wk,we,hk k aN,bd,bd,?_)
    ·show([_,_,_]:ώ)=_;rw[show((n-p:Nat):Int)=(n:Int)-p by omega]
    have wz:Wf O (k.put (n-p) e):=(eB wk we (mu (show n-p<k.pre.length by omega))).wf;refine(aH (by rw[e7];omega),wz.imt,.o (k.put (n-p) e).t,.o (.i (((k.pre.map Tr.t).length:Nat):Int)),?_);show([_,_,_,Sl.o (.i ((p:Int)+(((k.pre.map Tr.t).length:Nat):Int))),_,_,_,_]:Sq)=_;rw[lm,pq];rfl
   have aT:¬(p<=n/\n<p+k.pre.length):=by rw[lm]at g;omega
   rw[if_neg aT];refine aC (λz=>absurd z am) λ_=>(aH (by rw[e7];omega),wk.imt,.r k.t,.o (.i (((k.pre.map Tr.t).length:Nat):Int)),?_);show([_,_,_,Sl.o (.i ((p:Int)+(((k.pre.map Tr.t).length:Nat):Int))),_,_,_,_]:Sq)=_;rw[lm,pq];rfl
  rintro q ⟨o5,o6,rfl⟩;rw[e7,uj];have wK:=Ag (n:=n) (p:=1) we w.kids;have lK:(putK n e 1 d.kids).length=d.kids.length:=pN;generalize putK n e 1 d.kids=bs at wK lK hq;cases w.vw with
  |giv x=>exact absurd hn (by show ¬ n<1;omega)|one wd r b wb ho et n1 n2 =>
   rw[et];obtain⟨y,rfl⟩:∃y,bs=[y]:=by
    cases bs with
    |nil=>cases lK
    |cons y ys=>cases ys with|nil=>exact(y,U)|cons _ _=>cases lK
   refine(_,bY,U,aC (λ_=>?_) λz=>absurd ?_ z)
   ·have im:ϔ (.s wd ::(r++[b.t]))=true:=by have:=(Wf.one ho wb).imt;rw[et]at this;exact this
    have ec:cg (.s wd ::(r++[b.t])) Y (Z (-1))=.s wd::r:=kZ (ts:=.s wd::r);have wy:=wK y iY;refine(im,?_);simp only[ec];refine(_,bY,wy.imt,?_);have cj:(Tr.one (.s wd::r) y).t=.t ((.s wd::r)++[y.t]):=by show ϗ (_++y.l)=_;rw[wy.l1]
    have hq:Q (Tr.one (.s wd::r) y).t:=hq;rw[cj]at hq;have bR:=ho.len;rw[p7]at bR;exact(x9 (aH (by rw[p7];show _+1<=_;omega)),ho.im,(by show(y.t.im&&O)=O;rw[wy.imt];rfl),hq)
   rw[RL];exact RK.mpr n2
  |cas x A wa =>
   refine(_,U,U,aa ?_);have lA:=d7 wa;have aP:bs.length=A.bs.length:=lK;have lz:(lO A.l (bs.map Tr.t)).length=bs.length:=by rw[cZ,e7,lA];omega
   refine(_,U,A.l,bs.map Tr.t,U,?_);refine(aH (by rw[lz];omega),λi ys=>ys=(A.wa bs).l.take i,U,?_,?_)
   ·rintro i y ys hy rfl;let(y1,y2,h1,h2,U):=gs hy;let(m,ns,b,U,hb,wb):=qV wa h1;rw[kf]at h2;let(b2,a5,U):=mU.mp h2;have a0:=wK b2 (nZ a5);have bz:ϔ [.s m,.t (ns.map .s)]=true:=by show(O&&(ϔ (ns.map .s)&&O))=O;rw[ay];rfl
    have br:ϔ [.s m,.t (ns.map .s),b.t]=true:=by show(O&&(ϔ (ns.map .s)&&(b.t.im&&O)))=O;rw[ay,wb.imt];rfl
    refine(_,U,br,a0.imt,(by show 2+1<=p6;decide),bz,(by show(b2.t.im&&O)=O;rw[a0.imt];rfl),?_);rw[ui,CJ wa aP wK h1 a5];rfl
   rintro ys rfl;have lw:(A.wa bs).l.length=bs.length:=by let(q1,q2,q3):=sx wa aP wK;rw[d7 q3,q2]
   rw[lz,<- lw,uj];have q3:=(sx wa aP wK).2.2;have bg:=wa.im;refine((by show(O&&(O&&(ϔ A.l&&O)))=O;rw[bg];rfl),q3.im,(by show 2+1<=p6;decide),U,(by show(ϔ _&&O)=O;rw[q3.im];rfl),hq)
theorem AB{t:QT}{i:Nat}{qe:QE}{D:cI}{v:L2.T}(b:Bool)(g:∀R,R b->t q R)(h1:b=O->∀R:ϐ,R v->qe q R)(h2:b=ϊ->q[i]?=Z (.o v))(hr:rest D (q.set i (.o v))):(D.seq (ic (mj t (pM i qe) kr) rest)).nx q:=by
 show ic (mj t (pM i qe) kr) rest D q;unfold ic mj;refine g _ ?_;cases b with
 |true=>exact h1 U _ hr|false =>
  have e:q.set i (.o v)=q:=by let(hi,e):=mT.mp (h2 U);rw[<- e];exact R9 hi
  rw[e]at hr;exact hr
inductive LS(N:Nat)(ts:ώ)(Q:ϐ):Prop
 |mk(ks:ϑ)(fs:ϓ)(f n:Nat)(d c:Tr)(fn:Fn)(h1:ts=[tPr ks fs,.i (f:Int),.i (n:Int)])(h2:FnB fs f d)(h3:ϔ (fs.map tF)=O)(h4:d.pre[n]?=Z c)(h5:cp N d)(h6:fs[f]?=Z fn)(h7:fs.length<=8)(h8:(mv c=Y->Q .n))(h9:∀e,mv c=Z e->Q (tPr ks (fs.set f (fn.1,(d.put n e).t,fn.2.2))))
theorem IM(T:Txt K mg a)(N:Nat):aS P w K mg base CX0 (N+4) a.vn a.FU [Zq,Zf,Zk] (spQ K (LS N)):=by
 refine T.GC.F.okQ dX (λ_ _ _ _ _ _ hr=>?_);have hu:=a7 hr;refine(_,_,((ag (pH (g:=(Tg.tp [3,4])) (qv 0) (dy (bo 3 dX.nd) (bo 4 dX.nd)))
(ag (ax 5 dX.nd (Zb (ao (ao (qv 4) (qv 1)) ah)))
(ag (ax 6 dX.nd (Zb (ao (Za (aK (jO T N) hr T.gj (ae (qv 5) av))) (qv 2))))
(ag (aM (a4 (sJ U) ik U (ao (qv 6) ah) (Za (ar (fe be))))
(ai (aD c7))
aA)
(ag (ax 7 dX.nd (Zb (ao (qv 6) (Za (fM ah)))))
(ag (aM (QPW.pt (wq (bx hu (ao (qv 7) ah) (Za aF)) (uy (a4 (jN U) Hs U (ao (qv 6) ah) (Za (aK (ER T) hr T.Ba (ae (qv 7) av)))))))
(ai (aD c7))
aA)
(ag (ax 8 dX.nd (aJ (Za (aZ (qv 7) bj (a9 (Za (fM ah))))) (Za (ar (af (aJ (Za (aZ (qv 6) bj (a9 (Za (fM ah))))) (Za (ar (af (Zb (ao (qv 7) (Za (fM ah)))) aj)))) aj)))))
(ag (aM (bx hu (ao (qv 7) ah) (Za aF))
(ai (ax 8 dX.nd (aJ (Za (aZ (qv 7) bj (a9 ah))) (Za (ar (af (aQ (bG U) bE be T.cH bv (ae (Za (b6 U (iH (ao (qv 7) ah)) (N':=["_law_arm",Zp]) (.own U (.got (i:=6) U U (.inl U) .nil)) (bX (g:=(Tg.nm 0)) (λ_ _ _ _ _=>((cz 0),(aJ (Za (aZ (qv 0) bj (a9 ah))) (Za (ar (af (aJ (Za (aZ (qv 1) bj (a9 (Za (fM ah))))) (Za (ar (af (Zb (ao (qv 0) ah)) aj)))) aj))))))))) av)) aj))))))
aA)
(ag (ax 9 dX.nd (aJ (Za (aZ (ao (qv 4) (qv 1)) bj (a9 ah))) (Za (ar (af (aK (IK T N) hr T.zQ (ae (qv 5) (ae (qv 2) (ae (qv 8) av)))) aj)))))
(ai (aD (ar (af (Zb (qv 3)) (af (aJ (Za (aJ (Za (aZ (qv 4) bj (a9 (qv 1)))) (Za (ar (af (Zb (qv 9)) aj))))) (Za (aZ (qv 4) (a9 (Za (aJ (qv 1) ah))) bj))) aj))))))))))))))),λts Q h=>?_)
 let(ks,fs,f,n,d,c,fn,U,TL,a5,hc,hd,hf,h8,hx,hq):=h;have hn:=(mT.mp hc).1;have wc:Wf O c:=TL.w.ji c (nZ hc);let(c9,c3,ck):=TL.ex;obtain rfl:fn=c9:=Option.some.inj (hf.symm.trans c3);have ef:atI (fs.map tF) (f:Int)=Z (tF fn):=b7 (by rw[kf,hf];rfl);have ec:atI (d.pre.map Tr.t) (n:Int)=Z c.t:=b7 (by rw[kf,hc];rfl);have ln:=TL.ln;have cR:(tPr ks fs).im=true:=by show((tKs ks).im&&(ϔ _&&O))=O;rw[iN,a5];rfl
 refine(cR,_,U,_,ef,_,U,TL.im fn (nZ hf),d,by rw[ck],TL.w,hd,bd,_,ec,wc.imt,?_);have iF:∀{w:Str},w ≠ "make"->w ≠ "name"->(!inT (.s w) ((["make","name"]:Γ).map ϕ))=true:=λ{w} h1 h2=>by
  rw[RL,<- Bool.not_eq_true];intro z;rw[bA,de]at z;obtain z|z:=ot.mp z
  ·exact h1 z
  exact h2 (fy.mp z)
 have iT:∀{w:Str},w="make" \/ w="name"->¬(!inT (.s w) ((["make","name"]:Γ).map ϕ))=true:=λ{w} h=>by
  rw[RL,Bool.not_eq_false,bA,de];obtain rfl|rfl:=h
  ·exact iY
  exact mm _ iY
 have cC:ϔ [.s fn.1.1,.t (fn.1.2.1.map tP),.s fn.1.2.2,fn.2.1]=true:=by show(O&&(ϔ (fn.1.2.1.map tP)&&(O&&(fn.2.1.im&&O))))=O;rw[aW du,TL.im fn (nZ hf)];rfl
 have cF:ϔ [.s fn.1.1,.t (fn.1.2.1.map tP),.s fn.1.2.2]=true:=by show(O&&(ϔ (fn.1.2.1.map tP)&&(O&&O)))=O;rw[aW du];rfl
 have c2:=(mT.mp hf).1;have e1:cg (fs.map tF) Y (Z (f:Int))=(fs.take f).map tF:=by rw[kY (by rw[e7];omega),Lh]
 have e2:cg (fs.map tF) (Z ((f:Int)+1)) Y=(fs.drop (f+1)).map tF:=by unfold cg;rw[show(f:Int)+1=((f+1:Nat):Int)from by omega,HT.kj,HT.pA,e7,QG bd,<- RI,RE (by rw[e7,yb];omega)]
 have e3:cg [.s fn.1.1,.t (fn.1.2.1.map tP),.s fn.1.2.2,fn.2.1] Y (Z 3)=[.s fn.1.1,.t (fn.1.2.1.map tP),.s fn.1.2.2]:=rfl;have b0:ϔ ((fs.take f).map tF)=true:=eQ λx hx=>TL.im x (JY hx);have cE:ϔ ((fs.drop (f+1)).map tF)=true:=eQ λx hx=>TL.im x (RO hx);have aT:∀{b:L2.T},b.im=O->(tF (fn.1,b,fn.2.2)).im=true:=λ{b} hb=>by
  show(O&&(ϔ (fn.1.2.1.map tP)&&(O&&(b.im&&O))))=O;rw[aW du,hb];rfl
 have lA:((fs.take f).map tF).length<=8:=by rw[e7,vM];omega
 have lB:((fs.drop (f+1)).map tF).length<=8:=by rw[e7,yb];omega
 have es:∀b:L2.T,(fs.set f (fn.1,b,fn.2.2)).map tF=(fs.take f).map tF++[tF (fn.1,b,fn.2.2)]++(fs.drop (f+1)).map tF:=λb=>by
  rw[RZ,if_pos c2,pq,E3,wh];rfl
 cases Km wc with
 |no h1 h2 h3 h4 =>simp only[h2];exact(_,bY,cB ["make","name"],aC (λ_=>hx h1) λz=>absurd (iF h3 h4) z)|@yes h b x w r h1 h2 h3 wb ho =>
  have et:(Tr.one h b).t=.t (h++[b.t]):=by show ϗ (h++b.l)=_;rw[wb.l1]
  have eh:h++[b.t]=.s w :: .s x::r:=L2.T.t.inj (et.symm.trans h2);simp only[et];have a0:atI (h++[b.t]) 0=Z (.s w):=by rw[eh];exact bY
  have a1:atI (h++[b.t]) 1=Z (.s x):=by rw[eh];exact AZ
  refine(_,a0,cB ["make","name"],aC (λz=>absurd z (iT h3)) λ_=>?_);refine(_,iV,wb.imt,?_);have bc:cg (h++[b.t]) Y (Z (-1))=h:=kZ;have a3:ϔ (h++[b.t])=true:=by have:=wc.imt;rw[et]at this;exact this
  cases wb.vw with
  |giv z=>exact(_,bY,U,aC (λ_=>aC (λ_=>hx (gL.trans Ar)) λz=>absurd U z) λz=>absurd (st U) z)|one V rr b2 br cL aP n1 n2 =>
   simp only[aP];rw[aP]at a1 bc a3;refine(_,bY,U,aC (λz=>absurd z n1) λ_=>(_,a1,_,by rw[<- aP],wb,cB _,aC (λz=>hx ?_) λz=>?_))
   ·have z:inT (.s x) ((Tr.one (.s V::rr) b2).nms.map ϕ)=true:=z;rw[bA,de]at z;exact gL.trans (zi h1 z)
   have nx:x ∉ (Tr.one (.s V::rr) b2).nms:=λq=>z (by show inT (.s x) (SO ϕ _)=O;rw[bA,de];exact q);have aN:=gL.trans (u6 h1 (λ_ z=>Tr.noConfusion z) nx);let(h',b',m):=p9 wc aN;have ct:cg (.s V ::(rr++[b2.t])) Y (Z (-1))=.s V::rr:=kZ (ts:=.s V::rr);have cj:ϔ (.s V ::(rr++[b2.t]))=true:=by have:=wb.imt;rw[aP]at this;exact this
   refine(cj,a3,?_);simp only[ct,bc];have c1:=cL.len;have c0:=ho.len;rw[p7]at c1;refine(_,iV (ts:=.s V::rr),br.imt,x9 (aH (by show _+1<=_;omega)),ho.im,(by show(b2.t.im&&O)=O;rw[br.imt];rfl),x9 (aH (by rw[p7];show _+1<=_;omega)),cL.im,(by show(ϔ (h++[b2.t])&&O)=O;rw[cA,ho.im];show((O&&(b2.t.im&&O))&&O)=O;rw[br.imt];rfl),?_);have da:(Tr.one (.s V::rr) (.one h b2)).t=.t ((.s V::rr)++[.t (h++[b2.t])]):=by show ϗ ((.s V::rr)++[.t (h++b2.l)])=_;rw[br.l1]
   refine AB (i:=8) (v:=.t ((.s V::rr)++[.t (h++[b2.t])])) ϊ (λR hR=>(_,bY,U,?_)) (λz=>nomatch z) (λ_=>rfl) ?_
   ·show R (decide ((ϕ V).v=(ϕ "case").v));rw[RK.mpr n2];exact hR
   have TC:=eB TL.w m.we hc;let(U,U):=Tr.one.inj m.ec;have dc:=Option.some.inj (aN.symm.trans aN);have hq:=hq _ aN;have we:=m.we;have ee:(Tr.one (.s V::rr) b2).wb ((Tr.one (.s V::rr) b2).kids.map (.one h))=.one (.s V::rr) (.one h b2):=rfl;rw[ee]at hq we TC;refine(_,ef,cC,d,_,n,by rw[<- da,ck],TL.w,we,hd,hn,bd,?_);simp only[e3];have wz:=TC.wf.imt;generalize(d.put n (.one (.s V::rr) (.one h b2))).t=bz at hq wz;refine((by show 3+1<=p6;decide),cF,(by show(bz.im&&O)=O;rw[wz];rfl),iN ks,a5,?_);simp only[e1];refine(aT wz,x9 (aH (by show _+1<=_;omega)),b0,(by show((tF (fn.1,bz,fn.2.2)).im&&O)=O;rw[aT wz];rfl),a5,?_);simp only[e2];refine(x9 (aH (by rw[mS];show _+1+_<=_;omega)),by rw[cA,b0];show(O&&((tF (fn.1,bz,fn.2.2)).im&&O))=O;rw[aT wz];rfl,cE,?_);unfold tPr at hq;rw[es]at hq;exact hq
  |cas y A wA =>
   have aP:(Tr.cas y A).t=.t [.s "case",.s y,.t A.l]:=rfl;simp only[aP];rw[aP]at a1 bc a3;refine(_,bY,U,aC (λz=>absurd z (sf bn)) λ_=>(_,a1,_,U,wb,cB _,aC (λz=>hx ?_) λz=>?_))
   ·have z:inT (.s x) ((Tr.cas y A).nms.map ϕ)=true:=z;rw[bA,de]at z;exact gL.trans (zi h1 z)
   have nx:x ∉ (Tr.cas y A).nms:=λq=>z (by show inT (.s x) (SO ϕ _)=O;rw[bA,de];exact q);have aN:=gL.trans (u6 h1 (λ_ z=>Tr.noConfusion z) nx);let(h',b',m):=p9 wc aN;have iA:=wA.im;have cj:ϔ [.s "case",.s y,.t A.l]=true:=by show(O&&(O&&(ϔ A.l&&O)))=O;rw[iA];rfl
   have ct:cg [ϕ "case",.s y,.t A.l] Y (Z (-1))=[ϕ "case",.s y]:=rfl;refine(cj,a3,?_);simp only[ct,bc];have c0:=ho.len;have cG:ϔ [.t A.l]=true:=by show(ϔ A.l&&O)=O;rw[iA];rfl
   refine(_,iV (ts:=[.s "case",.s y]),(by show ϔ A.l=O;exact iA),x9 (aH (by show _+1<=_;omega)),ho.im,cG,(by show 2+1<=p6;decide),U,(by show(ϔ (h++[.t A.l])&&O)=O;rw[cA,ho.im,cG];rfl),?_);let(U,U):=Tr.one.inj m.ec;have TC:=eB TL.w m.we hc;have hq:=hq _ aN;have we:=m.we;have bg:=sx wA (bs:=A.bs.map (.one h)) (by rw[e7]) λk hk=>by
    let(q,hq,U):=sd.mp hk;exact .one ho (wA.bs q hq)
   have ee:(Tr.cas y A).wb ((Tr.cas y A).kids.map (.one h))=.cas y (A.wa (A.bs.map (.one h))):=rfl;rw[ee]at hq we TC;refine AB (i:=8) (v:=(Tr.cas y (A.wa (A.bs.map (.one h)))).t) O (λR hR=>(_,bY,U,?_)) (λ_ R hR=>?_) (λz=>nomatch z) ?_
   ·show R (decide ((ϕ "case").v=(ϕ "case").v));rw[st rfl];exact hR
   ·have lA:=d7 wA;have lb:A.bs.length<=50000:=by have q1:=jS wA.bs;have q2:=wA.Ot;have q3:=(eB TL.w wc hc).pr;let(_,_,_,p1,_):=q3;have p2:=congrArg zN p1;rw[show(Tr.one h (.cas y A)).pre=.one h (.cas y A) :: .cas y A::A.pre from U,q2]at p2;simp only[mS,p7]at p2;omega
    refine(cj,_,U,aH (by rw[lA];omega),λi ys=>ys=(A.wa (A.bs.map (.one h))).l.take i,U,?_,?_)
    ·rintro i yi ys hy rfl;let(m',ns,b,U,hb,bR):=qV wA hy;have i3:ϔ [.s m',.t (ns.map .s),b.t]=true:=by show(O&&(ϔ (ns.map .s)&&(b.t.im&&O)))=O;rw[ay,bR.imt];rfl
     have i2:ϔ [.s m',.t (ns.map .s)]=true:=by show(O&&(ϔ (ns.map .s)&&O))=O;rw[ay];rfl
     have ib:ϔ [b.t]=true:=by show(b.t.im&&O)=O;rw[bR.imt];rfl
     have cV:ϔ (h++[b.t])=true:=by rw[cA,ho.im,ib];rfl
     refine(_,U,i3,a3,?_);simp only[bc];refine(_,U,bR.imt,x9 (aH (by show _+1<=_;omega)),ho.im,ib,(by show 2+1<=p6;decide),i2,(by show(ϔ (h++[b.t])&&O)=O;rw[cV];rfl),?_);have c4:(A.bs.map (Tr.one h))[i]?=Z (.one h b):=by rw[kf,hb];rfl
     have cN:=CJ wA (bs:=A.bs.map (.one h)) (by rw[e7]) (λk hk=>by let(q,hq,U):=sd.mp hk;exact .one ho (wA.bs q hq)) hy c4;rw[ui,cN,show(Tr.one h b).t=.t (h++[b.t])by show ϗ (h++b.l)=_;rw[bR.l1]];rfl
    rintro ys rfl;have lw:(A.wa (A.bs.map (.one h))).l.length=A.l.length:=by rw[d7 bg.2.2,bg.2.1,e7,lA]
    rw[<- lw,uj];exact(bg.2.2.im,(by show 2+1<=p6;decide),U,(by show(ϔ (A.wa (A.bs.map (.one h))).l&&O)=O;rw[bg.2.2.im];rfl),hR)
   refine(_,ef,cC,d,_,n,by rw[ck],TL.w,we,hd,hn,bd,?_);simp only[e3];have wz:=TC.wf.imt;generalize(d.put n (.cas y (A.wa (A.bs.map (.one h))))).t=bz at hq wz;refine((by show 3+1<=p6;decide),cF,(by show(bz.im&&O)=O;rw[wz];rfl),iN ks,a5,?_);simp only[e1];refine(aT wz,x9 (aH (by show _+1<=_;omega)),b0,(by show((tF (fn.1,bz,fn.2.2)).im&&O)=O;rw[aT wz];rfl),a5,?_);simp only[e2];refine(x9 (aH (by rw[mS];show _+1+_<=_;omega)),by rw[cA,b0];show(O&&((tF (fn.1,bz,fn.2.2)).im&&O))=O;rw[aT wz];rfl,cE,?_);unfold tPr at hq;rw[es]at hq;exact hq
theorem SB.nms{ks:ϑ}{hs:List Hd}{r:Str}(h1:∀kd∈ks,∀m∈kd.2,m.2.length<=4)(h2:∀h∈hs,h.2.1.length<=4){sc:Sc}{o:Option (List Mk1)}{d:Tr}(h:SB ks hs r sc o d):∀x∈d.pre,x.nms.length<=50000:=by
 induction h with
 |giv _=>intro x hx;rw[fy.mp hx];show 1<=_;decide
 |@one _ us bs g b hb _ _ _ q =>
  intro x hx;obtain e|e:=ot.mp hx
  ·rw[e];show(hnm g).length<=_;cases hb with|cj _ _=>show 0<=_;decide|name=>show 1<=_;decide|make Q hm hl=>show(SO txt _).length<=_;rw[sA,hl];have:=h1 _ Q _ hm;omega|call V hl=>show(SO txt _).length<=_;rw[sA,hl,e7];have:=h2 _ V;omega
  exact q x e
 |cas _ _ _ q =>
  intro x hx;obtain e|e:=ot.mp hx
  ·rw[e];show 1<=_;decide
  exact q x e
 |nil=>exact nofun|arm _ _ _ _ P K=>intro x hx;exact(rh.mp hx).elim (P x) (K x)
structure Bd(ks:ϑ)(fs:ϓ)(f:Nat)(d:Tr)(fn:Fn):Prop where
 hf:fs[f]?=Z fn
 fb:FnB fs f d
 ns:∀x∈d.pre,x.nms.length<=50000
 dp:cp 50 d
 sb:SB ks (fs.map (·.1)) fn.1.2.2 fn.1.2.1 Y d
theorem KA{fs:ϓ}(p:Prog ks fs)(hs:∀f∈fs,f.2.2<=sz 16)(hd:∀f∈fs,Dep 50 f.2.1){f:Nat}{fn:Fn}(hf:fs[f]?=Z fn):∃d,Bd ks fs f d fn:=by
 have tr:∀g∈fs,∃d,SB ks (fs.map (·.1)) g.1.2.2 g.1.2.1 Y d/\d.l=[g.2.1]/\d.pre.length<=g.2.2:=λg hg=>(p.sn g hg).1.tr;have im:∀g∈fs,g.2.1.im=true:=λg hg=>by
  let(d,q,z,_):=tr g hg;have w:Wf O d:=q.wf;have e:d.t=g.2.1:=by show d.l.headD .n=_;rw[z];rfl
  rw[<- e];exact w.imt
 have hm:=nZ hf;let(d,q,z,Q):=tr fn hm;have w:Wf O d:=q.wf;have e:d.t=fn.2.1:=by show d.l.headD .n=_;rw[z];rfl
 have h16:sz 16<=25000:=am;refine(d,hf,((fn,hf,e.symm),im,w,?_),q.nms (λkd K m hm=>(p.gk.fl kd K m hm).1) (λh P=>?_),w.QK (by rw[e];exact hd fn hm),q)
 ·have:=hs fn hm;omega
 let(g,hg,U):=sd.mp P;exact(p.pk g hg).1
theorem Hx{fs:ϓ}{f:Nat}{fn:Fn}(hf:fs[f]?=Z fn)(x:L2.T×Nat):(fs.set f (fn.1,x)).map (·.1)=fs.map (·.1):=by
 rw[SR];exact SG λi=>by
  by_cases h:f=i
  ·subst h;rw[Ny (by rw[e7];exact(mT.mp hf).1),kf,hf];rfl
  rw[JT h]
theorem IW{fs:ϓ}(p:Prog ks fs){f:Nat}{c:Tr}{fn:Fn}(h:Bd ks fs f d fn)(K:d.pre[n]?=Z c)(he:mv c=Z e):Gh ks (fs.set f (fn.1,(d.put n e).t,(d.put n e).pre.length)):=by
 have pw:=p.w;have P:=Hx h.hf ((d.put n e).t,(d.put n e).pre.length);have w:=h.fb.w;let(h',b',m):=p9 (w.ji c (nZ K)) he;have TC:=eB w m.we K;have lp:(d.put n e).pre.length<=50000:=by let(A,A',B',p1,p2,p3,p4,p5):=TC.pr;have l1:=congrArg zN p1;have l2:=m.len;have l3:=p4.len;have l4:=h.fb.ln;rw[p3];simp only[mS]at l1 ⊢;omega
 have sb:SB ks (fs.map (·.1)) fn.1.2.2 fn.1.2.1 Y (d.put n e):=h.sb.put (λq=>q.mv he) K;let(b,V,Q):=sb.snd;have eb:(d.put n e).t=b:=by show(d.put n e).l.headD .n=_;rw[V];rfl
 refine(pw.gk,by rw[O4];exact pw.l8,?_,λg hg=>?_,λg hg=>?_)
 ·rw[show(fs.set f (fn.1,(d.put n e).t,(d.put n e).pre.length)).map (·.1.1)=((fs.set f (fn.1,(d.put n e).t,(d.put n e).pre.length)).map (·.1)).map (·.1)by rw[Gk];rfl,P,Gk];exact pw.hn
 ·obtain z|z:=Nz hg
  ·exact pw.pk g z
  rw[z];exact pw.pk fn (nZ h.hf)
 rw[P];obtain z|z:=Nz hg
 ·exact pw.sn g z
 rw[z];exact(by show Snd ks _ fn.1.2.2 (d.put n e).pre.length fn.1.2.1 (d.put n e).t;rw[eb];exact Q,lp)
theorem Lf{fs:ϓ}{f:Nat}{h:Hd}{b:L2.T}{m k:Nat}:(fs.set f (h,b,m)).map tF=(fs.set f (h,b,k)).map tF:=by rw[SR,SR];rfl
theorem JA(ks:ϑ):Dep 60 (tKs ks):=Dep.t λx hx=>by
 let(k,_,U):=sd.mp hx;refine Dep.t (bf Dep.s (bf (Dep.t λy g=>?_) cP));let(m,_,U):=sd.mp g;exact Dep.t (bf Dep.s (bf qM cP))
theorem M5{f:Fn}(h:Dep 58 f.2.1):Dep 59 (tF f):=by refine Dep.t (bf Dep.s (bf (Dep.t λx hx=>?_) (bf Dep.s (bf h cP))));let(q,_,U):=sd.mp hx;exact Dep.t (bf Dep.s (bf Dep.s cP))
structure Tn(ks:ϑ)(fs:ϓ)(f n:Nat)(t:L2.T):Prop where
 ex:∃(d c:Tr)(fn:Fn),Bd ks fs f d fn/\d.pre[n]?=Z c/\(mv c=Y->t=.n)/\∀e,mv c=Z e->t=tPr ks (fs.set f (fn.1,(d.put n e).t,fn.2.2))
theorem Tn.fm{fs:ϓ}(hd:∀f∈fs,Dep 50 f.2.1){f:Nat}{t:L2.T}(h:Tn ks fs f n t):t=.n\/∃us,t=.t us/\∀x∈us,Dep 60 x:=by
 let(d,c,fn,b,q,h1,h2):=h.ex;cases e:mv c with
 |none=>exact .inl (h1 e)|some P =>
  refine .inr (_,h2 P e,bf (JA ks) (bf (Dep.t λx hx=>?_) cP));let(g,hg,U):=sd.mp hx;have K:=b.fb.w.ji c (nZ q);let(_,_,m):=p9 K e;have TC:=eB b.fb.w m.we q;refine M5 ?_;obtain z|z:=Nz hg
  ·exact(hd g z).mono bd
  rw[z];exact(TC.wf.dep (JB b.fb.w (Mp K e) q b.dp)).mono bd
theorem EZ{t:L2.T}{Q:ϐ}(h:t=.n\/∃us,t=.t us/\∀x∈us,Dep 60 x)(hq:Q (.b ϊ)):HZ t t Q:=by
 obtain rfl |⟨us,rfl,h⟩:=h
 ·exact(U,by rw[decide_eq_true rfl];exact hq)
 refine(60,am,λj x y hx g=>tG h j x y hx g,λc q=>?_);rw[q.mpr rfl];exact hq
theorem FJ{t:L2.T}{Q:ϐ}(h:t=.n\/∃us,t=.t us/\∀x∈us,Dep 60 x)(hq:Q (.b O)):LB t t Q:=by
 obtain rfl |⟨us,rfl,h⟩:=h
 ·exact(U,by rw[decide_eq_true rfl];exact hq)
 refine(60,am,λj x y hx g=>tG h j x y hx g,λc q=>?_);rw[q.mpr rfl];exact hq
theorem ne8{i:Nat}{t:L2.T}{Q:ϐ}(h8:q[i]?=Z (.o t))(h:t=.n\/∃us,t=.t us/\∀x∈us,Dep 60 x)(hq:Q (.b ϊ)):aU i q (λu=>HZ t u Q):=by unfold aU;rw[h8];exact EZ h hq
theorem Nc{i:Nat}{xs:ώ}{t2:QT}{R:Bool->Prop}(h:q[i]?=Z (.o (.l xs)))(z:R ϊ)(g:xs ≠ []->t2 q R):Bz (c8 (qOp yT (aU i) (D6 dq))) t2 q R:=by unfold Bz c8 qOp aU;rw[h];show(if(!xs.isEmpty)=O then t2 q R else R ϊ);cases xs with|nil=>exact z|cons x r=>exact g (OS _ _)
theorem MS{p:Prop}{C:ϐ}{t:QT}{i:Nat}{qe:QE}{D:cI}(g:∀R:Bool->Prop,R ϊ->(p->R O)->t q R)(h1:p->∀R:ϐ,(∀v,C v->R v)->qe q R)(h2:∃v,C v/\q[i]?=Z (.o v))(hr:∀v,C v->rest D (q.set i (.o v))):
  (D.seq (ic (mj t (pM i qe) kr) rest)).nx q:=by
 show ic (mj t (pM i qe) kr) rest D q;unfold ic mj;refine g _ ?_ λhp=>h1 hp _ λv hv=>hr v hv;let(v,hv,e):=h2;have e:q.set i (.o v)=q:=by let(hi,e):=mT.mp e;rw[<- e];exact R9 hi
 have hr:=hr v hv;rw[e]at hr;exact hr
theorem Mi(T:Txt K mg a):aS P w K mg base CX0 130 a.sU a.Kz [Zn] (oX K):=by
 refine T.PF.F.Qf (n:=7) (s1:=(bD mZ).headD (.Pass (0,0,0,0))) (rest:=(bD mZ).tail) fG U U (λ_ _ _ _ _ _ hr=>?_);have hu:=a7 hr;refine(_,_,_,(gF (i:=1) fG.nd U (Or.inl U) (oB (IP T) (hr.mono am) U T.vP.m T.vP.F.kp T.vP.b .nil wU (bM (pv 0) (bM bt fO)))),((ag (ax 2 fG.nd (aK (ze T) hr T.tQ (ae (qv 1) (ae ah (ae ah av)))))
(ag (bC (g:=(Tg.nm 3)) PassesOwn.never U (fZ U T.dm (ae ah av)) (bo 3 fG.nd)
(ag (ax 4 fG.nd (aK (jV (gI T)) hr T.a5 (ae (qv 1) (ae (Za (a6 T.bB (ae (ao (qv 2) ah) av))) av))))
(ag (ax 5 fG.nd (aK (jO T 50) hr T.gj (ae (ao (ao (ao (qv 2) ah) (qv 4)) ah) av)))
(ag (ax 6 fG.nd (aK (jV (gI T)) hr T.a5 (ae (qv 1) (ae (Za (a6 T.bB (ae (qv 5) av))) av))))
(ag (gC (i:=7) fG.nd U (Or.inl U) U (jb U T.dm (ae (Za (a6 T.bB (ae (qv 5) av))) av)) (N':=[Zt,Zu]) (.own U (.got (i:=5) U U (.inl U) .nil)) (DU (g:=(Tg.nm 0)) (λ_ _ _ _ _=>((cz 0),(a4 (jN U) ik U (ao (ao (qv 1) (qv 0)) ah) (Za (ar (fe be)))),(Zb (qv 0))))))
(ag (aM (QPW.pt (jG (a4 (pW hu U) lZ (bb _) (qv 7) (Za (aL aj))) (gB (DJ (Za (yQ (qv 3) ah)) ah))))
(ai (ax 6 fG.nd (Zb (ao (qv 7) (Za (aK (jV (gI T)) hr T.a5 (ae (qv 1) (ae (Za (a6 T.bB (ae (qv 7) av))) av))))))))
aA)
(ag (ax 8 fG.nd (aK (IM T 50) hr T.GC (ae (qv 2) (ae (qv 4) (ae (qv 6) av)))))
(ai (aM (QPW.pt (wq (a4 (Mc (Kt hr) U) Hm (bb _) (Za (aK (BQ T) hr T.rB (ae (qv 2) (ae (qv 4) (ae (qv 6) av))))) (qv 8)) (uy (QPW.pt (jG (a4 oC ka (bb _) (qv 8) (Za c7)) (gB (a4 ID De (bb _) (Za (aK (IL T) hr T.GB (ae (qv 8) av))) (Za DT))))))))
(ai (aD DT))
aA)))))))))
(ai (aD (yR (Mf (Kt hr) U) Ht (bb _) (Za (aK (BQ T) hr T.rB (ae (qv 2) (ae (qv 4) (ae (qv 6) av))))) (qv 8))))))),λp0 ns D hS hlen k=>?_,λns hlen=>?_)
 ·refine(_,U,p0,ns,_,U,hS,hlen,am,am,λd l H1 fd fl D1 s1=>?_);exact k d l H1 fd fl D1 s1
 refine(4,16,U,am,am,am,am,λks fs pr gk aN hsz bR V=>?_);have hsz:∀f∈fs,f.2.2<=sz 16:=hsz;have V:∀f∈fs,Dep 50 f.2.1:=V;have l8:=pr.l8;have l0:0<fs.length:=Rk.mpr aN;have O2:ϔ (fs.map tF)=true:=eQ λg hg=>by
  let(i,hi):=S4 hg;let(d,b):=KA pr hsz V hi;exact b.fb.im g hg
 have aT:∀{f n:Nat}{t:L2.T}{Q:ϐ},Tn ks fs f n t->Q t->wH [tPr ks fs,.i (f:Int),.i (n:Int)] Q:=λ{f n t Q} h hq=>by
  let(d,c,fn,b,hc,h1,h2):=h.ex;exact(ks,fs,f,n,d,c,fn,U,b.fb,O2,hc,b.ns,b.hf,l8,λe=>h1 e▸hq,λe he=>h2 e he▸hq)
 refine(am,am,λi q=>T6 λo3 o4 o5 o6 o7 o8=>q=[.r (.z ns),.r .dj,.o (tPr ks fs),o3,o4,o5,o6,o7,o8]/\(i≠0->∃(f n:Nat)(t:L2.T),o4=.o (.i (f:Int))/\o6=.o (.i (n:Int))/\o8=.o t/\Tn ks fs f n t),(_,_,_,_,_,_,U,λh=>absurd U h),?_,?_)
 ·rintro i y q hy ⟨o3,o4,o5,o6,o7,o8,rfl,_⟩;let(U,hi):=fJ hy;refine(_,U,?_);refine(_,U,by rw[e7];omega,by rw[e7];omega,λf f0 f1=>?_);let(F,U):=RX f0;rw[e7]at f1;have hF:F<fs.length:=bd;let(d,b):=KA pr hsz V (mu hF);generalize fs[F]=fn at b;have hl:=b.fb.ln;have hp:=b.fb.w.pos;let(br,bc,bz):=b.fb.ex;obtain rfl:fn=br:=Option.some.inj (b.hf.symm.trans bc);have ef:atI (fs.map tF) (F:Int)=Z (tF fn):=b7 (by rw[kf,b.hf];rfl);refine(_,U,_,ef,_,U,d,by rw[bz],b.fb.w,b.dp,bd,?_);refine(by rw[e7];omega,by rw[e7];omega,λn0 h0 h1=>?_);let(n,U):=RX h0;rw[e7]at h1;refine(by rw[e7];omega,by rw[e7];omega,aH (by rw[cv,e7];omega),λi ys=>∃js:List Nat,ys=js.map (λ(j:Nat)=>ϖ (j:Int))/\(∀j∈js,j<d.pre.length)/\js.length<=i,([],U,nofun,oQ _),?_,?_)
  ·rintro j y ys hy ⟨js,rfl,hj,aP⟩;let(U,a3):=fJ hy;rw[e7]at a3;have a0:j<d.pre.length:=bd;let(v,r,ev,_):=xA (b.fb.w.ji _ (Qj a0));have ea:atI (d.pre.map Tr.t) (0+(j:Int))=Z (.t (.s v::r)):=by rw[R5];exact b7 (by rw[kf,mu a0,<- ev];rfl)
   refine(_,U,_,ea,_,bY,cB ["make","name"],aC (λ_=>(U,js++[j],by rw[pq,R5];rfl,λm hm=>?_,by rw[mS];exact Nat.succ_le_succ aP)) λ_=>(js,U,hj,bd));obtain z|z:=rh.mp hm
   ·exact hj m z
   rw[fy.mp z];exact a0
  rintro ys ⟨js,rfl,hj,aP⟩;rw[cv]at aP;refine MS (p:=js ≠ []) (C:=λv=>∃n:Nat,v=.i (n:Int)/\n<d.pre.length) (λR r0 r1=>?_) (λaN R hR=>?_) (_,(n,U,bd),U) λv hv=>?_
  ·refine Nc (i:=7) U r0 λaN=>((by show(0:Int)<4;decide),?_);have rb:∀b,R b:=λb=>by
    cases b
    ·exact r0
    exact r1 λz=>aN (by rw[z];rfl)
   exact rb _
  ·have lj:0<js.length:=Rk.mpr aN;rw[e7]at aP;refine(by rw[e7];omega,by rw[e7];omega,λm m0 m1=>?_);let(M,U):=RX m0;rw[e7]at m1;have hM:M<js.length:=bd;exact(_,b7 (by rw[kf,mu hM];rfl),U,hR _ (_,U,hj _ (Qj hM)))
  let(n',U,hn):=hv;have hc:d.pre[n']?=Z d.pre[n']:=mu hn;generalize d.pre[n']=c at hc;refine(ks,fs,F,n',d,c,fn,U,b.fb,O2,hc,b.dp,b.hf,l8,λhx=>?_,λe he=>?_)
  ·have tn:Tn ks fs F n' .n:=(d,c,fn,b,hc,λ_=>rfl,λe he=>absurd (hx.symm.trans he) (λz=>nomatch z));refine aT tn (ne8 (i:=8) U (.inl U) ?_);exact(.r (.i (0+(i:Int))),.o (.i (F:Int)),.o (.l (d.pre.map Tr.t)),.o (.i (n':Int)),.o (.l (js.map λ(j:Nat)=>ϖ (j:Int))),.o .n,U,λ_=>(F,n',.n,U,U,U,tn))
  have tn:Tn ks fs F n' (tPr ks (fs.set F (fn.1,(d.put n' e).t,fn.2.2))):=(d,c,fn,b,hc,(λhx=>absurd (hx.symm.trans he) (λz=>nomatch z)),λe' bg=>by cases he.symm.trans bg;rfl);refine aT tn (ne8 (i:=8) U (tn.fm V) ?_);have el:tPr ks (fs.set F (fn.1,(d.put n' e).t,fn.2.2))=.t [tKs ks,.t ((fs.set F (fn.1,(d.put n' e).t,(d.put n' e).pre.length)).map tF)]:=by unfold tPr;rw[Lf]
  exact(ks,_,by rw[<- el],IW pr b hc he,(.r (.i (0+(i:Int))),.o (.i (F:Int)),.o (.l (d.pre.map Tr.t)),.o (.i (n':Int)),.o (.l (js.map λ(j:Nat)=>ϖ (j:Int))),.o (tPr ks (fs.set F (fn.1,(d.put n' e).t,fn.2.2))),U,λ_=>(F,n',_,U,U,U,tn)))
 rintro q ⟨o3,o4,o5,o6,o7,o8,rfl,h⟩;let(f,n,t,U,U,U,tn):=h (by rw[cv];decide);exact aT tn (FJ (tn.fm V) U)
end
theorem all_mk{l:W.OpenLaw}{w:Cl}{K:BT}{h:Dd}{fa:J}(X:K.In h)(G:h.Ns mainGlobals mg)(hfa:mg "law"=Z (.ref fa))
  {aT:J} (rG:W.nsIn K mainGlobals "PurseError"=Z (Z (.ref aT))) (rF:W.keepIn K (.ref aT)=O)
  (rE:oR K fns aT (bmV) Y=O)
  {br:J} (t5:W.nsIn K mainGlobals "NoProgram"=Z (Z (.ref br))) (tV:W.keepIn K (.ref br)=O)
  {k8:ClassData} (GY:W.clsIn K br=Z k8)
  (GZ:W.nsIn K k8.ns "__init__"=Z (Z (.ref bU))) (tU:LK K bU "__init__" "NoProgram.__init__" kb GO GN GP GQ GL GS se GR GK) (tZ:CI K se "NoProgram.__init__") (tT:KI K bU) (tX:W.isFn K (.ref bU)=O)
  (tS:oR K fns br (.ref aT::bmV) (Z bU)=O)
  {ck:J} (Bg:W.nsIn K mainGlobals "NoTurn"=Z (Z (.ref ck))) (Bf:W.keepIn K (.ref ck)=O)
  (Be:oR K fns ck (.ref aT::bmV) Y=O)
  {aY:J} (Iv:W.nsIn K mainGlobals "Spot"=Z (Z (.ref aY))) (IC:W.plainGet K aY Str.empty=O) (IB:W.hasDictIn K aY=O) (IA:W.plainOver K aY=O)
  (Iz:W.findIn K (.ref aY) "__setattr__"=Z (Z (.builtin "object.__setattr__"))) (Iy:W.makesIn K aY=O) (Iw:W.keepIn K (.ref aY)=O)
  (rO:cc K aY "piece")
  (rP:cc K aY "above")
  (wM:cc K aY "arm")
  (uL:DM K aY "__init__" "Spot.__init__" gu cV)
  {aP:J} (EE:W.nsIn K mainGlobals "Known"=Z (Z (.ref aP))) (EK:W.plainGet K aP Str.empty=O) (EJ:W.hasDictIn K aP=O) (EI:W.plainOver K aP=O)
  (EH:W.findIn K (.ref aP) "__setattr__"=Z (Z (.builtin "object.__setattr__"))) (EG:W.makesIn K aP=O) (EF:W.keepIn K (.ref aP)=O)
  (pS:cc K aP "kinds")
  (nL:cc K aP "makers")
  (jL:cc K aP "functions")
  (rN:DM K aP "__init__" "Known.__init__" fE cG)
  (xnd:decide [aT,br,ck].Nodup=O)
  (xi:DY K "number_of" ix fh)
  (Jd:DY K "spots" uq oH)
  (nP:DY K "spots_beneath" dP cN)
  (Fb:DY K "pieces" ph kO)
  (zt:DY K "laid_out" jE gQ)
  (qz:DY K "many_beneath" ez dg)
  (Fd:DY K "end_of" pz kQ)
  (mG:DY K "begins_beneath" dw cF)
  (B6:DY K "body_of" md jg)
  (rY:DY K "with_bodies" fH dD)
  (Mx:DY K "uses" yz vj)
  (xn:DY K "laid_with" iD fu)
  (vb:DY K "laid_moved" gA d6)
  (Je:DY K "moved" ur oI)
  (xh:DY K "with_body" iw fg)
  (MA:DY K "look" yC f_look)
  (My:DY K "need" yA vk)
  (MH:DY K "bind" yJ vv)
  (rZ:DY K "look_makers" fI dE)
  (mF:DY K "look_functions" dv cE)
  (nQ:DY K "look_function" dQ cO)
  (xl:DY K "look_body" iB fq)
  (xk:DY K "look_head" iz fj)
  (va:DY K "look_piece" gy d5)
  (zr:DY K "look_use" jD gP)
  (xj:DY K "need_kind" iy fi)
  (xm:DY K "look_arms" iC ft)
  (ME:DY K "_law_deal" yG vq)
  (MD:DY K "_law_draw" yF vp)
  (Jc:DY K "_law_words" uo oG)
  (Jg:DY K "_law_kinds" uv oK)
  (MC:DY K "_law_fill" yE vo)
  (Jh:DY K "_law_ended" uw oM)
  (MF:DY K "_law_case" yH vt)
  (MG:DY K "_law_body" yI qK)
  (B3:DY K "_law_program" l7 jd)
  (B5:DY K "_law_bodies" ma jf)
  (B4:DY K "_law_pieces" l9 je)
  (Mz:DY K "_law_put" yB vm)
  (Jf:DY K "_law_uses" uu oJ)
  (MB:DY K "_law_due" yD vn)
  (Fc:DY K "_law_moved" pj kP)
  (KG:NI K "law" sU) (OR:LK K sU "law" "law" mZ P4 P2 MM M6 LY Nf F8 M8 PN) (Pn:CI K F8 "law") (OT:KI K sU)
  (NH:NB K "len")
  (KO:NB K "list")
  (GV:NB K "tuple")
  (NJ:NB K "int")
  (KP:NB K "dict")
  (yk:NB K "reversed")
  (NG:NB K "max")
  (GX:NB K "range")
  (NF:NB K "zip")
  (vT:NB K "enumerate")
  (tR:NB K "ValueError")
  : ∃fd:Ch,(∀(s:ϋ)(v:B),BindsTo s fd ([v],[]) [("_law_script",v)])/\∀base:Dd,K.In base->base.Ns mainGlobals mg->aS l.prog w K mg base CX0 130 fa fd [Zn] (oX K):=by
 have e:=hfa.symm.trans (W.mg_of X G KG);cases e;have gY:=vh tU tZ tT;let(xV,_,nu):=xi;let(JL,_,A2):=Jd;let(nW,_,hJ):=nP;let(Gb,_,ye):=Fb;let(zK,_,rn):=zt;let(qW,_,iZ):=qz;let(Ge,_,yg):=Fd;let(mP,_,gi):=mG;let(Cy,_,tO):=B6;let(sj,_,jy):=rY;let(Ng,_,Gn):=Mx;let(x3,_,nC):=xn;let(vJ,_,lH):=vb;let(JM,_,A3):=Je;let(xU,_,nt):=xh;let(Nj,_,Gr):=MA;let(Nh,_,Gp):=My;let(Nr,_,Gz):=MH;let(sk,_,jz):=rZ;let(mO,_,gh):=mF;let(nX,_,hU):=nQ;let(xY,_,nA):=xl;let(xX,_,nz):=xk;let(vI,_,lG):=va;let(zJ,_,rl):=zr;let(xW,_,ny):=xj;let(xZ,_,nB):=xm;let(Nn,_,Gw):=ME;let(Nm,_,Gv):=MD;let(JK,_,A1):=Jc;let(JO,_,A5):=Jg;let(Nl,_,Gu):=MC;let(JP,_,A6):=Jh;let(Np,_,Gx):=MF;let(Nq,_,Gy):=MG;let(Cu,_,tJ):=B3;let(Cw,_,tN):=B5;let(Cv,_,tL):=B4;let(Ni,_,Gq):=Mz;let(JN,_,A4):=Jf;let(Nk,_,Gs):=MB;let(Gd,_,yf):=Fc;have KJ:=vh OR Pn OT;let(iX,_,fB):=uL;let(gW,_,d8):=rN;have T:Txt K mg (aT,br,bU,_,ck,aY,cV,_,aP,cG,_,fh,_,oH,_,cN,_,kO,_,gQ,_,dg,_,kQ,_,cF,_,jg,_,dD,_,vj,_,fu,_,d6,_,oI,_,fg,_,f_look,_,vk,_,vv,_,dE,_,cE,_,cO,_,fq,_,fj,_,d5,_,gP,_,fi,_,ft,_,vq,_,vp,_,oG,_,oK,_,vo,_,oM,_,vt,_,qK,_,jd,_,jf,_,je,_,vm,_,oJ,_,vn,_,kP,_,sU,_):=(tY rE,W.mg_of X G rG,rF,tY tS,W.mg_of X G t5,tV,gY,tX,gY.b3,tY Be,W.mg_of X G Bg,Bf,(IC,IB,IA,Iz),W.mg_of X G Iv,(Iy,iX.1,iX.2,Iw),rO,rP,wM,fB,iX,fB.b4,(EK,EJ,EI,EH),W.mg_of X G EE,(EG,gW.1,gW.2,EF),pS,nL,jL,d8,gW,d8.b4,of_decide_eq_true xnd,(nu,W.mg_of X G xV,nu.b2),(A2,W.mg_of X G JL,A2.b1),(hJ,W.mg_of X G nW,hJ.b2),(ye,W.mg_of X G Gb,ye.b1),(rn,W.mg_of X G zK,rn.b2),(iZ,W.mg_of X G qW,iZ.b1),(yg,W.mg_of X G Ge,yg.b2),(gi,W.mg_of X G mP,gi.b2),(tO,W.mg_of X G Cy,tO.b1),(jy,W.mg_of X G sj,jy.b2),(Gn,W.mg_of X G Ng,Gn.b4),(nC,W.mg_of X G x3,nC.b3),(lH,W.mg_of X G vJ,lH.b3),(A3,W.mg_of X G JM,A3.b3),(nt,W.mg_of X G xU,nt.b3),(Gr,W.mg_of X G Nj,Gr.b1),(Gp,W.mg_of X G Nh,Gp.b2),(Gz,W.mg_of X G Nr,Gz.b3),(jz,W.mg_of X G sk,jz.b2),(gh,W.mg_of X G mO,gh.b1),(hU,W.mg_of X G nX,hU.b2),(nA,W.mg_of X G xY,nA.b3),(nz,W.mg_of X G xX,nz.b3),(lG,W.mg_of X G vI,lG.b3),(rl,W.mg_of X G zJ,rl.b3),(ny,W.mg_of X G xW,ny.b3),(nB,W.mg_of X G xZ,nB.b3),(Gw,W.mg_of X G Nn,Gw.b2),(Gv,W.mg_of X G Nm,Gv.b2),(A1,W.mg_of X G JK,A1.b2),(A5,W.mg_of X G JO,A5.b2),(Gu,W.mg_of X G Nl,Gu.b3),(A6,W.mg_of X G JP,A6.b5),(Gx,W.mg_of X G Np,Gx.b5),(Gy,W.mg_of X G Nq,Gy.b5),(tJ,W.mg_of X G Cu,tJ.b3),(tN,W.mg_of X G Cw,tN.b1),(tL,W.mg_of X G Cv,tL.b1),(Gq,W.mg_of X G Ni,Gq.b3),(A4,W.mg_of X G JN,A4.b1),(Gs,W.mg_of X G Nk,Gs.b3),(yf,W.mg_of X G Gd,yf.b3),(KJ,W.mg_of X G KG,KJ.b1),W.mg_none_of X G NH,W.mg_none_of X G KO,W.mg_none_of X G GV,W.mg_none_of X G NJ,W.mg_none_of X G KP,W.mg_none_of X G yk,W.mg_none_of X G NG,W.mg_none_of X G GX,W.mg_none_of X G NF,W.mg_none_of X G vT,W.mg_none_of X G tR);exact(W.fnOf "law" "law" (di mZ) (bD mZ) (aq mZ) .none MM M6 LY Nf F8 M8,λs v=>.of_eq U,λbase _ _=>Mi T)
theorem walk{l:W.OpenLaw}{q:Da}{loose:Γ}{XP:(Υ)->Dd->Prop}{Q:Cl->Dd->Prop}{d:DefRec}{K:Params->BT}(hn:l.most=Z 63)(g:d.params.defaults=[])
  (V:∀(w:Cl)(h:Dd),Q w h->(K w.params).In h)
  (F:∀(w:Cl)(mg:Υ)(P:J)(h:Dd),(K w.params).In h->h.Ns mainGlobals mg->mg d.name=Z (.ref P) ->
∃fd:Ch,(∀(s:ϋ)(u:B),BindsTo s fd ([u],[]) [("_law_script",u)])/\∀base:Dd,(K w.params).In base->base.Ns mainGlobals mg->aS l.prog w (K w.params) mg base CX0 130 P fd [Zn] (oX (K w.params))):
  W.WalkO q loose XP Q l.row.toRowW d [] (λf vs=>PySem.call f vs):=
 L2.G5 (n:=63) (k:=130) (x:="_law_script") (CX:=λ_=>CX0) (sp:=λw=>oX (K w.params)) hn am g (U,am,am) V F (λ_ _ a ns hl hO hS=>(a,ns,U,Pd hO hS,hl,λ_=>rfl)) λ_ _ _ _ _ z=>z
end K55
namespace PySem.W.Fast
open Lean in
local macro_rules|`(universe $x*)=>do return mkNullNode (<-x.mapM λi=>`(theorem $i:ident:True:=⟨⟩))
universe tw10038675689933512147 tw10279856042934032746 tw10369581820381148732 tw10395095358420672648 tw10400438692301877555 tw10437757317499106545 tw10492889071348717157 tw10540651808717821930 tw10591913625022234269 tw10810715035237909450 tw10846055276143272297 tw10862803991770542141 tw10883752186501537670 tw11005542586184426691 tw11059357295432532495 tw11060411742532816533 tw11094467722647239600 tw11187744665670671561 tw11292563517576001663 tw113177508321180338 tw11332520335198758966 tw11500728530413652337 tw1154092981403624324 tw11560550236799384356 tw11646919835151295492 tw1168031981657346117 tw11695576395138153660 tw11698601361056660461 tw11737834088318493209 tw11783090531783846852 tw11814276131031902020 tw11881171568114659854 tw11919207182474760381 tw11971695121001096841 tw12009429537982738437 tw12035863008832169458 tw12041232338523684587 tw12462126479473692812 tw12537986873828408876 tw12558172315245882964 tw12649969581793648710 tw12778926047274238255 tw12895923526538437734 tw12910753470524843705 tw12911016585074080956 tw12933096822920057482 tw1305275225166813460 tw13122492950486206256 tw13125645093173774154 tw13150085945924440228 tw13233884706381708731 tw13468723379062902730 tw13679056110939795549 tw13699834567038297039 tw13789930958174452513 tw13862583413416882038 tw13875523052764341459 tw13951406869996443893 tw14028728684532234160 tw14102035123447392103 tw14158978993069623968 tw14168500740369598646 tw14225803257641033065 tw14267041203081726103 tw14567162015267362330 tw14656804804839446693 tw15038609626002028556 tw15087992540180793509 tw1512243821515412883 tw15260909022084149457 tw15308215443900075021 tw15343386245968348228 tw15417247376663698316 tw15425038119551516944 tw15494051631452454414 tw15498976103020587437 tw15529254514995423056 tw1561543376492108099 tw15787465945175105611 tw15873414001768129671 tw15888182691728023101 tw1590073615771998653 tw15930791584102056266 tw15978068892778065839 tw160205218746095070 tw16103433398547610122 tw16134208187168616530 tw16192519308701070269 tw16319634172891209261 tw16487315553290816791 tw16558626206723399066 tw16968294132939850634 tw1697087407281735908 tw16994783584740826901 tw17048816918025066674 tw17059275228602524801 tw1713635112144944472 tw17319715675465993264 tw17436481855077451417 tw17474615649154699095 tw17481412649953879308 tw17488075669019362531 tw17761587979317784482 tw17806526251860716372 tw17909828851397184778 tw17950554688525685029 tw18013700635660827940 tw18066857608340547920 tw18148367937566296264 tw18206602021699904789 tw18226114281831408455 tw18251587087256495447 tw18261592346864982935 tw1864824180962509170 tw191486508469791776 tw1986120148273145352 tw2154381748245641271 tw2288536645313410342 tw2301041853900021877 tw2326962868430295284 tw251856398602696493 tw2597906590689470973 tw2670440837842685826 tw30752766748910010 tw3138140562013589706 tw3261700797485915423 tw335820536061464880 tw3413357252644481017 tw3452717194004793327 tw3455706644788050805 tw3562040470166740030 tw3574619296941918785 tw3712261620529436037 tw3757464642418190308 tw3763701852855034844 tw3955579207390145955 tw396672107395253097 tw413197010510772573 tw4143049045189396661 tw4155244413843280681 tw4258779236296485825 tw4296943059222066960 tw4370400462064981580 tw4393646398984562172 tw4431175265578425731 tw4437632355904843209 tw447822792996986784 tw4497696555721585516 tw4812489932755094730 tw4821417072343954207 tw4894968165766404428 tw4918910307357794388 tw4936903233186203634 tw4978947515322128089 tw5168137139553675281 tw5358898736250538918 tw5403361375530084656 tw556525007356879293 tw559954696541249362 tw5630187644550578811 tw5766975899822393505 tw5869939710037131403 tw5914632178105861775 tw5916880748895845628 tw5931457662331259850 tw6057307628188850163 tw6071537997584027581 tw6179874512993676802 tw6289289026257732926 tw6431004830947051424 tw6524846814623743272 tw6539346036305342244 tw6604507082908616083 tw6658513096147539955 tw6787151212673359909 tw6787282187030316510 tw6791982577551787344 tw690165500745077668 tw6947927690004190139 tw7021370937826072038 tw7022605281791005828 tw7113976968170699830 tw7150757047889056371 tw7202978862892997444 tw726250532590421002 tw7281267407215214790 tw7366393479378490293 tw73785106047409850 tw7408729788686285962 tw7422167521063761633 tw7433906598617151041 tw7447770945084008779 tw7457697471228019853 tw7520316526657996049 tw7709732990636836217 tw7774519758822045802 tw7830683158125416879 tw8103563526254210170 tw8109541967715936692 tw8159854510587809113 tw8206061317950261267 tw8246697010416763571 tw8250256158015581206 tw8251859801331948316 tw835189661545370447 tw8472515869729332160 tw8580082820551829233 tw8587476002353063288 tw8704303729413459701 tw8757379597097945598 tw879336494725680612 tw9083981375777895920 tw919071773453369284 tw9202194156104615089 tw9217140870667653030 tw9259322212666622317 tw9354081077626251418 tw9372108063843216474 tw9484642458902313052 tw955424486289327227 tw9714070688709182768 tw97491503526755641 tw9833668742803488987
end PySem.W.Fast
open PySem PySem.W PyProof.Rows
set_option maxRecDepth 100000 in
set_option maxHeartbeats 0 in
theorem PySem.Challenge.cw_pursewright_k55_things_moved_holds : PySem.Challenge.rw_pursewright_k55_things_moved.Holds := by
 w_on;o_law;k_head;(case hw=>w_witness2)
 k_fill
 refine K55.walk (l:=PySem.Challenge.rw_pursewright_k55_things_moved) rfl rfl (fun w h Y=>PySem.W.kIn_of Y) ?F
 case F =>
  intro w mg fa h KX G hmg;refine' K55.all_mk KX G hmg ..
  all_goals try first|refine' L2.DY.of ?_ ?_ ?_ ?_|refine' L2.DM.of ?_ ?_ ?_ ?_ ?_
  all_goals try delta L2.NI L2.LK L2.CI L2.KI L2.NB L2.cc
  all_goals try first|k_is|kernel_rfl