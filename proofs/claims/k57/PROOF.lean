import PyProof.Rows.All
import Wide.All
import OpenK.AllK
import Wide.FinOn
import Lean
import PyProof.EqAt
import PyProof.EqKinds
import PyProof.TupleCall
import PyProof.InstStoreFacts
import PySem.Challenge.RW_pursewright_k57_turns_refused
set_option Elab.async false
set_option linter.all false
set_option maxRecDepth 100000
local macro_rules|`(tactic|symm)=>`(tactic|exact ⟨rfl,rfl,rfl,by decide +kernel,rfl,by decide +kernel,by decide +kernel⟩)
open List renaming length_map→dN,mem_singleton→fy,getElem?_eq_getElem→fY,getElem?_map→fZ,getElem?_eq_some_iff→gs,length_append→g5,mem_of_getElem?→jk,mem_cons_self→j4,mem_cons_of_mem→j6,mem_cons→lb,mem_append→lN,map_append→mu,mem_map→nR,nodup_nil→ot,append_nil→pq,mem_append_right→p7,size_toArray→qg,getElem_of_mem→ro,take_add_one→rr,take_length→rV,replicate→rY,length_take→tX,length_cons→tZ,mem_append_left→ui,length_eq_zero_iff→uG,getElem?_append_left→u4,getElem?_append_right→u6,lookup_cons→v3,nodup_cons→wh,map_map→wH,append_assoc→wI,not_mem_nil→xQ,contains_cons→x2,length_singleton→yd,append_eq_nil_iff→ye,nodup_append→yf,map_cons→AZ,length→CP,range→Fc,getElem?_set_ne→Fe,mem_of_mem_take→Ff,find?_cons→Fs,any_cons→GP,getElem_mem→Jr,length_pos_iff→Mn,filter_cons_of_pos→Mt,length_drop→Ry,getElem?_zip_eq_some→Rz,all_eq_true→RB,replicate_succ→RD,getElem?_eq_none→RF,any_eq_true→Tf,cons_ne_nil→T1,take_sublist→V0,filter_cons_of_neg→V2,length_set→Xo,getElem?_set_self→Xy,of_mem_zip→Zm,length_zip→Zt,lookup→Zw,set_eq_of_length_le→Zy,append_cancel_left→ZA,mem_flatMap→ZC,getElem_map→ZD,any_map→ZF,length_nil→ZJ,pairwise_map→ZO,mem_range→ZQ,drop_left→ZS,mem_or_eq_of_mem_set→ZW,forIn_cons→Z0,reverse_cons→Z3,take_of_length_le→Z7,map_fst_zip→aa0,drop_length→aa1,map_drop→aa2,map_take→aa3,sum_cons→aa5,take_append_of_le_length→aa6,filterMap_cons→aa8,map_congr_left→ab1,nodup_iff_pairwise_ne→ab4,sublist_append_right→ab7,drop_eq_getElem_cons→ab8,getElem?_take_of_lt→ac0,getElem_inj→ac1,getElem?_replicate→ac2,sublist_nil→ac5,ext_getElem→ac7,length_replicate→ad1,getElem?_toArray→ad4,eq_nil_or_concat→ad6,dropLast_concat→ad8,zip→ad9,drop_zero→ae0,mem_of_mem_drop→ae1,length_reverse→ae2
open PySem renaming wpAny_bind→eB,starEach→j7,sizeLine→lK,wpAny_pure→nT,wpAny_call_entry→Js,wpAny_mono→QG,wpAny_holding→Rw,wpAny_Call_Name_kw→RA,wpAny_typeOf→Yc,wpAny_updateSeq→Zu,sizeLine_eq→ZE,wpAny_rule→ZI,wpAny_specialOf→ZL,wpAny_newObj_type→ZP,wpAny_isInstance→ZV,wpAny_attempt→ZX,plainId_quiet→ZY,codeAny_builtin→Z1,wpAny_setField→Z9
open PySem.Heap renaming get?_push_of_some→gi,lt_size→kf,get?_push_size→px,get?_update_other→vr,get?_update_self→wJ,size_push→yg,get?_none_of_le→Zv,SameBut→ZT,get?_push_cases→ad7,ExtBut→af0
open Option renaming map_eq_some_iff→gV,isSome_map→ZN,bind_eq_some_iff→Z2
open Nat renaming le_refl→mz,lt_of_lt_of_le→rz,le_trans→tY,ne_of_lt→uj,le_of_lt→v5,zero_le→AY,lt_irrefl→E3,ne_of_gt→Fq,min_eq_left→QL,zero_add→RC,lt_of_le_of_lt→R4,le_max_left→ZK,lt_succ_self→ZU,lt_trans→Z4,le_of_lt_succ→Z8,not_lt_zero→aa7,add_le_add_left→aa9,min_le_right→ac3,le_add_right→ac4,succ_le_succ→ac8,le_of_eq→ac9,lt_of_sub_eq_succ→ad3,le_of_ble_eq_true→ad5,mod_lt→ae5,sub_self→ae9
open Bool renaming false_ne_true→ri,and_eq_true→rX,not_eq_true'→Zx,eq_iff_iff→ZZ,eq_false_iff→Z5,or_eq_true_iff→ab0,or_true→ab2,and_false→ab3,false_eq_true→ab5,not_eq_true→ac6,true_or→ad0,false_or→ae3
open Int renaming eq_ofNat_of_zero_le→Fd,le_refl→RE,toNat_of_nonneg→Xx,zero_add→ZH,toNat_natCast→ab9,toNat_le→ae7,le_trans→ae8
open PySem.Obj renaming mapSeq→Nj,data_mapFields→YJ,isFreed_of_fields→ZM,mapFields→aa4
open Array renaming length_toList→Zz,getElem?_eq_some_iff→ZR,getElem?_eq_none→Z6,getElem?_eq_getElem→ab6,getElem?_toList→ad2,find?_toList→ae4,forIn_toList→ae6
open Option renaming some→Z,none→Y
open Bool renaming true→O,false→ϊ
open PySem renaming Value→B,Addr→J,Shared→ϋ
def U{α:Sort u}{a:α}:a=a:=rfl
open Lean in
def lp:Nat->Syntax->MacroM (TSyntax `rcasesPat)
|n+1,s=>match s with
 |`(($a,$b,*))=>do let c<-(#[a]++b.getElems).mapM λx=>lp n x;`(rcasesPat|⟨$[$c:rcasesPat],*⟩)
 |`(⟨$a,*⟩)=>do let c<-a.getElems.mapM λx=>lp n x;`(rcasesPat|⟨$[$c:rcasesPat],*⟩)
 |`($x:ident)=>let y:=if x.getId==`U then mkIdent `rfl else x;`(rcasesPat|$y:ident)
 |_=>`(rcasesPat|_)
|_,_=>`(rcasesPat|_)
local macro_rules|`(tactic|let $p:term:=$e)=>do`(tactic|obtain $(<-lp 9 p):rcasesPat:=$e)
local macro_rules|`(($a,$b,*))=>`(⟨$a,$b,*⟩)
open PySem.W renaming Frag→Ch
open PySem renaming FuncData→Cl,World→Da,Program→Db,Around→Do,Heap→Ev,Expr→EQ,Stmt→Fa
open Lean in
local macro_rules|`(tactic|left)=>`(tactic|intro $(mkIdent `gd):ident $(mkIdent `s):ident $(mkIdent `σ):ident $(mkIdent `H):ident $(mkIdent `Q):ident $(mkIdent `I):ident $(mkIdent `h):ident)
open Lean in
local macro_rules|`(tactic|right)=>`(tactic|intro $(mkIdent `gd):ident $(mkIdent `s):ident $(mkIdent `σ):ident $(mkIdent `H):ident $(mkIdent `D):ident $(mkIdent `I):ident $(mkIdent `h):ident)
local macro_rules|`(tactic|omega)=>`(tactic|lia)
local macro_rules|`(nofun)=>`(fun _ z=>nomatch z)
local macro_rules|`(($e :))=>`(by simpa using $e)
local macro_rules|`(~~~$e)=>`({cls:=.type "list",data:=.seq $e})
local macro_rules|`($a^^^$b)=>`({cls:=.type "list",data:=.seq $a $b})
def ad{p:Prop}(h:p:=by decide):p:=h
def ba{p:Prop}(h:p:=by simp):p:=h
def bd{p:Prop}(h:p:=by omega):p:=h
def be{p:Prop}(h:p:=by rfl):p:=h
def bn{p:Prop}(h:p:=by decide +kernel):p:=h
def bv{p:Prop}(h:p:=by kernel_rfl):p:=h
theorem zdc(h:True:=by decide):True:=h
theorem zrf(h:True=True:=by rfl):True=True:=h
local macro_rules|`(‹$t›)=>`(autoParam $t zrf._auto_1)
noncomputable section
set_option compiler.extract_closed false
open Lean.Parser.Command in
local macro_rules|`(declaration|$d:definition)=>`(declaration|noncomputable $d:definition)
set_option bootstrap.genMatcherCode false
set_option genSizeOf false
set_option genInjectivity false
abbrev Γ:=List PySem.Str
abbrev Δ:=List B
abbrev Θ:=List J
abbrev Ξ:=List (J×PySem.Obj)
abbrev Υ:=PySem.Str->Option B
abbrev Φ:=B->ϋ->Prop
abbrev Ψ:=List Int
abbrev ϗ:=List (Option PySem.Str)
namespace L2
open PySem PySem.Spec PyProof.Rows
inductive Ea7{A' B' C' D' E' F' G':Type}(P:A'->B'->C'->D'->E'->F'->G'->Prop):Prop
 |mk(a b c d e f g:_)(_:P a b c d e f g)
inductive Ea3{A' B' C':Type}(P:A'->B'->C'->Prop):Prop
 |mk(a b c:_)(_:P a b c)
inductive Ea4{A' B' C' D':Type}(P:A'->B'->C'->D'->Prop):Prop
 |mk(a b c d:_)(_:P a b c d)
inductive Ea5{A' B' C' D' E':Type}(P:A'->B'->C'->D'->E'->Prop):Prop
 |mk(a b c d e:_)(_:P a b c d e)
inductive Ea6{A' B' C' D' E' F':Type}(P:A'->B'->C'->D'->E'->F'->Prop):Prop
 |mk(a b c d e f:_)(_:P a b c d e f)
inductive Ea8{A' B' C' D' E' F' G' H':Type}(P:A'->B'->C'->D'->E'->F'->G'->H'->Prop):Prop
 |mk(a b c d e f g h:_)(_:P a b c d e f g h)
abbrev Key:=Sum Int Str
def yD:Key->B->Bool
 |.inl k,v=>B.isInt k v|.inr x,v=>B.isStrOf x v
def YG(w:Da):Key->Int
 |.inl k=>hashInt k|.inr x=>hashStr w x
theorem cv:∀{k:Key}{v:B},yD k v=O->(∃i t,k=Sum.inl i/\v=B.int i t)\/(∃x t,k=Sum.inr x/\v=B.str x t)
 |.inl i,v,h=>by
  let(t,e):=B.isInt_shape h;exact .inl (i,t,U,e)
 |.inr x,v,h=>by
  let(t,e):=B.isStrOf_shape h;exact .inr (x,t,U,e)
def IH(i:Int)(t:Tok):yD (.inl i) (.int i t)=true:=by simp[yD,B.isInt]
def IG(x:Str)(t:Tok):yD (.inr x) (.str x t)=true:=by simp[yD,B.isStrOf]
def Vf(a b:Int):decide ((Sum.inl a:Key)=Sum.inl b)=(a==b):=by
 by_cases e:a=b
 ·subst e;simp
 have h:¬(Sum.inl a:Key)=Sum.inl b:=λq=>e (Sum.inl.inj q);rw[decide_eq_false h];exact(beq_eq_false_iff_ne.mpr e).symm
def Vc(a b:Str):decide ((Sum.inr a:Key)=Sum.inr b)=decide (a=b):=by
 by_cases e:a=b
 ·simp
 have h:¬(Sum.inr a:Key)=Sum.inr b:=λq=>e (Sum.inr.inj q);rw[decide_eq_false h,decide_eq_false e]
def Ve(a:Int)(b:Str):decide ((Sum.inl a:Key)=Sum.inr b)=false:=decide_eq_false (λq=>nomatch q)
def Vd(a:Str)(b:Int):decide ((Sum.inr a:Key)=Sum.inl b)=false:=decide_eq_false (λq=>nomatch q)
def bN(prog:Db)(w:Da):PySem.KeyKind prog w Key where
 is:=yD
 hash:=YG w
 inj:=λv a b z g=>by
  obtain⟨i,t,rfl,rfl⟩|⟨x,t,rfl,rfl⟩:=cv z
  ·obtain⟨j,u,rfl,e⟩|⟨y,u,rfl,e⟩:=cv g
   ·injection e with e1 _;rw[e1]
   exact nomatch e
  obtain⟨j,u,rfl,e⟩|⟨y,u,rfl,e⟩:=cv g
  ·exact nomatch e
  injection e with e1 _;rw[e1]
 byValue:=λk v h=>by
  obtain⟨i,t,rfl,rfl⟩|⟨x,t,rfl,rfl⟩:=cv h <;> rfl
 pyHash:=λhv h=>by
  obtain⟨i,t,rfl,rfl⟩|⟨x,t,rfl,rfl⟩:=cv hv
  ·exact wpAny_pyHash_int h
  exact wpAny_pyHash_str h
 eqBool:=λq hv h=>by
  obtain⟨i,t,rfl,rfl⟩|⟨x,t,rfl,rfl⟩:=cv q
  ·obtain⟨j,u,rfl,rfl⟩|⟨y,u,rfl,rfl⟩:=cv hv
   ·rw[Vf]at h;exact wpAny_eqBool_int h
   rw[Ve]at h;exact SeqAt.EqAt.int_str i t y u _ _ _ _ h
  obtain⟨j,u,rfl,rfl⟩|⟨y,u,rfl,rfl⟩:=cv hv
  ·rw[Vd]at h;exact SeqAt.EqAt.str_int x t j u _ _ _ _ h
  rw[Vc]at h;exact wpAny_eqBool_str h
 «strs»:=λk x t v h=>by
  obtain⟨i,u,rfl,e⟩|⟨y,u,rfl,e⟩:=cv h
  ·exact nomatch e
  injection e with e1 _
  subst e1;cases v <;> rfl
def BV(prog:Db)(w:Da)(i:Int)(t:Tok):(bN prog w).is (.inl i) (.int i t)=true:=IH i t
def BU(prog:Db)(w:Da)(x:Str)(t:Tok):(bN prog w).is (.inr x) (.str x t)=true:=IG x t
set_option genInjectivity true in
inductive V where
 |non|bl (b:Bool)|int (i:Int)|str (x:Str)|byt (b:Array UInt8)|flt (b:UInt64)|ref (a:J)|ty (n:String)
 deriving DecidableEq
abbrev Ω:=List V
abbrev Ϗ:=List (Key×V)
abbrev ϐ:=List (List Key×V)
def RelV:V->B->Prop
 |.non,u=>u=B.none|.bl b,u=>u=B.bool b|.int i,u=>∃t,u=B.int i t|.str x,u=>∃t,u=B.str x t|.byt b,u=>∃t,u=B.bytes b t|.flt b,u=>∃t,u=B.float b t|.ref a,u=>u=B.ref a|.ty n,u=>u=B.type n
abbrev Vals:Ω->Δ->Prop:=Paired RelV
theorem Vals.length{xs:Ω}{us:Δ}(r:Vals xs us):xs.length=us.length:=Paired.length r
theorem Vals.get:∀{xs:Ω}{us:Δ}{i:Nat}{x:V},Vals xs us->xs[i]?=Z x->∃u,us[i]?=Z u/\RelV x u
 |_,_,_,_,.nil,e=>by simp at e|_,_,0,_,.cons r _,e=>by simp at e;subst e;exact(_,U,r)|_,_,i+1,x,.cons _ t,e=>by
  let(u,h1,h2):=Vals.get t (e:);exact(u,(h1:),h2)
theorem Vals.set{x:V}{u:B}(r:RelV x u):∀{xs:Ω}{us:Δ}(i:Nat),Vals xs us->Vals (xs.set i x) (us.set i u)
 |_,_,_,.nil=>.nil|_,_,0,.cons _ t=>.cons r t|_,_,i+1,.cons q t=>.cons q (Vals.set r i t)
variable{us:Δ}
def Vals.append{xs ys:Ω}{ws:Δ}(h:Vals xs us)(s:Vals ys ws):Vals (xs++ys) (us++ws):=by induction h with|nil=>exact s|cons r _ g=>exact .cons r g
theorem Vals.take:∀{xs:Ω}{us:Δ}(n:Nat),Vals xs us->Vals (xs.take n) (us.take n)
 |_,_,0,_=>.nil|_,_,_+1,.nil=>.nil|_,_,n+1,.cons r t=>.cons r (Vals.take n t)
theorem Vals.drop:∀{xs:Ω}{us:Δ}(n:Nat),Vals xs us->Vals (xs.drop n) (us.drop n)
 |_,_,0,r=>r|_,_,_+1,.nil=>.nil|_,_,n+1,.cons _ t=>Vals.drop n t
def my:Option V->Option B->Prop
 |some v,Z u=>RelV v u|none,Y=>True|_,_=>False
def KV{κ:Type}:List (κ×V)->List (κ×B)->Prop:=Paired λ(p:κ×V)(q:κ×B)=>p.1=q.1/\RelV p.2 q.2
def kV:Key->V
 |.inl i=>.int i|.inr x=>.str x
inductive HO where
 |lst(xs:Ω)|tup(xs:Ω)|dK(kvs:Ϗ)|dT (kvs:ϐ)|set(S:Int->Bool)(n:Nat)|ins(C dx:J)(fs:List (Str×V))|own(x:J)|xd(fs:List (Str×V))|room(x:Int)|met(f x:J)|rng(lo hi:Int)|frz(o:Obj)(u:HO)|tbl(ps:Array B)|ext(φ:Ev->Prop)
abbrev Hp:=J->Option HO
def upd(H:Hp)(a:J)(o:HO):Hp:=λb=>if b=a then Z o else H b
variable{H:Hp}{a:J}
def ax{o:HO}:upd H a o a=Z o:=by unfold upd;rw[if_pos rfl]
def au{b:J}{o:HO}(h:b≠a):upd H a o b=H b:=by unfold upd;rw[if_neg h]
def g7{o u:HO}:upd (upd H a o) a u=upd H a u:=by funext b;unfold upd;split <;> rfl
def kS{b:J}{o u:HO}(h:H a=Z o)(h':H b=Z u)(d:o≠u):a≠b:=by intro e;subst e;rw[h]at h';exact d (Option.some.inj h')
def aX{b:J}{o:HO}(h:H a=Z o)(h':H b=Y):a≠b:=by intro e;subst e;rw[h]at h';cases h'
def lJ(h:Ev)(a:J)(items:Array B):Prop:=IsTup h a items/\∃o,h.get? a=Z o/\o.dict=Y
theorem lJ.new(h:Ev)(items:Array B):lJ (h.push {cls:=.type "tuple",data:=.seq items}) h.objs.size items:=(IsTup.new _ _,_,px _ U,U)
section
variable(P:Db)(w:Da)
def cz(H:Hp)(h:Ev)(a:J):HO->Prop
 |.lst xs=>xs.length<=lK/\∃(its:Δ)(n:Nat),Vals xs its/\h.get? a=Z (its.toArray^^^n)|.tup xs=>xs.length<=lK/\∃its:Δ,Vals xs its/\lJ h a its.toArray|.dK kvs=>kvs.length<=lK/\(a==sysModules)=ϊ/\∃vs,KV kvs vs/\h.DictOf (bN P w) a vs|.dT kvs=>kvs.length<=lK/\(a==sysModules)=ϊ/\∃xs:List (List Key×J×B),
   Paired (λ(p:List Key×V)(q:List Key×J×B)=>p.1=q.1/\H q.2.1=Z (.tup (p.1.map kV))/\RelV p.2 q.2.2) kvs xs /\
   ∃o es g,h.get? a=Z o/\o.ExactDict/\o.data=.dict es g/\es.toList=xs.map (entryOfKey (tupleKind (bN P w)))/\(xs.map (·.1)).Nodup
 |.set S n=>h.SetOf (intKind P w) a S n|.ins C dx fs=>H dx=Z (.own a)/\fs.length<=1000/\dx≠a/\h.get? a=Z (W.instObj C dx) /\
   ∃mA,h.Ns1 dx mA/\(∀f,my (fs.lookup f) (mA f))/\PySem.Within mA (fs.map (·.1))
 |.own _=>∃o,h.get? a=Z o|.xd fs=>∃mA,h.Ns1 a mA/\∀f,my (fs.lookup f) (mA f)|.room x=>∃(its:Δ)(n:Nat),Vals [.int x] its/\h.get? a=Z (its.toArray^^^n)|.rng lo hi=>∃t u v,h.get? a=Z {cls:=.type "range",data:=.fields #[.int lo t,.int hi u,.int 1 v]}|.frz o u=>h.get? a=Z o/\cz H h a u|.tbl ps=>h.get? a=Z {cls:=.none,data:=.fields ps}|.met f x=>h.get? a=Z (W.methodObj (.ref f) (.ref x))|.ext φ=>φ h/\(∃o,h.get? a=Z o)/\∀h1 h2:Ev,φ h1->(∀o,h1.get? a=Z o->h2.get? a=Z o)->φ h2
def HOk(H:Hp)(h:Ev):Prop:=∀a o,H a=Z o->cz P w H h a o
end
section
variable{P:Db}{w:Da}{H':Hp}{h h':Ev}{o:HO}
theorem cz.lt(x:cz P w H h a o):a<h.objs.size:=by cases o with|lst xs=>let(_,_,_,_,e):=x;exact kf e|tup xs=>let(_,_,_,p):=x;exact p.1.lt|dK kvs=>let(_,_,_,_,o,_,_,e,_):=x;exact kf e|dT kvs=>let(_,_,_,_,o,_,_,e,_):=x;exact kf e|set S n=>let(o,_,_,_,e,_):=x;exact kf e|ins C dx fs=>let(_,_,_,e,_):=x;exact kf e|own y=>let(_,e):=x;exact kf e|xd fs=>let(_,(_,_,_,e,_),_):=x;exact kf e|room g=>let(_,_,_,e):=x;exact kf e|rng lo hi=>let(_,_,_,e):=x;exact kf e|frz ob u=>let(e,_):=x;exact kf e|tbl ps=>exact kf (x)|met f y=>exact kf (x)|ext φ=>let(_,(_,e),_):=x;exact kf e
def Paired.Xe{α β:Type}{F G:α->β->Prop}{l₁:List α}{l₂:List β}(r:Paired F l₁ l₂)(f:∀a b,F a b->G a b):Paired G l₁ l₂:=by induction r with|nil=>exact .nil|cons r _ g=>exact .cons (f _ _ r) g
def cz.dO(x:cz P w H h a o)(k:∀b u,(b=a\/H b=Z (.own a))->h.get? b=Z u->h'.get? b=Z u)
  (ho:∀b,H b=Z (.own a)->H' b=Z (.own a)) (V:∀b xs,H b=Z (.tup xs)->H' b=Z (.tup xs)):cz P w H' h' a o:=by
 induction o with|lst xs=>let(z,its,n,r,e):=x;exact(z,its,n,r,k _ _ (.inl U) e)|tup xs=>let(z,its,r,(ob,e,c),o2,K,d2):=x;exact(z,its,r,(ob,k _ _ (.inl U) e,c),o2,k _ _ (.inl U) K,d2)|dK kvs=>let(z,y,vs,r,ob,es,g,e,c):=x;exact(z,y,vs,r,ob,es,g,k _ _ (.inl U) e,c)|dT kvs =>let(z,y,xs,r,ob,es,g,e,c):=x;exact(z,y,xs,Paired.Xe r λp q z=>(z.1,V _ _ z.2.1,z.2.2),ob,es,g,k _ _ (.inl U) e,c)|set S n=>let(ob,es,g,t,e,c):=x;exact(ob,es,g,t,k _ _ (.inl U) e,c)|ins C dx fs =>let(d,z,ne,e,mA,(od,es,g,K,c),r):=x;exact(ho _ d,z,ne,k _ _ (.inl U) e,mA,(od,es,g,k _ _ (.inr d) K,c),r)|own y=>let(ob,e):=x;exact(ob,k _ _ (.inl U) e)|xd fs=>let(mA,(od,es,g,e,c),r):=x;exact(mA,(od,es,g,k _ _ (.inl U) e,c),r)|room x'=>let(t,u,v,e):=x;exact(t,u,v,k _ _ (.inl U) e)|rng lo hi=>let(t,u,v,e):=x;exact(t,u,v,k _ _ (.inl U) e)|frz ob u Q=>let(e,q):=x;exact(k _ _ (.inl U) e,Q q)|tbl ps =>have e:=x;exact k a _ (.inl U) e|met f y =>have e:=x;exact k a _ (.inl U) e|ext φ=>let(p,(o,e),st):=x;exact(st _ _ p λo q=>k _ _ (.inl U) q,(o,k _ _ (.inl U) e),st)
theorem HOk.lt(x:HOk P w H h)(e:H a=Z o):a<h.objs.size:=(x a o e).lt
def HOk.fresh(x:HOk P w H h)(e:h.objs.size<=a):H a=none:=by cases q:H a with|none=>rfl|some u=>exact absurd (rz (x.lt q) e) (E3 _)
def HOk.kept(x:HOk P w H h)(k:∀b u,h.get? b=Z u->h'.get? b=Z u):HOk P w H h':=λa o e =>
 (x a o e).dO (λb u _ q=>k b u q) (λ_ q=>q) λ_ _ q=>q
def HOk.laid(x:HOk P w H h)(k:∀b u,h.get? b=Z u->h'.get? b=Z u)(hp:h.objs.size<=a)(new:cz P w (upd H a o) h' a o):HOk P w (upd H a o) h':=λb u e=>by
 have hn:=x.fresh hp;by_cases g:b=a
 ·subst g;rw[ax]at e;cases e;exact new
 rw[au g]at e;exact(x b u e).dO (λc v _ q=>k c v q) (λc q=>by rw[au (aX q hn)];exact q) λc xs q=>by rw[au (aX q hn)];exact q
end
def Rd(H:Hp)(a:J)(u:HO):Prop:=H a=Z u\/∃o,H a=Z (.frz o u)
variable{P:Db}
def Rd.ok{w:Da}{h:Ev}{u:HO}(r:Rd H a u)(x:HOk P w H h):cz P w H h a u:=by
 obtain r |⟨o,r⟩:=r
 ·exact x a u r
 let(_,q):=x a _ r;exact q
def Mut:Option HO->Prop
 |some (.lst _)=>True|some (.dK _)=>True|some (.dT _)=>True|some (.set _ _)=>True|some (.ins _ _ _)=>True|some (.ext _)=>True|some (.room _)=>True|_=>False
section
variable{w:Da}{h h':Ev}{x e:J}{o':HO}
def HOk.write(ok:HOk P w H h)(K:Mut (H x))(he:e=x\/H e=Z (.own x))(k:∀b u,b≠e->h.get? b=Z u->h'.get? b=Z u)(ak:∃u,h'.get? e=Z u)
  (new:cz P w (upd H x o') h' x o'):HOk P w (upd H x o') h':=λb u q=>by
 have Xb:∀c y,H c=Z (.own y)->c≠x:=λc y r z=>by subst z;rw[r]at K;exact K
 have Yv:∀c xs,H c=Z (.tup xs)->c≠x:=λc xs r z=>by subst z;rw[r]at K;exact K
 by_cases V:b=x
 ·subst V;rw[ax]at q;cases q;exact new
 rw[au V]at q;by_cases g:b=e
 ·have q':H b=Z (.own x):=by
   obtain z|z:=he
   ·exact absurd (g.trans z) V
   rw[g];exact z
  rw[q]at q';cases q';let(v,hv):=ak;exact(v,by rw[g];exact hv)
 refine(ok b u q).dO (λc v Q r=>k c v ?_ r) (λc r=>by rw[au (Xb c b r)];exact r) λc xs r=>by rw[au (Yv c xs r)];exact r
 obtain rfl|Q:=Q
 ·exact g
 rintro rfl;obtain z|z:=he
 ·exact Xb c b Q z
 rw[Q]at z;cases z;exact V U
end
structure Un(fs ex:Θ)(H H':Hp)(h h':Ev):Prop where
 keep:∀b o,h.get? b=Z o->H b=Y->b ∉ fs->b ∉ ex->h'.get? b=Z o
 slot:∀b o,h.get? b=Z o->H b=Y->b∈fs->b ∉ ex->∃sl,h'.get? b=Z {o with slots:=sl}
 free:∀b o,h.get? b=Z o->H b=Y->b ∉ ex->H' b=Y
 there:∀b o,h.get? b=Z o->b ∉ ex->∃o',h'.get? b=Z o'
 n8:∀b xs,H b=Z (.tup xs)->H' b=Z (.tup xs)
 kC:∀b o u,H b=Z (.frz o u)->H' b=Z (.frz o u)
 og:∀b ps,H b=Z (.tbl ps)->∃more,H' b=Z (.tbl (ps++more))
section
variable{fs ex:Θ}{H1:Hp}{h h1 h':Ev}{x e:J}{o:HO}
def Un.any(u:Un fs ex H H1 h h1){b:J}{ob:Obj}(q:h.get? b=Z ob)(n:H b=Y)(hx:b ∉ ex):∃sl,h1.get? b=Z {ob with slots:=sl}:=by
 by_cases g:b∈fs
 ·exact u.slot b ob q n g hx
 exact(ob.slots,u.keep b ob q n g hx)
def Un.kept(k:∀b u,h.get? b=Z u->h'.get? b=Z u):Un fs ex H H h h':=
 (λb ob q _ _ _=>k b ob q,λb ob q _ _ _=>(ob.slots,k b ob q),λ_ _ _ n _=>n,λb ob q _=>(ob,k b ob q),λ_ _ q=>q,λ_ _ _ q=>q,λ_ ps q=>(#[],by rw[q];simp))
def Un.refl:Un fs ex H H h h:=Un.kept λ_ _ q=>q
def Un.laid(k:∀b u,h.get? b=Z u->h'.get? b=Z u)(hp:h.objs.size<=a)(hn:H a=Y):Un fs ex H (upd H a o) h h' where
 keep:=λb u q _ _ _=>k b u q
 slot:=λb u q _ _ _=>(u.slots,k b u q)
 free:=λb u q n _=>by rw[au (uj (rz (kf q) hp))];exact n
 there:=λb u q _=>(u,k b u q)
 n8:=λb xs q=>by rw[au (aX q hn)];exact q
 kC:=λb u xs q=>by rw[au (aX q hn)];exact q
 og:=λb ps q=>(#[],by rw[au (aX q hn),q];simp)
def Un.write(K:Mut (H x))(he:e=x\/H e=Z (.own x))(k:∀b u,b≠e->h.get? b=Z u->h'.get? b=Z u)(P:∃u,h'.get? e=Z u):Un fs ex H (upd H x o) h h':=by
 have hx:∀b,H b=Y->b≠x:=λb n z=>by subst z;rw[n]at K;exact K
 have Q:∀b,H b=Y->b≠e:=λb n z=>by
  subst z;obtain r|r:=he
  ·exact hx b n r
  rw[n]at r;cases r
 have hm:∀b u,H b=Z u->¬ Mut (Z u)->b≠x:=λb u q nm z=>by subst z;rw[q]at K;exact nm K
 refine(λb u q n _ _=>k b u (Q b n) q,λb u q n _ _=>(u.slots,k b u (Q b n) q),λb u q n _=>by rw[au (hx b n)];exact n,λb u q _=>?_,
  λb xs q=>by rw[au (hm b _ q λz=>z)];exact q,λb u xs q=>by rw[au (hm b _ q λz=>z)];exact q,λb ps q=>(#[],by rw[au (hm b _ q λz=>z),q];simp))
 by_cases g:b=e
 ·subst g;exact P
 exact(u,k b u g q)
end
def trk(h:Ev)(H:Hp):List Addr:=(Fc h.objs.size).filter λa=>(H a).isSome
def Cc(h:Ev)(H:Hp):Ev:=W.hideAll h (trk h H)
theorem IK(h:Ev)(H:Hp):(Cc h H).objs.size=h.objs.size:=W.hideAll_size _ _
theorem Ms{h:Ev}{b:J}{o:Obj}(e:h.get? b=Z o)(n:H b=Y):(Cc h H).get? b=Z o:=
 W.hideAll_get _ e λhm=>by
  have q:=(List.mem_filter.mp hm).2;rw[n]at q;simp at q
theorem P0{h:Ev}{b:J}{o:Obj}(e:(Cc h H).get? b=Z o):h.get? b=Z o/\H b=none:=by have g:=W.of_hideAll (trk h H) e;refine(g,?_);cases q:H b with|none=>rfl|some x =>have hm:b∈trk h H:=List.mem_filter.mpr (ZQ.mpr (kf g),by simp[q]);have z:(Cc h H).get? b=none:=W.hideAll_none (trk h H) hm;rw[z]at e;cases e
structure Mod(K:Ch)(mg:Υ)(base:Ev):Prop where
 kin:K.In base
 glob:base.Ns mainGlobals mg
 blt:∃mb,base.Ns builtinsNs mb/\∀x:Str,x ≠ "__name__"->mb x=bootBuiltins x
 nolimit:base.NoLimit
structure Cx where
 prog:Db
 w:Da
 K:Ch
 mg:Υ
 base:Ev
 A:Do
 N:Γ
 s₀:ϋ
 bi:Hp
 env:Env
 outer:List Env
 stack:List Env
 ex:Θ
 fn:Str->Bool
 calm:Bool
 pn:Ξ
 xe:Φ
abbrev XV(X:Cx){α:Type}:=@wpAny α (model X.prog X.w) X.A
def frs(l:List Env):List Addr:=l.filterMap (·.frame)
abbrev Cx.fs(X:Cx):List Addr:=frs X.outer
def Vis(sc:Scope)(x:Str):Prop:=sc.names.lookup x=Z .local\/sc.names.lookup x=Z .cell\/sc.names.lookup x=Z .free
def Loc(sc:Scope)(x:Str):Prop:=sc.names.lookup x=Z .local\/sc.names.lookup x=Z .cell
def Look(env:Env)(h:Ev)(m:Υ)(x:Str)(u:B):Prop:=
 (env.kindOf x=Z .local/\m x=Z u)\/((env.kindOf x=Z .cell\/env.kindOf x=Z .free)/\∃c,env.cells.lookup x=Z c/\h.IsCell c (Z u))
structure Cx.Ok(X:Cx):Prop where
 mod:Mod X.K X.mg X.base
 kind:X.env.scope.kind=.function
 glob:X.env.globals=mainGlobals
 blt:X.env.builtins=builtinsNs
 above:X.s₀.heap.objs.size<=X.env.locals
 inj:∀x y c,X.env.cells.lookup x=Z c->X.env.cells.lookup y=Z c->x=y
 has:∀x,(X.env.kindOf x=Z .cell\/X.env.kindOf x=Z .free)->∃c,X.env.cells.lookup x=Z c
 cab:∀x c,X.fn x=O->X.env.cells.lookup x=Z c->X.s₀.heap.objs.size<=c
 hd:X.calm=O->X.A.handled=Y
 frames:X.A.frames=Z X.stack
 stk:X.stack=X.outer\/(X.stack=X.env::X.outer/\X.env.frame=Z X.env.locals)
 exf:∀b∈X.ex,b≠X.env.locals/\∀x c,X.env.cells.lookup x=Z c->c≠b
 bs:∀b o,X.base.get? b=Z o->X.s₀.heap.get? b=Z o/\X.bi b=Y
 bsz:X.base.objs.size<=X.s₀.heap.objs.size
 Ec:∀b o,X.base.get? b=Z o->b ∉ X.ex
 IP:∀b∈X.ex,b ∉ X.fs
 mx:X.s₀.heap.FunFrames X.base X.outer
 frf:∀b∈X.fs,X.bi b=Y
structure Inv(X:Cx)(gd:Ξ)(σ:List (Option V))(H:Hp)(s:ϋ):Prop where
 ok:X.Ok
 os:s.os=X.s₀.os
 bare:AllBare s.gens
 base:Un X.fs X.ex X.bi H X.s₀.heap s.heap
 loc:∃m,s.heap.Ns X.env.locals m/\∀(i:Nat)(x:Str)(v:V),X.N[i]?=Z x->σ[i]?=Z (Z v)->Vis X.env.scope x->∃u,RelV v u/\Look X.env s.heap m x u
 cell:∀x c,X.env.cells.lookup x=Z c->∃v,s.heap.IsCell c v
 free:H X.env.locals=Y
 eJ:∀x c,X.env.cells.lookup x=Z c->H c=Y
 pin:∀p∈X.pn++gd,s.heap.get? p.1=Z p.2/\H p.1=Y/\p.1≠X.env.locals/\p.1 ∉ X.fs/\∀v,p.2.data ≠ .cell v
 hok:HOk X.prog X.w H s.heap
 len:σ.length=X.N.length
variable{ch:Θ}{t':Nat}{it:J}{N:Γ}{j:Nat}{x:Str}{u:B}{s':ϋ}
section
variable{X:Cx}{gd:Ξ}{σ:List (Option V)}{H':Hp}{s:ϋ}{h':Ev}
def Cx.Ok.Yy(ok:X.Ok){b:J}{o:Obj}(e:X.base.get? b=Z o):b ∉ X.fs:=λg=>by
 have:=(ok.mx.mem g).1;rw[e]at this;cases this
theorem Inv.bs(I:Inv X gd σ H s):∀b o,X.base.get? b=Z o->s.heap.get? b=Z o/\H b=none:=λb o e =>
 (I.base.keep b o (I.ok.bs b o e).1 (I.ok.bs b o e).2 (I.ok.Yy e) (I.ok.Ec b o e),I.base.free b o (I.ok.bs b o e).1 (I.ok.bs b o e).2 (I.ok.Ec b o e))
def Inv.bk(I:Inv X gd σ H s):∀b o,X.base.get? b=Z o->s.heap.get? b=Z o:=λb o e=>(I.bs b o e).1
theorem Inv.mod(I:Inv X gd σ H s):Mod X.K X.mg X.base:=I.ok.mod
def Inv.kIn(I:Inv X gd σ H s):X.K.In s.heap:=I.ok.mod.kin.keeps I.bk
theorem Inv.lt(I:Inv X gd σ H s):X.env.locals<s.heap.objs.size:=let(_,hn,_):=I.loc;hn.lt
def Inv.sz(I:Inv X gd σ H s):X.s₀.heap.objs.size<=s.heap.objs.size:=tY I.ok.above (v5 I.lt)
def Inv.Xc(I:Inv X gd σ H s)(h:s.heap.objs.size<=a):a ∉ X.fs:=λg=>by
 let(_,o,ho,_):=I.ok.mx.mem g;exact absurd (rz (kf ho) (tY I.sz h)) (E3 _)
def Inv.cne(I:Inv X gd σ H s):∀x c,X.env.cells.lookup x=Z c->c≠X.env.locals:=λx c e z=>by
 let(v,o,ho,hd):=I.cell x c e;let(m,(o',es,K,g,q,_),_):=I.loc;rw[z,g]at ho;cases ho;rw[q]at hd;cases hd
theorem Inv.mx(I:Inv X gd σ H s):s.heap.FunFrames X.base X.outer:=by
 have all:∀l,(∀b∈frs l,b∈X.fs)->X.s₀.heap.FunFrames X.base l->s.heap.FunFrames X.base l:=by
  intro l;induction l with
  |nil=>intro _ _;trivial
  |cons env r q =>intro hs hl;let(hk,(L,o,hf,hn,ho,hd),hr):=hl;have hL:=hs L (by unfold frs;rw[aa8,hf];exact j4);let(sl,e):=I.base.slot L o ho (I.ok.frf L hL) hL λz=>I.ok.IP L z hL;exact(hk,(L,_,hf,hn,e,hd),q (λb g=>hs b (by unfold frs;rw[aa8,hf];exact j6 _ g)) hr)
 exact all X.outer (λ_ g=>g) I.ok.mx
theorem Inv.stack(I:Inv X gd σ H s):s.heap.FunFrames X.base X.stack:=by
 obtain e |⟨e,hf⟩:=I.ok.stk
 ·rw[e];exact I.mx
 rw[e];let(m,hn,_):=I.loc;exact .cons (by rw[I.ok.kind];decide) hf hn (Zv (tY I.ok.bsz I.ok.above)) I.mx
def Inv.qI(I:Inv X gd σ H s):∀b∈frs X.stack,b∈X.env.locals::X.fs:=λb g=>by
 obtain e |⟨e,hf⟩:=I.ok.stk
 ·rw[e]at g;exact j6 _ g
 rw[e]at g;unfold frs at g;rw[aa8,hf]at g;exact g
def Inv.lT(I:Inv X gd σ H s):∀b∈frs X.stack,H b=none:=λb g=>by
 obtain e|g:=lb.mp (I.qI b g)
 ·rw[e];exact I.free
 let(_,o,ho,_):=I.ok.mx.mem g;exact I.base.free b o ho (I.ok.frf b g) λz=>I.ok.IP b z g
def Inv.step{g':Array GenState}{t':Nat}{d':Drawn}(I:Inv X gd σ H s)
  (K:∀b∈ch,(b∈X.ex\/X.s₀.heap.objs.size<=b)/\b≠X.env.locals/\(∀x c,X.env.cells.lookup x=Z c->c≠b)/\∀p∈X.pn++gd,p.1≠b)
  (keep:∀b o,b≠X.env.locals->b ∉ X.fs->b ∉ ch->s.heap.get? b=Z o->H b=Y->h'.get? b=Z o)
  (slot:∀b o,b≠X.env.locals->b∈X.fs->b ∉ ch->s.heap.get? b=Z o->H b=Y->∃sl,h'.get? b=Z {o with slots:=sl}) (free:∀b o,b ∉ ch->s.heap.get? b=Z o->H b=Y->H' b=Y)
  (there:∀b o,b ∉ ch->s.heap.get? b=Z o->∃o',h'.get? b=Z o')
  (n8:∀b xs,H b=Z (.tup xs)->H' b=Z (.tup xs)) (kC:∀b o u,H b=Z (.frz o u)->H' b=Z (.frz o u)) (og:∀b ps,H b=Z (.tbl ps)->∃more,H' b=Z (.tbl (ps++more)))
  (ns:∀m,s.heap.Ns X.env.locals m->h'.Ns X.env.locals m) (hok:HOk X.prog X.w H' h') (hg:AllBare g'):
  Inv X gd σ H' {s with heap:=h',gens:=g',drawn:=d',toks:=t'}:=by
 have V:∀b o,X.s₀.heap.get? b=Z o->b≠X.env.locals:=λb o e=>uj (rz (kf e) I.ok.above);have P:∀b o,X.s₀.heap.get? b=Z o->b ∉ X.ex->b ∉ ch:=λb o e hx Q=>by
  obtain z|z:=(K b Q).1
  ·exact hx z
  exact absurd (rz (kf e) z) (E3 _)
 have cellK:∀x c,X.env.cells.lookup x=Z c->∀v,s.heap.IsCell c v->h'.IsCell c v:=λx c e v (o,ho,hd)=>by
  have g:=λz=>(K c z).2.2.1 x c e U;by_cases hc:c∈X.fs
  ·let(sl,q):=slot c o (I.cne x c e) hc g ho (I.eJ x c e);exact(_,q,hd)
  exact(o,keep c o (I.cne x c e) hc g ho (I.eJ x c e),hd)
 refine(I.ok,I.os,hg,(λb o e n Q hx=>?_,λb o e n Q hx=>?_,λb o e n hx=>?_,λb o e hx=>?_,λb xs e=>n8 b xs (I.base.n8 b xs e),λb o xs e=>kC b o xs (I.base.kC b o xs e),λb ps e=>?_),?_,λx c e=>?_,?_,λx c e=>?_,λp hp=>?_,hok,I.len)
 ·exact keep b o (V b o e) Q (P b o e hx) (I.base.keep b o e n Q hx) (I.base.free b o e n hx)
 ·let(sl,e1):=I.base.slot b o e n Q hx;let(ak,e2):=slot b _ (V b o e) Q (P b o e hx) e1 (I.base.free b o e n hx);exact(ak,e2)
 ·let(o',e1):=I.base.there b o e hx;exact free b o' (P b o e hx) e1 (I.base.free b o e n hx)
 ·let(o',e1):=I.base.there b o e hx;exact there b o' (P b o e hx) e1
 ·let(m1,e1):=I.base.og b ps e;let(m2,e2):=og b _ e1;exact(m1++m2,by rw[e2,Array.append_assoc])
 ·let(m,hn,hl):=I.loc;refine(m,ns m hn,λi x v e1 e2 e3=>?_);let(u,r,l):=hl i x v e1 e2 e3;refine(u,r,?_);obtain l |⟨k,c,e,z⟩:=l
  ·exact .inl l
  exact .inr (k,c,e,cellK x c e _ z)
 ·let(v,z):=I.cell x c e;exact(v,cellK x c e v z)
 ·let(m,(o,_,_,ho,_),_):=I.loc;exact free _ o (λz=>(K _ z).2.1 U) ho I.free
 ·let(v,o,ho,hd):=I.cell x c e;exact free c o (λz=>(K c z).2.2.1 x c e U) ho (I.eJ x c e)
 let(e,n,ne,nf,d):=I.pin p hp;have g:=λz=>(K p.1 z).2.2.2 p hp U;exact(keep p.1 p.2 ne nf g e n,free p.1 p.2 g e n,ne,nf,d)
def Inv.un(I:Inv X gd σ H s)(u:Un X.fs [] H H' s.heap h')(hok:HOk X.prog X.w H' h'):Inv X gd σ H' {s with heap:=h',toks:=t'}:=by let(m,(o,es,Q,ho,r),_):=id I.loc;let(sl,hL):=u.any ho I.free ba;exact I.step (ch:=[]) nofun (λb o _ q _ e n=>u.keep b o e n q ba) (λb o _ q _ e n=>u.slot b o e n q ba) (λb o _ e n=>u.free b o e n ba) (λb o _ e=>u.there b o e ba) u.n8 u.kC u.og (λm' hm=>by let(o',K,P,g,r'):=hm;rw[ho]at g;cases g;exact(_,K,P,hL,r')) hok I.bare
def Inv.call{g':Array GenState}{t':Nat}{d':Drawn}{ch:Θ}(I:Inv X gd σ H s)(u:Un (frs X.stack) ch H H' s.heap h')(hok:HOk X.prog X.w H' h')(hg:AllBare g')
  (K:∀b∈ch,(b∈X.ex\/X.s₀.heap.objs.size<=b)/\b≠X.env.locals/\(∀x c,X.env.cells.lookup x=Z c->c≠b)/\∀p∈X.pn++gd,p.1≠b):
  Inv X gd σ H' {s with heap:=h',gens:=g',drawn:=d',toks:=t'}:=by
 let(m,(o,es,ep,ho,r),_):=id I.loc;let(sl,hL):=u.any ho I.free λz=>(K _ z).2.1 U;exact I.step K (λb o hL V g e n=>u.keep b o e n (λz=>(lb.mp (I.qI b z)).elim hL V) g) (λb o _ _ g e n=>u.any e n g) (λb o g e n=>u.free b o e n g) (λb o g e=>u.there b o e g) u.n8 u.kC u.og (λm' hm=>by let(o',P,Q,q,r'):=hm;rw[ho]at q;cases q;exact(_,P,Q,hL,r')) hok hg
def Inv.turned(I:Inv X gd σ H s)(k:∀b o,b≠it->s.heap.get? b=Z o->h'.get? b=Z o)(hn:H it=Y)(hL:it≠X.env.locals)
  (h1:it∈X.ex\/X.s₀.heap.objs.size<=it) (h2:∀x c,X.env.cells.lookup x=Z c->c≠it) (h3:∀p∈X.pn++gd,p.1≠it):Inv X gd σ H {s with heap:=h',toks:=t'}:=by
 have K:∀b u,H b=Z u->b≠it:=λb u e z=>by rw[z,hn]at e;cases e
 refine I.step (ch:=[it]) (λb P=>?_) (λb o _ _ g e _=>k b o (λz=>g (by simp[z])) e) (λb o _ _ g e _=>(o.slots,k b o (λz=>g (by simp[z])) e)) (λ_ _ _ _ n=>n)
  (λb o g e=>(o,k b o (λz=>g (by simp[z])) e)) (λ_ _ e=>e) (λ_ _ _ e=>e) (λb ps e=>(#[],by rw[e];simp)) (λm hm=>?_) (λb u e=>?_) I.bare
 ·have e:=(P:);subst e;exact(h1,hL,h2,h3)
 ·let(o,es,Q,ho,r):=hm;exact(o,es,Q,k _ o (Ne.symm hL) ho,r)
 refine(I.hok b u e).dO (λc v g q=>k c v ?_ q) (λ_ q=>q) λ_ _ q=>q;obtain z|z:=g
 ·rw[z];exact K b u e
 exact K c _ z
def Inv.tok(I:Inv X gd σ H s)(t:Nat):Inv X gd σ H {s with toks:=t}:=I.un Un.refl I.hok
theorem Inv.kept{t':Nat}(I:Inv X gd σ H s)(k:∀b u,s.heap.get? b=Z u->h'.get? b=Z u):Inv X gd σ H {s with heap:=h',toks:=t'}:=I.un (Un.kept k) (I.hok.kept k)
theorem Inv.laid{a:J}{o:HO}{t':Nat}(I:Inv X gd σ H s)(k:∀b u,s.heap.get? b=Z u->h'.get? b=Z u)(hp:s.heap.objs.size<=a)(new:cz X.prog X.w (upd H a o) h' a o):
  Inv X gd σ (upd H a o) {s with heap:=h',toks:=t'}:=I.un (Un.laid k hp (I.hok.fresh hp)) (I.hok.laid k hp new)
theorem Inv.write{x e:J}{o:HO}{t':Nat}(I:Inv X gd σ H s)(q:Mut (H x))(he:e=x\/H e=Z (.own x))(k:∀b u,b≠e->s.heap.get? b=Z u->h'.get? b=Z u)(g:∃u,h'.get? e=Z u)
  (new:cz X.prog X.w (upd H x o) h' x o):Inv X gd σ (upd H x o) {s with heap:=h',toks:=t'}:=I.un (Un.write q he k g) (I.hok.write q he k g new)
def Inv.oN{pins':Ξ}(I:Inv X gd σ H s)(h:∀p∈pins',s.heap.get? p.1=Z p.2/\H p.1=Y/\p.1≠X.env.locals/\p.1 ∉ X.fs/\∀v,p.2.data ≠ .cell v):Inv X pins' σ H s:=
 (I.ok,I.os,I.bare,I.base,I.loc,I.cell,I.free,I.eJ,λp hp=>(lN.mp hp).elim (λz=>I.pin p (ui _ z)) (h p),I.hok,I.len)
def vF(g:N.Nodup){i:Nat}(a:N[i]?=Z x)(b:N[j]?=Z x):i=j:=by let(h1,e1):=gs.mp a;let(h2,q):=gs.mp b;exact(ac1 g).mp (e1.trans q.symm)
abbrev BC(X:Cx)(x:Str):Prop:=X.fn x=true\/X.env.scope.names.lookup x=some .local
def HF{M:Model}{A:Do}{E:Φ}{i:Nat}{v:V}{Q:Unit->ϋ->Prop}(I:Inv X gd σ H s)(hN:X.N.Nodup)(hi:X.N[i]?=Z x)(hx:Loc X.env.scope x)(r:RelV v u)
  (h:∀s',Inv X gd (σ.set i (Z v)) H s'->(∃a,ZT a s.heap s'.heap/\(a=X.env.locals\/X.env.cells.lookup x=Z a))->Q () s') (hf:BC X x:=by first|exact .inl rfl|exact .inr rfl|assumption):wpAny M A (storeName X.env x u) Q E s:=by
 let(m,hn,hl):=id I.loc;have Ce:(X.env.scope.kind == .class ||(X.env.scope.kind == .module&&X.env.locals != X.env.globals))=false:=by rw[I.ok.kind];rfl
 have P:i < σ.length:=by rw[I.len];exact(gs.mp hi).1
 have cne:=I.cne;have tracked:∀{a:J}{h':Ev},(∃o,s.heap.get? a=Z o/\H a=Y)->ZT a s.heap h'->HOk X.prog X.w H h':=λ{a h'} ha hs b ob e=>by
  let(_,_,ke):=ha;refine(I.hok b ob e).dO (λc w' g q=>(hs.2 c ?_).trans q) (λ_ q=>q) λ_ _ q=>q;rintro rfl;obtain rfl|g:=g
  ·rw[ke]at e;cases e
  rw[ke]at g;cases g
 obtain hk|hk:=hx
 ·refine wpAny_storeName_local hk hn (λh' a0 hs=>?_) Ce;let(oL,_,_,aW,_):=id hn;refine h _ (I.ok,I.os,I.bare,(λb o e n hb hx=>?_,λb o e n hb hx=>?_,I.base.free,λb o e hx=>?_,I.base.n8,I.base.kC,I.base.og),(_,a0,λj y v' e1 K e3=>?_),λy c e=>?_,I.free,I.eJ,λp hp=>?_,tracked (oL,aW,I.free) hs,(I.len:)) (_,hs,.inl U)
  ·exact(hs.2 b (uj (rz (kf e) I.ok.above))).trans (I.base.keep b o e n hb hx)
  ·let(sl,e1):=I.base.slot b o e n hb hx;exact(sl,(hs.2 b (uj (rz (kf e) I.ok.above))).trans e1)
  ·let(o',e1):=I.base.there b o e hx;exact(o',(hs.2 b (uj (rz (kf e) I.ok.above))).trans e1)
  ·by_cases hj:j=i
   ·subst hj;rw[hi]at e1;cases e1;rw[Xy P]at K;cases K;exact(u,r,.inl (hk,ba))
   rw[Fe (Ne.symm hj)]at K;let(u',r',q):=hl j y v' e1 K e3;refine(u',r',?_);obtain⟨k,e⟩|⟨k,c,e,z⟩:=q
   ·refine .inl (k,?_);have:y≠x:=λe=>hj (vF hN e1 (e▸hi));simp[this,e]
   exact .inr (k,c,e,z.sameBut hs (cne y c e))
  ·let(w',z):=I.cell y c e;exact(w',z.sameBut hs (cne y c e))
  let(e,n,ne,nf,d):=I.pin p hp;exact((hs.2 p.1 ne).trans e,n,ne,nf,d)
 have ak:X.fn x=true:=by
  obtain z|z:=hf
  ·exact z
  rw[z]at hk;cases hk
 let(c,g):=I.ok.has x (.inl hk);let(w',z):=I.cell x c g;refine wpAny_storeName_cell I.ok.kind hk g z (λh' aK hs=>?_);let(oc,ar,YQ):=id z;refine h {s with heap:=h'} (I.ok,I.os,I.bare,(λb o e n hb hx=>?_,λb o e n hb hx=>?_,I.base.free,λb o e hx=>?_,I.base.n8,I.base.kC,I.base.og),(m,hn.sameBut hs (Ne.symm (cne x c g)),λj y v' e1 K e3=>?_),λy c' e=>?_,I.free,I.eJ,λp hp=>?_,tracked (oc,ar,I.eJ x c g) hs,(I.len:)) (c,hs,.inr g)
 ·exact(hs.2 b (uj (rz (kf e) (I.ok.cab x c ak g)))).trans (I.base.keep b o e n hb hx)
 ·let(sl,e1):=I.base.slot b o e n hb hx;exact(sl,(hs.2 b (uj (rz (kf e) (I.ok.cab x c ak g)))).trans e1)
 ·let(o',e1):=I.base.there b o e hx;exact(o',(hs.2 b (uj (rz (kf e) (I.ok.cab x c ak g)))).trans e1)
 ·by_cases hj:j=i
  ·subst hj;rw[hi]at e1;cases e1;rw[Xy P]at K;cases K;exact(u,r,.inr (.inl hk,c,g,aK))
  rw[Fe (Ne.symm hj)]at K;let(u',r',q):=hl j y v' e1 K e3;refine(u',r',?_);obtain q |⟨k,c',e,z'⟩:=q
  ·exact .inl q
  refine .inr (k,c',e,z'.sameBut hs ?_);rintro rfl;exact hj (vF hN e1 (I.ok.inj _ _ _ e g▸hi))
 ·by_cases aF:c'=c
  ·subst aF;exact(_,aK)
  let(w2,z2):=I.cell y c' e;exact(w2,z2.sameBut hs aF)
 let(e,n,ne,nf,d):=I.pin p hp;refine((hs.2 p.1 ?_).trans e,n,ne,nf,d);intro q;rw[q,ar]at e;have q':=Option.some.inj e;exact d w' (by rw[<- q'];exact YQ)
def iT{M:Model}{A:Do}{E:Φ}{i:Nat}{v:V}{Q:Unit->ϋ->Prop}(I:Inv X gd σ H s)(g:X.N.Nodup)(hi:X.N[i]?=Z x)(hx:Loc X.env.scope x)(r:RelV v u)
  (h:∀s',Inv X gd (σ.set i (Z v)) H s'->Q () s') (hf:BC X x:=by first|exact .inl rfl|exact .inr rfl|assumption):wpAny M A (storeName X.env x u) Q E s:=
 HF I g hi hx r (λs' q _=>h s' q) hf
def Inv.Cz(I:Inv X gd σ H s)(ho:s'.os=s.os)(u:Un (frs X.stack) ch H H' s.heap s'.heap)(hok:HOk X.prog X.w H' s'.heap)(hg:AllBare s'.gens)
  (g:∀b∈ch,(b∈X.ex\/X.s₀.heap.objs.size<=b)/\b≠X.env.locals/\(∀x c,X.env.cells.lookup x=Z c->c≠b)/\∀p∈X.pn++gd,p.1≠b):Inv X gd σ H' s':=by
 let(h',g',q,t',o'):=s';have e:=ho;subst e;exact I.call u hok hg g
end
abbrev XK:=B->Option J->Hp->Prop
abbrev St:=List (Option V)
abbrev VK:=V->Hp->Prop
abbrev TE:=St->Hp->VK->Prop
abbrev TT:=St->Hp->(Bool->Hp->Prop)->Prop
abbrev TA:=St->Hp->(Ω->Hp->Prop)->Prop
structure Ends where
 nx:St->Hp->Prop
 rt:VK
 bk:St->Hp->Prop:=λ_ _=>False
 ct:St->Hp->Prop:=λ_ _=>False
abbrev TS:=Ends->St->Hp->Prop
inductive EP(X:Cx)(gd:Ξ)(σ:St)(Q:VK)(u:B)(s':ϋ):Prop
 |mk(v H':_)(h1:Inv X gd σ H' s')(h2:RelV v u)(h3:Q v H')
inductive TP(X:Cx)(gd:Ξ)(σ:St)(Q:Bool->Hp->Prop)(b:Bool)(s':ϋ):Prop
 |mk(H':_)(h1:Inv X gd σ H' s')(h2:Q b H')
inductive AP(X:Cx)(gd:Ξ)(σ:St)(Q:Ω->Hp->Prop)(us:Δ)(s':ϋ):Prop
 |mk(vs H':_)(h1:Inv X gd σ H' s')(h2:Vals vs us)(h3:Q vs H')
def SP(X:Cx)(gd:Ξ)(D:Ends)(f:Flow)(s':ϋ):Prop:=
 match f with|.next=>∃g H',Inv X gd g H' s'/\D.nx g H'|.brk=>∃g H',Inv X gd g H' s'/\D.bk g H'|.cont=>∃g H',Inv X gd g H' s'/\D.ct g H'|.ret u=>∃v g H',Inv X gd g H' s'/\RelV v u/\D.rt v H'
def PE(X:Cx)(e:EQ)(t:TE):Prop:=
 ∀(gd:Ξ)(s:ϋ)(σ:St)(H:Hp)(Q:VK),Inv X gd σ H s->t σ H Q->XV X (eval e X.env) (EP X gd σ Q) X.xe s
def PT(X:Cx)(e:EQ)(t:TT):Prop:=
 ∀(gd:Ξ)(s:ϋ)(σ:St)(H:Hp)(Q:Bool->Hp->Prop),Inv X gd σ H s->t σ H Q->XV X (isTrue e X.env (eval e X.env)) (TP X gd σ Q) X.xe s
def PW(X:Cx)(e:EQ)(t:TT):Prop:=
 ∀(whole:Sem B)(gd:Ξ)(s:ϋ)(σ:St)(H:Hp)(Q:Bool->Hp->Prop),Inv X gd σ H s->t σ H Q->XV X (isTrue e X.env whole) (TP X gd σ Q) X.xe s
variable{X:Cx}{e:EQ}
def PW.pt{t:TT}(h:PW X e t):PT X e t:=h _
def PA(X:Cx)(es:List EQ)(t:TA):Prop:=
 ∀(pos:Pos)(gd:Ξ)(s:ϋ)(σ:St)(H:Hp)(Q:Ω->Hp->Prop),Inv X gd σ H s->t σ H Q->XV X (spliced (backTo pos (j7 es X.env))) (AP X gd σ Q) X.xe s
def PS(X:Cx)(st:Fa)(t:TS):Prop:=
 ∀(gd:Ξ)(s:ϋ)(σ:St)(H:Hp)(D:Ends),Inv X gd σ H s->t D σ H->XV X (exec st X.env) (SP X gd D) X.xe s
def PSs(X:Cx)(st:List Fa)(t:TS):Prop:=
 ∀(gd:Ξ)(s:ϋ)(σ:St)(H:Hp)(D:Ends),Inv X gd σ H s->t D σ H->XV X (execs st X.env) (SP X gd D) X.xe s
variable{M:Model}{A:Do}{E:Φ}
def thn{α:Type}{t:Sem α}{Q Q':α->ϋ->Prop}{s:ϋ}(h:wpAny M A t Q E s)(g:∀a s,Q a s->Q' a s):wpAny M A t Q' E s:=QG h g λ_ _ x=>x
variable{gd:Ξ}{Q:Φ}{op:CmpOp}
section
inductive b8(i:Nat)(σ:St)(H:Hp)(Q:VK):Prop
 |mk(v:_)(h1:σ[i]?=Z (Z v))(h2:Q v H)
def tC(v:V):TE:=λ_ H Q=>Q v H
abbrev AT(x:Str):Prop:=(x ==("__debug__":Str))=false
def Lv{i:Nat}{pos:Pos}(K:X.N[i]?=Z x)(hv:Vis X.env.scope x)(hd:autoParam (AT x) zdc._auto_1)(g:autoParam ((x ==("__classdict__":Str))=false) zdc._auto_1):PE X (.Name x pos) (b8 i):=by
 left;let(v,e,h):=h;let(m,hn,hl):=I.loc;let(u,r,l):=hl i x v K e hv;have fin:EP X gd σ Q u s:=(v,H,I,r,h);obtain⟨hk,hm⟩|⟨hk,c,z,q⟩:=l
 ·exact wpAny_Name (wpAny_loadName_local I.ok.kind hk hn hm fin) hd
 obtain hk|hk:=hk
 ·exact wpAny_Name (wpAny_loadName_cell I.ok.kind hk z q fin) hd
 exact wpAny_Name (wpAny_loadName_free I.ok.kind hk z q fin g) hd
def bV{i j pos}:PE X (.Constant (.int i) j pos) (tC (.int i)):=λ_ _ _ H _ I h=>wpAny_Constant_int (.int i,H,I.tok _,(_,U),h)
def W8{b j pos}:PE X (.Constant (.bool b) j pos) (tC (.bl b)):=λ_ _ _ H _ I h=>Constant_bool (.bl b,H,I,U,h)
def UK{j pos}:PE X (.Constant .none j pos) (tC .non):=λ_ _ _ H _ I h=>Constant_none (.non,H,I,U,h)
def d8{x j pos}:PE X (.Constant (.str x) j pos) (tC (.str x)):=λ_ _ _ H _ I h=>Calls.Constant_str (.str x,H,I.tok _,(_,U),h)
def Gl(X:Cx)(x:Str):Prop:=X.env.kindOf x=Z .globalImplicit
def l9{E:Φ}{s:ϋ}{σ:St}{pos:Pos}(I:Inv X gd σ H s)(hg:Gl X x)(hm:X.mg x=Z u)(h:Q u s)
  (hd:autoParam (AT x) zdc._auto_1):XV X (eval (.Name x pos) X.env) Q E s:=
 Calls.Name_function_global I.ok.kind hg (Calls.loadGlobal_global (by rw[I.ok.glob];exact I.mod.glob.keeps I.bk) hm h) hd
def gQ{E:Φ}{s:ϋ}{σ:St}{pos:Pos}(I:Inv X gd σ H s)(hg:Gl X x)(hm:X.mg x=Y)(hv:bootBuiltins x=Z u)(h:Q u s)
  (hn:autoParam (x ≠ "__name__") zdc._auto_1) (hd:autoParam (AT x) zdc._auto_1):XV X (eval (.Name x pos) X.env) Q E s:=by
 let(mb,h1,h2):=I.mod.blt;exact Calls.Name_function_global I.ok.kind hg (Calls.loadGlobal_builtin (by rw[I.ok.glob];exact I.mod.glob.keeps I.bk) hm (by rw[I.ok.blt];exact h1.keeps I.bk) ((h2 x hn).trans hv) h) hd
def Po{v:V}{pos:Pos}(hg:Gl X x)(hm:X.mg x=Z u)(r:RelV v u)(hd:autoParam (AT x) zdc._auto_1):PE X (.Name x pos) (tC v):=
 λ_ _ _ H _ I h=>l9 I hg hm (v,H,I,r,h) hd
def Pu{v:V}{pos:Pos}(hg:Gl X x)(hm:X.mg x=Y)(hv:bootBuiltins x=Z u)(r:RelV v u)(hn:autoParam (x ≠ "__name__") zdc._auto_1)(hd:autoParam (AT x) zdc._auto_1):PE X (.Name x pos) (tC v):=
 λ_ _ _ H _ I h=>gQ I hg hm hv (v,H,I,r,h) hn hd
variable{a b:EQ}{ta tb:TE}{pos:Pos}
def LW(b:EQ)(h:op ≠ .In)(h2:op ≠ .NotIn):behindInMarks op b=false:=by
 have e1:(op==CmpOp.In)=false:=by cases op <;> first|rfl|exact absurd U h
 have g:(op==CmpOp.NotIn)=false:=by cases op <;> first|rfl|exact absurd U h2
 cases b with
 |Set elts k pos =>
  show(k==0&&(op==CmpOp.In||op==CmpOp.NotIn)&&_)=ϊ;rw[e1,g];cases(k==0) <;> rfl
 |_=>rfl
variable{tA tB':TT}{rest:List EQ}
def Tr(t u:TT):TT:=λσ H Q=>t σ H λc H1=>if c=O then u σ H1 Q else Q ϊ H1
def tOr(t u:TT):TT:=λσ H Q=>t σ H λc H1=>if c=O then Q O H1 else u σ H1 Q
def To(t:TT):TT:=λσ H Q=>t σ H λc H1=>Q (!c) H1
def FQ(g:PT X a tA):PW X (.BoolOp .And [a] pos) tA:=by intro q gd s σ H Q I h;refine isTrue_and (thn (g gd s σ H Q I h) λc s1 e=>?_);cases c with|true=>exact isTrue_and_nil e|false=>exact e
def Uo(g:PT X a tA):PW X (.BoolOp .Or [a] pos) tA:=by intro q gd s σ H Q I h;refine isTrue_or (thn (g gd s σ H Q I h) λc s1 e=>?_);cases c with|false=>exact isTrue_or_nil e|true=>exact e
def K7(V:PT X a tA)(P:PW X (.BoolOp .And (b::rest) pos) tB'):PW X (.BoolOp .And (a::b::rest) pos) (Tr tA tB'):=by intro K gd s σ H Q I h;refine isTrue_and (thn (V gd s σ H _ I h) λc s1 g=>?_);let(H1,z,q):=g;cases c with|true=>exact P K gd s1 σ H1 Q z q|false=>exact(H1,z,q)
def WU(V:PT X a tA)(P:PW X (.BoolOp .Or (b::rest) pos) tB'):PW X (.BoolOp .Or (a::b::rest) pos) (tOr tA tB'):=by intro K gd s σ H Q I h;refine isTrue_or (thn (V gd s σ H _ I h) λc s1 g=>?_);let(H1,z,q):=g;cases c with|true=>exact(H1,z,q)|false=>exact P K gd s1 σ H1 Q z q
def Us(g:PT X a tA):PT X (.UnaryOp .Not a pos) (To tA):=by left;refine isTrue_not (thn (g gd s σ H (λc H1=>Q (!c) H1) I h) λc s' z=>?_);let(H',K,q):=z;exact(H',K,q)
def JS(ta tb:TE):TE:=λσ H Q=>ta σ H λx H1=>∃c,x=.bl c/\if c=O then tb σ H1 Q else Q (.bl ϊ) H1
def Tn(ta tb:TE):TE:=λσ H Q=>ta σ H λx H1=>∃c,x=.bl c/\if c=O then Q (.bl O) H1 else tb σ H1 Q
def UJ{op}{t:TE}(h:PE X a t):PE X (.BoolOp op [a] pos) t:=λgd s σ H Q I hw=>BoolOp_one (h gd s σ H Q I hw)
def UM(V:PE X a ta)(P:PE X (.BoolOp .And (b::rest) pos) tb):PE X (.BoolOp .And (a::b::rest) pos) (JS ta tb):=by left;refine BoolOp_and (thn (V gd s σ H _ I h) λv s1 q=>?_);let(x,H1,z,K,g):=q;let(c,U,g):=g;cases K;refine wpAny_truthy_bool ?_;cases c with|true=>exact P gd s1 σ H1 Q z g|false=>exact(.bl ϊ,H1,z,U,g)
def W7(V:PE X a ta)(P:PE X (.BoolOp .Or (b::rest) pos) tb):PE X (.BoolOp .Or (a::b::rest) pos) (Tn ta tb):=by left;refine BoolOp_or (thn (V gd s σ H _ I h) λv s1 q=>?_);let(x,H1,z,K,g):=q;let(c,U,g):=g;cases K;refine wpAny_truthy_bool ?_;cases c with|false=>exact P gd s1 σ H1 Q z g|true=>exact(.bl O,H1,z,U,g)
end
def SqL(K:Ch)(H:Hp)(a:J)(xs:Ω):Prop:=
 Rd H a (.lst xs) \/
  ∃(o:Obj)(its:Array B)(n:Nat),K.lookup a=Z o/\o.cls=.type "list" /\ o.dict=Y/\o.data=.seq its n/\its.size<=lK/\Vals xs its.toList
def SqT(K:Ch)(H:Hp)(a:J)(xs:Ω):Prop:=
 Rd H a (.tup xs) \/
  ∃(o:Obj)(its:Array B)(n:Nat),K.lookup a=Z o/\o.cls=.type "tuple" /\ o.data=.seq its n/\its.size<=lK/\Vals xs its.toList
def Y9:B->Option V
 |.none=>Z .non|.bool b=>Z (.bl b)|.int i _=>Z (.int i)|.str x _=>Z (.str x)|.bytes b _=>Z (.byt b)|.float b _=>Z (.flt b)|.ref a=>Z (.ref a)|.type n=>Z (.ty n)|_=>Y
def RelV.abs{x:V}(r:RelV x u):Y9 u=Z x:=by
 cases x with
 |non=>cases r;rfl
 |bl _=>cases r;rfl
 |int _=>let(t,U):=r;rfl|str _=>let(t,U):=r;rfl|byt _=>let(t,U):=r;rfl|flt _=>let(t,U):=r;rfl|ref _=>cases r;rfl
 |ty _=>cases r;rfl
theorem RelV.inj{x y:V}{u:B}(r:RelV x u)(q:RelV y u):x=y:=Option.some.inj (r.abs.symm.trans q.abs)
theorem Vals.inj:∀{xs ys:Ω}{us:Δ},Vals xs us->Vals ys us->xs=ys:=by
 intro xs ys us h;induction h generalizing ys with
 |nil=>intro h';cases h';rfl
 |cons r t g=>intro h';cases h' with|cons r' t'=>rw[r.inj r',g t']
section
variable{σ:St}{s:ϋ}{xs ys:Ω}
theorem SqL.of{K:Ch}(h:H a=Z (.lst xs)):SqL K H a xs:=.inl (.inl h)
theorem SqT.of{K:Ch}(h:H a=Z (.tup xs)):SqT K H a xs:=.inl (.inl h)
def Inv.list(I:Inv X gd σ H s)(h:SqL X.K H a xs):∃its:Δ,Vals xs its/\PlainL s.heap a its.toArray/\xs.length<=lK:=by
 obtain h |⟨o,its,n,hk,g,hd,hs,q,r⟩:=h
 ·let(z,its,n,r,e):=h.ok I.hok;exact(its,r,(_,n,e,U,U,U),z)
 refine(its.toList,r,(o,n,I.kIn a o hk,g,hd,(hs:)),?_);have e:=r.length;simp only[Zz]at e;lia
def Inv.tuple(I:Inv X gd σ H s)(h:SqT X.K H a xs):∃its:Δ,Vals xs its/\IsTup s.heap a its.toArray/\xs.length<=lK:=by
 obtain h |⟨o,its,n,hk,g,hs,q,r⟩:=h
 ·let(z,its,r,p):=h.ok I.hok;exact(its,r,p.1,z)
 refine(its.toList,r,(o,I.kIn a o hk,g,n,(hs:)),?_);have e:=r.length;simp only[Zz]at e;omega
def Inv.BY(I:Inv X gd σ H s)(h:SqL X.K H a xs)(h':SqL X.K H a ys):xs=ys:=by
 let(its,r,(o,n,e,_,_,d),_):=I.list h;let(z,r',(o',P,g,_,_,q),_):=I.list h';rw[e]at g;cases g;rw[d]at q;injection q with d1 _
 have:=(congrArg Array.toList d1:);subst this;exact r.inj r'
def Inv.yl(I:Inv X gd σ H s)(h:SqT X.K H a xs)(h':SqT X.K H a ys):xs=ys:=by
 let(its,r,(o,e,_,n,d),_):=I.tuple h;let(z,r',(o',g,_,P,q),_):=I.tuple h';rw[e]at g;cases g;rw[d]at q;injection q with d1 _
 have:=(congrArg Array.toList d1:);subst this;exact r.inj r'
end
abbrev Cx.xk(X:Cx)(E:Φ):Cx:={X with xe:=E}
abbrev Cx.nox(X:Cx):Cx:=X.xk λ_ _=>False
theorem Cx.Ok.xk{X:Cx}(ok:X.Ok)(E:Φ):(X.xk E).Ok:=
 (ok.mod,ok.kind,ok.glob,ok.blt,ok.above,ok.inj,ok.has,ok.cab,ok.hd,ok.frames,ok.stk,ok.exf,ok.bs,ok.bsz,ok.Ec,ok.IP,ok.mx,ok.frf)
def Cx.Ok.kD(ok:(X.xk E).Ok):X.Ok:=
 (ok.mod,ok.kind,ok.glob,ok.blt,ok.above,ok.inj,ok.has,ok.cab,ok.hd,ok.frames,ok.stk,ok.exf,ok.bs,ok.bsz,ok.Ec,ok.IP,ok.mx,ok.frf)
section
variable{σ:St}{s:ϋ}
theorem Inv.xk(I:Inv X gd σ H s)(E:Φ):Inv (X.xk E) gd σ H s:=(I.ok.xk E,I.os,I.bare,I.base,I.loc,I.cell,I.free,I.eJ,I.pin,I.hok,I.len)
theorem Inv.kD(I:Inv (X.xk E) gd σ H s):Inv X gd σ H s:=(I.ok.kD,I.os,I.bare,I.base,I.loc,I.cell,I.free,I.eJ,I.pin,I.hok,I.len)
theorem SP.kD{D:Ends}{f:Flow}{s':ϋ}(h:SP (X.xk E) gd D f s'):SP X gd D f s':=by cases f with|next=>let(g,H',I,q):=h;exact(g,H',I.kD,q)|brk=>let(g,H',I,q):=h;exact(g,H',I.kD,q)|cont=>let(g,H',I,q):=h;exact(g,H',I.kD,q)|ret u=>let(v,g,H',I,r,q):=h;exact(v,g,H',I.kD,r,q)
theorem PSs.nox{st:List Fa}{t:TS}(h:PSs X.nox st t):PSs X st t:=λgd s σ H D I hw =>
 QG (h gd s σ H D (I.xk _) hw) (λ_ _ q=>q.kD) λ_ _ z=>False.elim z
end
section
variable{st:Fa}{rest:List Fa}{t u:TS}{te:TE}{pos:Pos}
def RJ:TS:=λD σ H=>D.nx σ H
def Ti(t u:TS):TS:=λD σ H=>t {D with nx:=u D} σ H
def FU:PSs X [] RJ:=λ_ _ σ H _ I h=>wpAny_execs_nil (σ,H,I,h)
def bI(h1:PS X st t)(h2:PSs X rest u):PSs X (st::rest) (Ti t u):=by right;refine wpAny_execs_cons (thn (h1 gd s σ H {D with nx:=u D} I h) λf s1 q=>?_);cases f with|next =>let(g,H',z,q):=q;exact h2 gd s1 g H' D z q|ret v=>exact q|brk=>exact q|cont=>exact q
def gx(h1:PS X st t):PSs X [st] t:=by right;refine wpAny_execs_cons (thn (h1 gd s σ H D I h) λf s1 q=>?_);cases f with|next=>exact wpAny_execs_nil q|ret v=>exact q|brk=>exact q|cont=>exact q
def Inv.quiet{σ:St}{s:ϋ}(I:Inv X gd σ H s):interactive X.env=false:=by simp[interactive,I.ok.kind]
def oh(te:TE):TS:=λD σ H=>te σ H λ_ H1=>D.nx σ H1
def oK(he:PE X e te)(hs:‹swapsWith e Y pos.line X.env=pure false›):PS X (.Expr e pos) (oh te):=by right;exact wpAny_Expr_any (thn (he gd s σ H _ I h) λv s1 (x,H1,q,z,g)=>(σ,H1,q,g)) I.quiet hs
def N6(te:TE):TS:=λD σ H=>te σ H D.rt
def qW(he:PE X e te):PS X (.Return (Z e) pos) (N6 te):=by right;exact wpAny_Return_some (thn (he gd s σ H _ I h) λv s1 (x,H1,z,g,q)=>(x,σ,H1,z,g,q))
def Tp(c:TT)(t u:TS):TS:=λD σ H=>c σ H λb H1=>if b=O then t D σ H1 else u D σ H1
def Lf{c:EQ}{a b:List Fa}{tc:TT}(K:PT X c tc)(Q:PSs X a t)(P:PSs X b u):PS X (.If c a b pos) (Tp tc t u):=by right;refine wpAny_If (thn (K gd s σ H _ I h) λd s1 g=>?_);let(H1,z,q):=g;cases d with|true=>exact Q gd s1 σ H1 D z q|false=>exact P gd s1 σ H1 D z q
end
abbrev TG:=V->St->Hp->(St->Hp->Prop)->Prop
abbrev TGs:=Ω->St->Hp->(St->Hp->Prop)->Prop
def PG(X:Cx)(target:EQ)(t:TG):Prop:=
 ∀(gd:Ξ)(s:ϋ)(σ:St)(H:Hp)(v:V)(u:B)(Q:St->Hp->Prop),Inv X gd σ H s->RelV v u->t v σ H Q ->
  XV X (assign target X.env u) (λ_ s'=>∃g H',Inv X gd g H' s'/\Q g H') X.xe s
def PGs(X:Cx)(ts:List EQ)(t:TGs):Prop:=
 ∀(gd:Ξ)(s:ϋ)(σ:St)(H:Hp)(vs:Ω)(us:Δ)(Q:St->Hp->Prop),Inv X gd σ H s->Vals vs us->t vs σ H Q ->
  XV X (assignInOrder ((assignEach ts X.env).map (·.2)) us) (λ_ s'=>∃g H',Inv X gd g H' s'/\Q g H') X.xe s
abbrev VZ:=V->V->V->Hp->(Hp->Prop)->Prop
def V1(X:Cx)(t:VZ):Prop:=
 ∀(gd:Ξ)(s:ϋ)(σ:St)(H:Hp)(o i v:V)(g iv u:B)(Q:Hp->Prop),Inv X gd σ H s->RelV o g->RelV i iv->RelV v u->t o i v H Q ->
  XV X (setItem g iv u) (λ_ s'=>∃H',Inv X gd σ H' s'/\Q H') X.xe s
variable{es:List EQ}{n:Nat}{o:EQ}{to:TE}{tg:EQ}{te:TE}{pos':Pos}{b:EQ}{py:Pos}
section
variable{pos:Pos}
def gS(i:Nat):TG:=λv σ H Q=>Q (σ.set i (Z v)) H
def oR{i:Nat}(g:X.N.Nodup)(hi:X.N[i]?=Z x)(hx:Loc X.env.scope x)(hf:BC X x:=by first|exact .inl rfl|exact .inr rfl|assumption):PG X (.Name x pos) (gS i):=by intro gd s σ H v u Q I r h;exact wpAny_assign_Name (iT I g hi hx r (λs' q=>(_,H,q,h)) hf)
def VC:TGs:=λvs σ H Q=>vs=[]/\Q σ H
def Gm(t:TG)(u:TGs):TGs:=λvs σ H Q=>∃v r,vs=v::r/\t v σ H λg H'=>u r g H' Q
def oP:PGs X [] VC:=by intro gd s σ H vs us Q I r h;let(e,h):=h;subst e;exact assignInOrder_nil (σ,H,I,h)
def cj{t:TG}{u:TGs}(h1:PG X e t)(h2:PGs X es u)
  (hs:‹(assignEach (e::es) X.env).map (·.2)=assign e X.env ::(assignEach es X.env).map (·.2)›):PGs X (e::es) (Gm t u):=by
 intro gd s σ H vs us Q I r h;let(v,P,e1,h):=h;subst e1;cases r with|cons r q =>rw[hs];exact assignInOrder_cons (thn (h1 gd s σ H _ _ _ I r h) λ_ s1 (g,H1,K,z)=>(h2 gd s1 g H1 _ _ Q K q z))
inductive QM(K:Ch)(n:Nat)(t:TGs)(v:V)(σ:St)(H:Hp)(Q:(St->Hp->Prop)):Prop
 |mk(a xs:_)(h1:v=.ref a)(h2:SqT K H a xs)(h3:xs.length=n)(h4:t xs σ H Q)
def UI{k:Nat}{t:TGs}(P:X.calm=O)(h:PGs X es t)
  (hn:‹(assignEach es X.env).length=n›) (g:‹(assignEach es X.env).findIdx? (·.1)=none›):PG X (.Tuple es k pos) (QM X.K n t):=by
 intro gd s σ H v u Q I r hw;let(a,xs,e1,hq,hl,hw):=hw;subst e1;cases r;let(its,q,z,hz):=I.tuple hq;refine assign_Tuple_tuple (I.ok.hd P) z (by simp[hn,<- hl,q.length]) g λh' hx=>?_;have V:=I.kept (t':=s.toks) λb o e=>hx b o (uj (kf e)) e;exact h gd _ σ H xs _ Q V (q:) hw
def Mz(to ti:TE)(t:VZ):TG:=λv σ H Q=>to σ H λo H1=>ti σ H1 λi H2=>t o i v H2 λg=>Q σ g
def Lu{i:EQ}{ti:TE}{t:VZ}(ho:PE X o to)(hi:PE X i ti)(hs:V1 X t)
  (ha:∀v,assign (.Subscript o i pos) X.env v=(do
let g <- holding [v] (eval o X.env)
let iv <- holding [v,g] (eval i X.env)
standAt pos
holding [v,g,iv] (setItem g iv v)
release [v,g,iv] []):=by intro _;rfl):PG X (.Subscript o i pos) (Mz to ti t):=by
 intro gd s σ H v u Q I r h;exact eB (Rw (thn (ho gd s σ H _ I h) λg s1 (x,H1,I1,z,V)=>(eB (Rw (thn (hi gd s1 σ H1 _ I1 V) λiv s2 (y,H2,I2,q,P)=>(eB (wpAny_standAt (eB (Rw (thn (hs gd s2 σ H2 x y v g iv u _ I2 z q r P) λ_ s3 (H3,I3,K)=>(wpAny_release (σ,H3,I3,K))))))))))))
def kz(te:TE)(g:TG):TS:=λD σ H=>te σ H λx H1=>g x σ H1 D.nx
def zX{g:TG}(he:PE X e te)(hg:PG X tg g)(hs:‹swapsWithSole [tg] e pos.line X.env=pure false›)(hw:‹swappedStores [tg] e X.env=pure none›)
  (h1:‹(assignEach [tg] X.env).map (·.2)=[assign tg X.env]›):PS X (.Assign [tg] e pos) (kz te g):=by
 right;refine wpAny_Assign_stores (thn (he gd s σ H _ I h) λv s1 z=>?_) hs hw;let(x,H1,Q,K,P):=z;rw[h1];exact thn (hg gd s1 σ H1 x v _ Q K P) λ_ s2 q=>q
def jE{i:Nat}(z:X.N.Nodup)(hi:X.N[i]?=Z x)(hx:Loc X.env.scope x)(he:PE X e te)(hs:‹swapsWith e (Z (.Name x pos')) pos.line X.env=pure false›)(hf:BC X x:=by first|exact .inl rfl|exact .inr rfl|assumption):
  PS X (.Assign [.Name x pos'] e pos) (kz te (gS i)):=by
 right;exact wpAny_Assign_Name (thn (he gd s σ H _ I h) λv s1 (y,H1,P,g,q)=>(iT P z hi hx g (λs2 K=>(_,H1,K,q)) hf)) hs
def Tj(i j:Nat)(ta:TA):TS:=λD σ H=>ta σ H λvs H1=>∃v w,vs=[v,w]/\D.nx ((σ.set i (Z v)).set j (Z w)) H1
abbrev BT(X:Cx)(x:Str):Prop:=X.env.scope.names.lookup x=some .local
def Uu{i:Nat}{y:Str}{a:EQ}{ta:TA}{P pt:Pos}{kt k2 g}(hc:X.calm=O)(hN:X.N.Nodup)(hi:X.N[i]?=Z x)(hj:X.N[j]?=Z y)(V:i≠j)
  (hx:BT X x) (hy:BT X y) (ha:PA X [a,b] ta)
  (hw:swappedStores [.Tuple [.Name x P,.Name y py] kt pt] (.Tuple [a,b] k2 g) X.env=pure (Z [x,y]))
  (hs:‹swapsWithSole [.Tuple [.Name x P,.Name y py] kt pt] (.Tuple [a,b] k2 g) pos.line X.env=pure false›):
  PS X (.Assign [.Tuple [.Name x P,.Name y py] kt pt] (.Tuple [a,b] k2 g) pos) (Tj i j ta):=by
 right;refine eB (wpAny_standAt ?_);refine eB (nT ?_);refine eB (Tuple_ (thn (ha _ gd s σ H _ I h) λus s1 ak=>?_));let(vs,H1,I1,r1,K):=ak;let(v,w,e1,K):=K;subst e1;obtain⟨u1,u2,rfl,rv,z⟩:∃u1 u2,us=[u1,u2]/\RelV v u1/\RelV w u2:=by cases r1 with|cons p q =>cases q with|cons p' q' =>cases q';exact(_,_,U,p,p')
 refine ZP ?_ (by show 2<=lK;decide);have I2:Inv X gd σ H1 {s1 with heap:=s1.heap.push {cls:=.type "tuple",data:=.seq [u1,u2].toArray}}:=I1.kept λb o e=>gi _ e;rw[hw];refine eB (nT ?_);refine eB (ZI (eB (unpackItems_tuple (items:=#[u1,u2]) (I.ok.hd hc) (IsTup.new s1.heap _) λh' Q=>?_)));have I3:=I2.kept (t':=s1.toks) λb o e=>Q b o (uj (kf e)) e;refine eB (assignInOrder_cons (wpAny_bindName (iT I3 hN hj (.inl hy) z (λs2 I4=>(assignInOrder_cons (wpAny_bindName (iT I4 hN hi (.inl hx) rv (λs3 I5=>assignInOrder_nil (nT ?_)) (.inr hx))))) (.inr hy))));rw[List.set_comm _ _ (Ne.symm V)]at I5;exact(_,H1,I5,K)
end
variable{body:List Fa}
section
variable{pos:Pos}
def Du(c:TT)(tb:TS):TS:=λD σ H=>∃W:Nat->St->Hp->Prop,(∃m,W m σ H)/\∀m σ H,W m σ H ->
 c σ H λb H1=>if b=O then ∃N:St->Hp->Prop,(∀g H',N g H'->∃m',m'<m/\W m' g H')/\tb {D with nx:=N,ct:=N,bk:=D.nx} σ H1 else D.nx σ H1
def By{c:EQ}{tc:TT}{tb:TS}(hp:PassesOwn (model X.prog X.w) X.A X.env X.xe)(hc:PT X c tc)(hb:PSs X body tb):PS X (.While c body [] pos) (Du tc tb):=by
 right;let(W,(m0,w0),turn):=h;refine wpAny_While (codeAny_whileLoop (λn s'=>∃z H',Inv X gd z H' s'/\W n z H') ?_ m0 (σ,H,I,w0));rintro n s1 ⟨q,H1,I1,w1⟩;refine wpAny_passesOwn hp (thn (hc gd s1 q H1 _ I1 (turn n q H1 w1)) λb s2 ak=>?_);let(H2,I2,Q):=ak;cases b with
 |true =>
  let(N,hN,Q):=Q;refine wpAny_passesOwn hp (thn (hb gd s2 q H2 _ I2 Q) λf s3 P=>?_);cases f with|next =>let(g,K,I3,n3):=P;let(m',hm,V):=hN g K n3;exact(m',hm,g,K,I3,V)|cont =>let(g,K,I3,n3):=P;let(m',hm,V):=hN g K n3;exact(m',hm,g,K,I3,V)|brk=>exact P|ret v=>exact P
 |false =>exact wpAny_execs_nil (q,H2,I2,Q)
end
structure It where
 go:Nat->Hp->Prop
 yld:Nat->Hp->V->Hp->Prop
 stop:Nat->Hp->Prop
def wL(X:Cx)(gd:Ξ)(H:Hp)(b:J):Prop:=
 H b=Y/\b≠X.env.locals/\b ∉ X.fs/\(b∈X.ex\/X.s₀.heap.objs.size<=b)/\(∀x c,X.env.cells.lookup x=Z c->c≠b)/\∀p∈X.pn++gd,p.1≠b
variable{H':Hp}
def Inv.MA{σ:St}{s:ϋ}{b:J}(I:Inv X gd σ H s)(g:s.heap.objs.size<=b)(hn:H' b=Y):wL X gd H' b:=by
 refine(hn,Fq (rz I.lt g),I.Xc g,.inr (tY I.sz g),λx c e z=>?_,λp hp z=>?_)
 ·let(v,q):=I.cell x c e;exact absurd (rz q.lt (by rw[z];exact g)) (E3 _)
 exact absurd (rz (kf (I.pin p hp).1) (by rw[z];exact g)) (E3 _)
structure Turn(P:Db)(w:Da)(K:Ch)(tg:EQ)(ώ:It)(fp:Θ)(it:J)(tn:Nat->Ev->Prop):Prop where
 mem:it∈fp
 obj:∀i h,tn i h->∀b∈fp,∃o,h.get? b=Z o/\∀v,o.data ≠ .cell v
 keep:∀i h h',tn i h->(∀b∈fp,∀o,h.get? b=Z o->h'.get? b=Z o)->tn i h'
 item:∀(X:Cx),X.prog=P->X.w=w->X.K=K->X.calm=O->∀(i:Nat)(gd:Ξ)(s:ϋ)(σ:St)(H:Hp)(E:Φ),Inv X gd σ H s->(∀b∈fp,wL X gd H b)->tn i s.heap->ώ.go i H ->
  wpAny (model P w) X.A (pyNext (.ref it)) (λr s1=>∃u,r=Z u /\
wpAny (model P w) X.A (letOwnedTupleGo tg (.ref it) u) (λ_ s2=>∃x H',Inv X gd σ H' s2/\RelV x u/\ώ.yld i H x H'/\tn (i+1) s2.heap/\∀b∈fp,H' b=Y) E s1) E s
 done:∀(X:Cx),X.prog=P->X.w=w->X.K=K->X.calm=O->∀(i:Nat)(gd:Ξ)(s:ϋ)(σ:St)(H:Hp)(E:Φ),Inv X gd σ H s->(∀b∈fp,wL X gd H b)->tn i s.heap->ώ.stop i H ->
  wpAny (model P w) X.A (pyNext (.ref it)) (λr s1=>r=Y/\Inv X gd σ H s1) E s
 self:∀(A:Do)(i:Nat)(s:ϋ)(Q:Φ)(E:Φ),tn i s.heap->Q (.ref it) s->wpAny (model P w) A (pyIter (.ref it)) Q E s
abbrev TI:=St->Hp->(It->Hp->Prop)->Prop
def PIE(X:Cx)(gd:Ξ)(σ:St)(tg:EQ)(R:It->Hp->Prop)(g:B)(s2:ϋ):Prop:=
 ∃(it:J)(fp:Θ)(tn:Nat->Ev->Prop)(ώ:It)(H':Hp),g=.ref it/\Inv X gd σ H' s2/\Turn X.prog X.w X.K tg ώ fp it tn/\tn 0 s2.heap/\(∀b∈fp,wL X gd H' b)/\R ώ H'
def PI(X:Cx)(tg iter:EQ)(wi:TI):Prop:=
 ∀(gd:Ξ)(s:ϋ)(σ:St)(H:Hp)(R:It->Hp->Prop),Inv X gd σ H s->wi σ H R ->
  XV X (eval iter X.env) (λv s1=>XV X (pyIter v) (PIE X gd σ tg R) X.xe s1) X.xe s
def My{s:ϋ}{o:Obj}{n:String}{vs:Array B}{Q:Unit->ϋ->Prop}(ho:s.heap.get? it=Z o)(q:o.cls=.type n)(hd:o.data=.fields vs)
  (hn:["enumerate","zip","dict_itemiterator","dict_reverseitemiterator","odict_iterator","itertools.zip_longest","itertools.pairwise"].contains n=ϊ) (g:Q () s):wpAny M A (letOwnedTupleGo tg (.ref it) u) Q E s:=by
 cases tg <;> first
  |exact nT g
  | (cases u <;> first
    |exact nT g
    | (refine eB (wpAny_load ho ?_)
       rw[q,hd];show wpAny M A (if(["enumerate","zip","dict_itemiterator","dict_reverseitemiterator","odict_iterator","itertools.zip_longest","itertools.pairwise"].contains n&&vs[0]? == Z (rawInt _))=O then _ else _) Q E s;rw[if_neg (by intro h;rw[hn]at h;cases h)];exact nT g))
def Itl(K:Ch)(a:J):It:=
 (λi H=>∃xs x,SqL K H a xs/\xs[i]?=Z x,λi H x H'=>H'=H/\∀xs,SqL K H a xs->xs[i]?=Z x,λi H=>∃xs,SqL K H a xs/\xs.length<=i)
def Itt(K:Ch)(a:J):It:=
 (λi H=>∃xs x,SqT K H a xs/\xs[i]?=Z x,λi H x H'=>H'=H/\∀xs,SqT K H a xs->xs[i]?=Z x,λi H=>∃xs,SqT K H a xs/\xs.length<=i)
def Itr(lo:Int)(n:Nat):It:=(λi _=>i<n,λi H x H'=>H'=H/\x=.int (lo+i),λi _=>n<=i)
theorem HB{w:Da}{K:Ch}(a it:J):Turn P w K tg (Itl K a) [it] it (λi h=>h.IsListIter it a i) where
 mem:=by simp
 obj:=λi h st b g=>by
  have e:=(g:);subst e;let(o,e,c,d):=st;exact(o,e,λv z=>by rw[d]at z;cases z)
 keep:=λi h h' st k=>st.at λo e=>k it ba o e
 item:=by intro X V hw hK hc i gd s σ H E I hf st hg;subst V hw hK;let(xs,x,hq,hx):=hg;let(its,Q,p,hz):=I.list hq;let(u,hu,ru):=Q.get hx;let(f0,f1,f2,f3,f4,f5):=hf it ba;refine wpAny_pyNext_list_item st p.isList (hu:) λh' q sb=>?_;have I1:=I.turned (t':=s.toks) (λb o g e=>(sb.2 b g).trans e) f0 f1 f3 f4 f5;let(o,e,c,d):=id q;exact(u,U,My e c d ad (x,H,I1,ru,(U,λys hy=>by rw[I.BY hy hq];exact hx),q,λb g=>(hf b g).1))
 done:=by intro X V hw hK hc i gd s σ H E I hf st hg;subst V hw hK;let(xs,hq,hx):=hg;let(its,Q,p,hz):=I.list hq;let(f0,f1,f2,f3,f4,f5):=hf it ba;have hl:=Q.length;exact wpAny_pyNext_list_end (I.ok.hd hc) st p.isList (by simp;lia) λh' eb=>(U,I.turned (λb o g e=>eb b o g e) f0 f1 f3 f4 f5)
 self:=λ_ _ _ _ _ st h=>wpAny_pyIter_listiter st h
theorem Ds{w:Da}{K:Ch}(a it:J):Turn P w K tg (Itt K a) [it] it (λi h=>h.IsTupleIter it a i) where
 mem:=by simp
 obj:=λi h st b g=>by
  have e:=(g:);subst e;let(o,e,c,d):=st;exact(o,e,λv z=>by rw[d]at z;cases z)
 keep:=λi h h' st k=>st.at λo e=>k it ba o e
 item:=by intro X V hw hK hc i gd s σ H E I hf st hg;subst V hw hK;let(xs,x,hq,hx):=hg;let(its,Q,p,hz):=I.tuple hq;let(u,hu,ru):=Q.get hx;let(f0,f1,f2,f3,f4,f5):=hf it ba;refine wpAny_pyNext_tuple_item st (p) (hu:) λh' q sb=>?_;have I1:=I.turned (t':=s.toks) (λb o g e=>(sb.2 b g).trans e) f0 f1 f3 f4 f5;let(o,e,c,d):=id q;exact(u,U,My e c d ad (x,H,I1,ru,(U,λys hy=>by rw[I.yl hy hq];exact hx),q,λb g=>(hf b g).1))
 done:=by intro X V hw hK hc i gd s σ H E I hf st hg;subst V hw hK;let(xs,hq,hx):=hg;let(its,Q,p,hz):=I.tuple hq;let(f0,f1,f2,f3,f4,f5):=hf it ba;have hl:=Q.length;exact wpAny_pyNext_tuple_end (I.ok.hd hc) st (p) (by simp;omega) λh' eb=>(U,I.turned (λb o g e=>eb b o g e) f0 f1 f3 f4 f5)
 self:=λ_ _ _ _ _ st h=>wpAny_pyIter_tupleiter st h
theorem Dt{w:Da}{K:Ch}(it:J)(lo:Int)(n:Nat):Turn P w K tg (Itr lo n) [it] it (λi h=>IsRangeIter h it (lo+(i:Nat)*1) ((n:Int)-(i:Nat)) 1) where
 mem:=by simp
 obj:=λi h st b g=>by
  have e:=(g:);subst e;exact(_,st,λv z=>by have z':=z;cases z')
 keep:=λi h h' st k=>k it ba _ st
 item:=by intro X hP hw hK Q i gd s σ H E I hf st hg;subst hP hw hK;let(f0,f1,f2,f3,f4,V):=hf it ba;have W:=Walks.range (prog:=X.prog) (w:=X.w) (I.ok.hd Q) it lo 1 n;refine W.item i s _ _ hg st λv h' tk hv q kk=>?_;let(t,U):=hv;have I1:Inv X gd σ H {s with heap:=h',toks:=tk}:=I.turned (λb o g e=>kk b o (g:) e) f0 f1 f3 f4 V;refine(_,U,My q U U ad (.int (lo+i),H,I1,(t,?_),(U,U),q,λb g=>(hf b g).1));rw[Int.mul_one]
 done:=by intro X hP hw hK Q i gd s σ H E I hf st hg;let(f0,f1,f2,f3,f4,V):=hf it ba;exact wpAny_pyNext_range_end (I.ok.hd Q) st (by have:n<=i:=hg;lia) λh' eb=>(U,I.turned (λb o g e=>eb b o g e) f0 f1 f3 f4 V)
 self:=λ_ _ _ _ _ st h=>wpAny_pyIter_rangeiter st h
variable{lo:Int}{fp:Θ}{iter:EQ}
section
def yF(K:Ch)(tl:TE):TI:=λσ H R=>tl σ H λx H1=>∃a,x=.ref a/\(∃xs,SqL K H1 a xs)/\R (Itl K a) H1
def Mj(K:Ch)(tl:TE):TI:=λσ H R=>tl σ H λx H1=>∃a,x=.ref a/\(∃xs,SqT K H1 a xs)/\R (Itt K a) H1
def uh{l:EQ}{tl:TE}(hl:PE X l tl):PI X tg l (yF X.K tl):=by intro gd s σ H R I h;refine thn (hl gd s σ H _ I h) λv s1 z=>?_;let(x,H1,g,P,Q):=z;let(a,e,(xs,hq),q):=Q;subst e;cases P;let(its,rv,p,hz):=g.list hq;refine wpAny_pyIter_list p.isList ?_;refine(s1.heap.objs.size,[s1.heap.objs.size],_,_,H1,U,g.kept λb o e=>gi _ e,HB a _,(_,px _ U,U,U),λb V=>?_,q);have e:=(V:);subst e;exact g.MA (mz _) (g.hok.fresh (mz _))
def UH{l:EQ}{tl:TE}(hl:PE X l tl):PI X tg l (Mj X.K tl):=by intro gd s σ H R I h;refine thn (hl gd s σ H _ I h) λv s1 z=>?_;let(x,H1,g,P,Q):=z;let(a,e,(xs,hq),q):=Q;subst e;cases P;let(its,rv,p,hz):=g.tuple hq;refine wpAny_pyIter_tuple (p) ?_;refine(s1.heap.objs.size,[s1.heap.objs.size],_,_,H1,U,g.kept λb o e=>gi _ e,Ds a _,(_,px _ U,U,U),λb V=>?_,q);have e:=(V:);subst e;exact g.MA (mz _) (g.hok.fresh (mz _))
def Bq{σ:St}{s:ϋ}{R:It->Hp->Prop}{hi:Int}{t u v:Tok}{tk:Nat}(I:Inv X gd σ H s)(h1:-(2 ^ 62)<=lo)(h2:lo<2 ^ 62)(h3:-(2 ^ 62)<=hi)(h4:hi<2 ^ 62)
  (q:R (Itr lo (hi-lo).toNat) H):XV X (pyIter (.ref s.heap.objs.size)) (PIE X gd σ tg R) E {s with heap:=s.heap.push {cls:=.type "range",data:=.fields #[.int lo t,.int hi u,.int 1 v]},toks:=tk}:=by
 refine wpAny_pyIter_range (IsRange.new ..) (small_one h1 h2 h3 h4) ?_;have g:Inv X gd σ H {s with heap:=s.heap.push {cls:=.type "range",data:=.fields #[.int lo t,.int hi u,.int 1 v]},toks:=tk}:=I.kept λb o e=>gi _ e;refine((s.heap.push {cls:=.type "range",data:=.fields #[.int lo t,.int hi u,.int 1 v]}).objs.size,[(s.heap.push {cls:=.type "range",data:=.fields #[.int lo t,.int hi u,.int 1 v]}).objs.size],_,_,H,U,
g.kept λb o e=>gi _ e,Dt _ lo (hi-lo).toNat,?_,λb z=>?_,q)
 ·have e1:lo+((0:Nat))*1=lo:=by simp
  have K:(((hi-lo).toNat))-((0:Nat))=Builtin.Range.rangeSize lo hi 1:=by rw[rangeSize_one];split <;> lia
  rw[e1,K];exact px _ U
 have e:b=(s.heap.push {cls:=.type "range",data:=.fields #[.int lo t,.int hi u,.int 1 v]}).objs.size:=(z:);subst e;exact g.MA (mz _) (g.hok.fresh (mz _))
def Ml(ta:TA):TI:=λσ H R=>ta σ H λvs H1=>∃j:Int,vs=[.int j] /\ -(2 ^ 62)<=j/\j<2 ^ 62/\R (Itr 0 j.toNat) H1
def Sw(ta:TA):TI:=λσ H R=>ta σ H λvs H1=>∃i j:Int,vs=[.int i,.int j]/\(-(2 ^ 62)<=i/\i<2 ^ 62 /\ -(2 ^ 62)<=j/\j<2 ^ 62)/\R (Itr i (j-i).toNat) H1
abbrev AM(X:Cx)(e:EQ):Prop:=j7 [e] X.env=[(false,eval e X.env)]
def yz{a:EQ}{ta:TA}{p pos:Pos}(hg:Gl X "range")(hm:X.mg "range"=Y)(Q:PA X [a] ta)(hs:‹AM X a›):PI X tg (.Call (.Name "range" p) [a] [] pos) (Ml ta):=by intro gd s σ H R I h;refine Call_ (gQ I hg hm boot_range (PyProof.Rows.callWith_type1 (thn (Q pos gd s σ H _ I h) λus s1 (vs,H1,V,K,g)=>?_) hs U));let(j,e,g,P,q):=g;subst e;cases K with|cons r z =>cases z;let(t,U):=r;exact call_range_1 (Bq V bd bd g P (q:))
def Ia{a:EQ}{ta:TA}{p pos:Pos}(hg:Gl X "range")(hm:X.mg "range"=Y)(ha:PA X [a,b] ta)(hs:‹j7 [a,b] X.env=[(ϊ,eval a X.env),(ϊ,eval b X.env)]›)(g:‹AM X b›):
  PI X tg (.Call (.Name "range" p) [a,b] [] pos) (Sw ta):=by
 intro gd s σ H R I h;refine Call_ (gQ I hg hm boot_range (PyProof.Rows.callWith_type1 (thn (ha pos gd s σ H _ I h) λus s1 (vs,H1,I1,P,K)=>?_) (by rw[hs,g]) (by rw[g];rfl)));let(i,j,e,(K,q2,V,Q),q):=K;subst e;cases P with|cons r z =>cases z with|cons r' z =>cases z;let(t,U):=r;let(t',U):=r';exact call_range_2 (Bq I1 K q2 V Q q)
def Ws(wi:TI)(g:TG)(tb:TS):TS:=λD σ H=>wi σ H λώ H1=>∃W:Nat->Nat->St->Hp->Prop,(∃m,W 0 m σ H1)/\∀i m σ H,W i m σ H ->
 (ώ.stop i H/\D.nx σ H)\/(ώ.go i H/\∃N:St->Hp->Prop,(∀q H',N q H'->∃m',m'<m/\W (i+1) m' q H')/\∀x H',ώ.yld i H x H'->g x σ H' λz H2=>tb {D with nx:=N,ct:=N,bk:=D.nx} z H2)
def vp(fp:Θ)(h:Ev):Ξ:=fp.filterMap λb=>(h.get? b).map λo=>(b,o)
def gO{h:Ev}{b:J}{o:Obj}(g:b∈fp)(e:h.get? b=Z o):(b,o)∈vp fp h:=List.mem_filterMap.mpr (b,g,by rw[e];rfl)
def Ik{h:Ev}{p:J×Obj}(hp:p∈vp fp h):p.1∈fp/\h.get? p.1=Z p.2:=by
 let(b,g,e):=List.mem_filterMap.mp hp;cases q:h.get? b with
 |none=>rw[q]at e;cases e
 |some o =>rw[q]at e;have z:=Option.some.inj e;subst z;exact(g,q)
def Inv.pinned{σ:St}{s:ϋ}(I:Inv X gd σ H s)(hf:∀b∈fp,wL X gd H b)(ho:∀b∈fp,∃o,s.heap.get? b=Z o/\∀v,o.data ≠ .cell v):Inv X (gd++vp fp s.heap) σ H s:=
 I.oN λp hp=>(lN.mp hp).elim (λz=>I.pin p (p7 _ z)) λz=>by
  let(g,e):=Ik z;let(f0,f1,f2,_):=hf p.1 g;let(o,q,d):=ho p.1 g;rw[e]at q;cases q;exact(e,f0,f1,f2,d)
def Inv.n6{g:Ξ}{σ:St}{s:ϋ}(I:Inv X (gd++g) σ H s):Inv X gd σ H s:=I.oN λp hp=>I.pin p (p7 _ (ui _ hp))
def Lg{wi:TI}{g:TG}{tb:TS}{pos:Pos}(hp:PassesOwn (model X.prog X.w) X.A X.env X.xe)(hc:X.calm=O)(hi:PI X tg iter wi)(hg:PG X tg g)(P:PSs X body tb)
  (hs:∀x,foldedSetIterable iter X.env x=pure x:=by intro _;rfl):PS X (.For tg iter body [] pos) (Ws wi g tb):=by
 right;refine wpAny_For (thn (hi gd s σ H _ I h) λv s1 h1=>thn h1 λa4 s2 h2=>?_) hs;let(it,fp,tn,ώ,H2,e,I2,T,aW,f2,W,(m0,w0),turn):=h2;subst e;have Tx:∀{H':Hp},(∀b∈fp,H' b=Y)->∀b∈fp,wL X gd H' b:=λhn b P=>(hn b P,(f2 b P).2);refine codeAny_forLoop_any (λn s'=>∃i K H',Inv X gd K H' s'/\tn i s'.heap/\(∀b∈fp,H' b=Y)/\W i n K H') ?_ m0 (0,σ,H2,I2,aW,λb P=>(f2 b P).1,w0);rintro n s3 ⟨i,z,H3,I3,ar,aF,w3⟩;obtain⟨stop,qn⟩|⟨go,N,hN,step⟩:=turn i n z H3 w3
 ·refine wpAny_passesOwn hp (thn (T.done X U U U hc i gd s3 z H3 X.xe I3 (Tx aF) ar stop) λr s4 Q=>?_);let(hr,I4):=Q;subst hr;exact wpAny_execs_nil (z,H3,I4,qn)
 refine wpAny_passesOwn hp (thn (T.item X U U U hc i gd s3 z H3 X.xe I3 (Tx aF) ar go) λr s4 Q=>?_);let(u,hr,h4):=Q;subst hr;refine wpAny_passesOwn hp (thn h4 λ_ s5 Q=>?_);let(x,H5,I5,r5,y5,ak,a0):=Q;have a3:=I5.pinned (Tx a0) (T.obj _ _ ak);refine wpAny_passesOwn hp (thn (hg _ s5 z H5 x u _ a3 r5 (step x H5 y5)) λ_ s6 (aK,H6,I6,q6)=>(wpAny_passesOwn hp (thn (P _ s6 aK H6 _ I6 q6) λf s7 q7=>?_)));have again:∀{q:St}{H7:Hp},Inv X (gd++vp fp s5.heap) q H7 s7->N q H7->∃m,m<n/\∃i K H',Inv X gd K H' s7/\tn i s7.heap/\(∀b∈fp,H' b=Y)/\W i m K H':=λ{q H7} V n7=>by
  let(m',hm,w7):=hN q H7 n7;refine(m',hm,i+1,q,H7,V.n6,T.keep _ _ _ ak λb P o e=>(V.pin (b,o) (p7 _ (p7 _ (gO P e)))).1,λb P=>?_,w7);let(o,e,d):=T.obj _ _ ak b P;exact(V.pin (b,o) (p7 _ (p7 _ (gO P e)))).2.1
 cases f with|next=>let(q,H7,V,n7):=q7;exact again V n7|cont=>let(q,H7,V,n7):=q7;exact again V n7|brk=>let(q,H7,V,q7):=q7;exact(q,H7,V.n6,q7)|ret v=>let(x7,q,H7,V,r7,q7):=q7;exact(x7,q,H7,V.n6,r7,q7)
end
variable{D:Ends}
theorem MB{K:Ch}{xs:Ω}{g:TG}{tb:TS}{σ:St}(Pv:Nat->St->Hp->Prop)(h0:Pv 0 σ H)(hl:∀i σ H,i<=xs.length->Pv i σ H->SqL K H a xs)
  (hs:∀i x σ H,xs[i]?=Z x->Pv i σ H->g x σ H λz H2=>tb {D with nx:=Pv (i+1),ct:=Pv (i+1),bk:=D.nx} z H2) (hd:∀σ H,Pv xs.length σ H->D.nx σ H):
  ∃W:Nat->Nat->St->Hp->Prop,(∃m,W 0 m σ H)/\∀i m σ H,W i m σ H ->
   ((Itl K a).stop i H/\D.nx σ H)\/((Itl K a).go i H/\∃N:St->Hp->Prop,(∀P H',N P H'->∃m',m'<m/\W (i+1) m' P H')/\∀x H',(Itl K a).yld i H x H'->g x σ H' λz H2=>tb {D with nx:=N,ct:=N,bk:=D.nx} z H2):=by
 refine(λi m σ H=>m=xs.length-i/\i<=xs.length/\Pv i σ H,(xs.length,ba,AY _,h0),?_);rintro i m σ H ⟨rfl,hi,p⟩;have q:=hl i σ H hi p;by_cases Q:i<xs.length
 ·refine .inr ((xs,xs[i],q,by simp[Q]),Pv (i+1),λP H' p'=>(xs.length-(i+1),bd,U,Q,p'),λx H' y=>?_);let(e,y):=y;subst e;exact hs i x σ _ (y xs q) p
 have e:i=xs.length:=bd;subst e;exact .inl ((xs,q,mz _),hd σ H p)
abbrev R2:=V->V->Hp->VK->Prop
def OpR(X:Cx)(f:B->B->Sem B)(r:R2):Prop:=
 ∀(gd:Ξ)(s:ϋ)(σ:St)(H:Hp)(x y:V)(v u:B)(Q:VK),Inv X gd σ H s->RelV x v->RelV y u->r x y H Q ->
  XV X (f v u) (EP X gd σ Q) X.xe s
def UnR(X:Cx)(f:B->Sem B)(r:V->Hp->VK->Prop):Prop:=
 ∀(gd:Ξ)(s:ϋ)(σ:St)(H:Hp)(x:V)(v:B)(Q:VK),Inv X gd σ H s->RelV x v->r x H Q ->
  XV X (f v) (EP X gd σ Q) X.xe s
def dM(X:Cx)(f:B)(r:Ω->Hp->VK->Prop):Prop:=
 ∀(gd:Ξ)(s:ϋ)(σ:St)(H:Hp)(xs:Ω)(us:Δ)(Q:VK),Inv X gd σ H s->Vals xs us->r xs H Q ->
  XV X (call f us) (EP X gd σ Q) X.xe s
def Za(X:Cx)(r:V->Hp->(Bool->Hp->Prop)->Prop):Prop:=
 ∀(gd:Ξ)(s:ϋ)(σ:St)(H:Hp)(x:V)(v:B)(Q:Bool->Hp->Prop),Inv X gd σ H s->RelV x v->r x H Q ->
  XV X (truthy v) (TP X gd σ Q) X.xe s
def tOp(r:R2)(ta tb:TE):TE:=λσ H Q=>ta σ H λx H1=>tb σ H1 λy H2=>r x y H2 Q
def tUn(r:V->Hp->VK->Prop)(ta:TE):TE:=λσ H Q=>ta σ H λx H1=>r x H1 Q
inductive rI(C:Int->Int->Prop)(g:Int->Int->V)(x:V)(y:V)(H:Hp)(Q:VK):Prop
 |mk(i j:_)(h1:x=.int i)(h2:y=.int j)(h3:C i j)(h4:Q (g i j) H)
inductive rI0(g:Int->Int->V)(x:V)(y:V)(H:Hp)(Q:VK):Prop
 |mk(i j:_)(h1:x=.int i)(h2:y=.int j)(h3:Q (g i j) H)
inductive rU(g:Int->V)(x:V)(H:Hp)(Q:VK):Prop
 |mk(i:_)(h1:x=.int i)(h2:Q (g i) H)
section
variable{a:EQ}{ta tb:TE}{pos:Pos}
def VL(ha:PE X a ta)(hb:PE X b tb){s:ϋ}{σ:St}{R:V->V->Hp->Prop}(I:Inv X gd σ H s)
  (h:ta σ H λx H1=>tb σ H1 λy H2=>R x y H2) {Q:Φ} {f:B->B->Sem B}
  (hf:∀v u s2 x y H2,Inv X gd σ H2 s2->RelV x v->RelV y u->R x y H2->XV X (f v u) Q X.xe s2):
  XV X (eval a X.env) (λv g=>XV X (eval b X.env) (λu s₂=>XV X (f v u) Q X.xe s₂) X.xe g) X.xe s:=by
 exact thn (ha gd s σ H _ I h) λv s1 (x,H1,I1,z,P)=>(thn (hb gd s1 σ H1 _ I1 P) λu s2 (y,H2,I2,q,K)=>(hf v u s2 x y H2 I2 z q K))
def c6{op:Operator}{r:R2}(ho:OpR X (binaryOp op) r)(P:PE X a ta)(K:PE X b tb):PE X (.BinOp a op b pos) (tOp r ta tb):=by left;exact wpAny_BinOp (VL P K I h λv u s2 x y H2 V z g q=>ho gd s2 σ H2 x y v u Q V z g q)
def W6{op:UnaryOp}{r:V->Hp->VK->Prop}(ho:UnR X (unaryOp op) r)(z:PE X a ta):PE X (.UnaryOp op a pos) (tUn r ta):=by left;exact UnaryOp_ (thn (z gd s σ H _ I h) λv s1 (x,H1,K,g,q)=>ho gd s1 σ H1 x v Q K g q)
def opI{f:B->B->Sem B}{C:Int->Int->Prop}{g:Int->Int->Int}
  (rule:∀(i j:Int)(t u:Tok)(s:ϋ)(Q:Φ)(E:Φ),C i j->Q (.int (g i j) s.toks) {s with toks:=s.toks+1}->XV X (f (.int i t) (.int j u)) Q E s):
  OpR X f (rI C λi j=>.int (g i j)):=by
 intro gd s σ H x y v u Q I K z h;let(i,j,U,U,P,q):=h;let(t,U):=K;let(t',U):=z;exact rule i j t t' s _ _ P (.int (g i j),H,I.tok _,(_,U),q)
def Xa{f:B->B->Sem B}{g:Int->Int->Int}
  (rule:∀(i j:Int)(t u:Tok)(s:ϋ)(Q:Φ)(E:Φ),Q (.int (g i j) s.toks) {s with toks:=s.toks+1}->XV X (f (.int i t) (.int j u)) Q E s):
  OpR X f (rI0 λi j=>.int (g i j)):=by
 intro gd s σ H x y v u Q I K z h;let(i,j,U,U,q):=h;let(t,U):=K;let(t',U):=z;exact rule i j t t' s _ _ (.int (g i j),H,I.tok _,(_,U),q)
def PV{f:B->B->Sem B}{g:Int->Int->Bool}
  (rule:∀(i j:Int)(t u:Tok)(s:ϋ)(Q:Φ)(E:Φ),Q (.bool (g i j)) s->XV X (f (.int i t) (.int j u)) Q E s):
  OpR X f (rI0 λi j=>.bl (g i j)):=by
 intro gd s σ H x y v u Q I K z h;let(i,j,U,U,q):=h;let(t,U):=K;let(t',U):=z;exact rule i j t t' s _ _ (.bl (g i j),H,I,U,q)
def Zg(i j:Int):Prop:=0<=j/\j<=1000000/\i.natAbs<2 ^ 64
def Nu(i j:Int):Prop:=(-(2 ^ 64)<i/\i<2 ^ 64)\/(-(2 ^ 64)<j/\j<2 ^ 64)
def Nu.ok{i j:Int}(h:Nu i j):IntMulOk i j:=by
 obtain⟨h1,h2⟩|⟨h1,h2⟩:=h
 ·exact .of_left (intBits_le_64 h1 h2)
 exact .of_right (intBits_le_64 h1 h2)
def qY:OpR X (binaryOp .Add) (rI0 λi j=>.int (i+j)):=Xa λ_ _ _ _ _ _ _ q=>add_int q
def D5:OpR X (binaryOp .Sub) (rI0 λi j=>.int (i-j)):=Xa λ_ _ _ _ _ _ _ q=>sub_int q
def nB:OpR X (binaryOp .Mult) (rI Nu λi j=>.int (i*j)):=opI λ_ _ _ _ _ _ _ g q=>mul_int q g.ok
def jG:OpR X (binaryOp .Mod) (rI (λ_ j=>0<j) λi j=>.int (i % j)):=opI λi j _ _ _ _ _ g q=>by
 exact mod_int' bd (by rw[Int.fmod_eq_emod_of_nonneg i bd];exact q)
def UN:OpR X (binaryOp .Pow) (rI Zg λi j=>.int (i ^ j.toNat)):=opI λ_ _ _ _ _ _ _ g q=>pow_int_small g.1 g.2.1 g.2.2 q
def unI{f:B->Sem B}{g:Int->Int}
  (rule:∀(i:Int)(t:Tok)(s:ϋ)(Q:Φ)(E:Φ),Q (.int (g i) s.toks) {s with toks:=s.toks+1}->XV X (f (.int i t)) Q E s):
  UnR X f (rU λi=>.int (g i)):=by
 intro gd s σ H x v Q I z h;let(i,U,q):=h;let(t,U):=z;exact rule i t s _ _ (.int (g i),H,I.tok _,(_,U),q)
def Ta:UnR X (unaryOp .USub) (rU λi=>.int (-i)):=unI λ_ _ _ _ _ q=>neg_int q
end
def OB:V->V->Bool
 |.non,.non=>O|.non,.int _=>O|.int _,.non=>O|.non,.bl _=>O|.bl _,.non=>O|.non,.str _=>O|.str _,.non=>O|.int _,.int _=>O|.bl _,.bl _=>O|.str _,.str _=>O|.byt _,.byt _=>O|.int _,.str _=>O|.str _,.int _=>O|.bl _,.str _=>O|.str _,.bl _=>O|_,_=>ϊ
def rEq:R2:=λx y H Q=>OB x y=O/\Q (.bl (decide (x=y))) H
def rNe:R2:=λx y H Q=>OB x y=O/\Q (.bl (!decide (x=y))) H
def Gy{i j:Int}:decide (V.int i=V.int j)=(i==j):=by rw[ZZ];simp
def MN{i j:Bool}:decide (V.bl i=V.bl j)=(i==j):=by rw[ZZ];simp
def Gx{i j:Str}:decide (V.str i=V.str j)=(i==j):=by rw[ZZ];simp
def Gz{i j:Array UInt8}:decide (V.byt i=V.byt j)=(i.toList==j.toList):=by rw[ZZ];cases i;cases j;simp
variable{r':R2}{op':CmpOp}{its:Δ}{y:V}
section
variable{a c:EQ}{ta tb tc:TE}{pos:Pos}
def bt{σ:St}{s:ϋ}{Q:VK}{k k':Bool}(I:Inv X gd σ H s)(q:Q (.bl k) H)(e:k=k'):EP X gd σ Q (.bool k') s:=by subst e;exact(.bl k,H,I,U,q)
theorem RY:OpR X (compareOp .Eq) rEq:=by
 intro gd s σ H x y v u Q I z g h;let(hs,q):=h;cases x with
 |non =>
  cases z;cases y with
  |non=>cases g;exact PySem.EqNone.eq_none_none (bt I q ba)
  |bl j=>cases g;exact PySem.EqNone.eq_none_bool (bt I q ba)
  |int j=>let(t',U):=g;exact PySem.EqNone.eq_none_int (bt I q ba)|str j=>let(t',U):=g;exact PySem.EqNone.eq_none_str (bt I q ba)|_=>exact absurd (show ϊ=O from hs) ri
 |bl i =>
  cases z;cases y with
  |non=>cases g;exact PySem.EqNone.eq_bool_none (bt I q ba)
  |bl j=>cases g;exact eq_bool (bt I q MN)
  |str j=>let(t',U):=g;exact PySem.EqMixed.eq_bool_str (bt I q ba)|_=>exact absurd (show ϊ=O from hs) ri
 |int i =>
  let(t,U):=z;cases y with
  |non=>cases g;exact PySem.EqNone.eq_int_none (bt I q ba)
  |int j=>let(t',U):=g;exact eq_int (bt I q Gy)|str j=>let(t',U):=g;exact PySem.EqMixed.eq_int_str (bt I q ba)|_=>exact absurd (show ϊ=O from hs) ri
 |str i =>
  let(t,U):=z;cases y with
  |non=>cases g;exact PySem.EqNone.eq_str_none (bt I q ba)
  |bl j=>cases g;exact PySem.EqMixed.eq_str_bool (bt I q ba)
  |int j=>let(t',U):=g;exact PySem.EqMixed.eq_str_int (bt I q ba)|str j=>let(t',U):=g;exact eq_str (bt I q Gx)|_=>exact absurd (show ϊ=O from hs) ri
 |byt i =>
  let(t,U):=z;cases y with|byt j=>let(t',U):=g;exact W.eq_bytes (bt I q Gz)|_=>exact absurd (show ϊ=O from hs) ri
 |_=>cases y <;> exact absurd (show ϊ=O from hs) ri
theorem FY:OpR X (compareOp .NotEq) rNe:=by
 intro gd s σ H x y v u Q I z g h;let(hs,q):=h;cases x with
 |non =>
  cases z;cases y with
  |non=>cases g;exact PySem.EqNone.ne_none_none (bt I q ba)
  |bl j=>cases g;exact PySem.EqNone.ne_none_bool (bt I q ba)
  |int j=>let(t',U):=g;exact PySem.EqNone.ne_none_int (bt I q ba)|str j=>let(t',U):=g;exact PySem.EqNone.ne_none_str (bt I q ba)|_=>exact absurd (show ϊ=O from hs) ri
 |bl i =>
  cases z;cases y with
  |non=>cases g;exact PySem.EqNone.ne_bool_none (bt I q ba)
  |bl j=>cases g;exact ne_bool (bt I q (congrArg not MN))
  |str j=>let(t',U):=g;exact PySem.EqMixed.ne_bool_str (bt I q ba)|_=>exact absurd (show ϊ=O from hs) ri
 |int i =>
  let(t,U):=z;cases y with
  |non=>cases g;exact PySem.EqNone.ne_int_none (bt I q ba)
  |int j=>let(t',U):=g;exact ne_int (bt I q (congrArg not Gy))|str j=>let(t',U):=g;exact PySem.EqMixed.ne_int_str (bt I q ba)|_=>exact absurd (show ϊ=O from hs) ri
 |str i =>
  let(t,U):=z;cases y with
  |non=>cases g;exact PySem.EqNone.ne_str_none (bt I q ba)
  |bl j=>cases g;exact PySem.EqMixed.ne_str_bool (bt I q ba)
  |int j=>let(t',U):=g;exact PySem.EqMixed.ne_str_int (bt I q ba)|str j=>let(t',U):=g;exact ne_str (bt I q (congrArg not Gx))|_=>exact absurd (show ϊ=O from hs) ri
 |byt i =>
  let(t,U):=z;cases y with|byt j=>let(t',U):=g;exact W.ne_bytes (bt I q (congrArg not Gz))|_=>exact absurd (show ϊ=O from hs) ri
 |_=>cases y <;> exact absurd (show ϊ=O from hs) ri
def FZ:OpR X (compareOp .Lt) (rI0 λi j=>.bl (decide (i<j))):=PV λ_ _ _ _ _ _ _ q=>lt_int q
def LJ:OpR X (compareOp .LtE) (rI0 λi j=>.bl (decide (i<=j))):=PV λ_ _ _ _ _ _ _ q=>le_int q
def F5:OpR X (compareOp .Gt) (rI0 λi j=>.bl (decide (j<i))):=PV λ_ _ _ _ _ _ _ q=>gt_int q
def W9:OpR X (compareOp .GtE) (rI0 λi j=>.bl (decide (j<=i))):=PV λ_ _ _ _ _ _ _ q=>ge_int q
def Ig:OpR X (compareOp .In) (λx y H Q=>∃i j,x=.str i/\y=.str j/\Q (.bl (!(Builtin.Str.occurrences j i 0 j.length 1).isEmpty)) H):=by intro gd s σ H x y v u Q I z g h;let(i,j,U,U,q):=h;let(t,U):=z;let(t',U):=g;exact in_str (bt I q U)
def vx:OpR X (compareOp .Is) (λx y H Q=>y=.non/\Q (.bl (decide (x=.non))) H):=by intro gd s σ H x y v u Q I z g h;let(U,q):=h;cases g;refine is_none_gen (bt I q ?_);cases x <;>(let(t,U):=z;rfl)
def uk:OpR X (compareOp .IsNot) (λx y H Q=>y=.non/\Q (.bl (!decide (x=.non))) H):=by intro gd s σ H x y v u Q I z g h;let(U,q):=h;cases g;refine isnot_none_gen (bt I q ?_);cases x <;>(let(t,U):=z;rfl)
def Ab:OpR X (compareOp .NotIn) (λx y H Q=>∃i j,x=.str i/\y=.str j/\Q (.bl (!(!(Builtin.Str.occurrences j i 0 j.length 1).isEmpty))) H):=by intro gd s σ H x y v u Q I z g h;let(i,j,U,U,q):=h;let(t,U):=z;let(t',U):=g;exact notIn_str (bt I q U)
def OpR.or{f:B->B->Sem B}{r:R2}(h:OpR X f r)(h':OpR X f r'):OpR X f (λx y H Q=>r x y H Q\/r' x y H Q):=by
 intro gd s σ H x y v u Q I z g q;obtain q|q:=q
 ·exact h gd s σ H x y v u Q I z g q
 exact h' gd s σ H x y v u Q I z g q
def bW(b:EQ)(h:autoParam (op ≠ .In) zdc._auto_1)(h2:autoParam (op ≠ .NotIn) zdc._auto_1):behindInMarks op b=false:=LW b h h2
def Pt{r:R2}(ho:OpR X (compareOp op) r)(P:PE X a ta)(K:PE X b tb)(hm:behindInMarks op b=ϊ):PE X (.Compare a [op] [b] pos) (tOp r ta tb):=by left;exact wpAny_Compare1 (VL P K I h λv u s2 x y H2 V z g q=>ho gd s2 σ H2 x y v u Q V z g q) hm
def ym(t:TE):TT:=λσ H Q=>t σ H λx H'=>∃k,x=.bl k/\Q k H'
def oJ{r:R2}(ho:OpR X (compareOp op) r)(ha:PE X a ta)(hb:PE X b tb)(hm:behindInMarks op b=ϊ):PT X (.Compare a [op] [b] pos) (ym (tOp r ta tb)):=by
 left;refine wpAny_isTrue_Compare1 (thn (ha gd s σ H _ I h) λv s1 (x,H1,I1,K,q1)=>thn (hb gd s1 σ H1 _ I1 q1) λu s2 (y,H2,I2,q,V) =>
thn (ho gd s2 σ H2 x y v u _ I2 K q V) λc s3 (z,H3,I3,g,k,e,P)=>?_) hm
 subst e;cases g;exact wpAny_truthy_bool (H3,I3,P)
def zq(r r':R2)(ta tb tc:TE):TE:=λσ H Q=>ta σ H λx H1=>tb σ H1 λy H2=>r x y H2 λz g=>∃k,z=.bl k /\
 (if k=O then tc σ g λq K=>r' y q K Q else Q (.bl ϊ) g)
def Ly{r:R2}(ho:OpR X (compareOp op) r)(g:OpR X (compareOp op') r')(ha:PE X a ta)(hb:PE X b tb)(hc:PE X c tc)
  (hm:lastMarks [op,op'] [b,c]=false:=by with_unfolding_all rfl):PE X (.Compare a [op,op'] [b,c] pos) (zq r r' ta tb tc):=by
 left;refine Compare_chain (thn (ha gd s σ H _ I h) λv s1 (x,H1,I1,r1,q1)=>chain_link (thn (hb gd s1 σ H1 _ I1 q1) λu s2 (y,H2,I2,q,q2) =>
thn (ho gd s2 σ H2 x y v u _ I2 r1 q q2) λd s3 (z,V,P,r3,k,e,K)=>?_)) hm
 subst e;cases r3;refine wpAny_truthy_bool ?_;cases k with|false=>exact ite_ff (.bl ϊ,V,P,U,K)|true=>exact ite_tt (chain_last (thn (hc gd s3 σ V _ P K) λw' s4 (z',H4,I4,r4,q4)=>g gd s4 σ H4 y z' u w' Q I4 q r4 q4))
def Ld{r:R2}(ho:OpR X (compareOp op) r)(g:OpR X (compareOp op') r')(ha:PE X a ta)(hb:PE X b tb)(hc:PE X c tc)
  (hm:lastMarks [op,op'] [b,c]=false:=by with_unfolding_all rfl):PT X (.Compare a [op,op'] [b,c] pos) (ym (zq r r' ta tb tc)):=by
 left;refine isTrue_chain (thn (ha gd s σ H _ I h) λv s1 (x,H1,I1,r1,q1)=>test_link (thn (hb gd s1 σ H1 _ I1 q1) λu s2 (y,H2,I2,K,q2) =>
thn (ho gd s2 σ H2 x y v u _ I2 r1 K q2) λd s3 (z,H3,V,r3,k,e,P)=>?_)) hm
 subst e;cases r3;refine wpAny_truthy_bool ?_;cases k with
 |false =>
  let(k',e',q'):=P;cases e';exact ite_ff (H3,V,q')
 |true =>refine ite_tt (test_last (thn (hc gd s3 σ H3 _ V P) λw' s4 (z',H4,I4,r4,q4)=>thn (g gd s4 σ H4 y z' u w' _ I4 K r4 q4) λd' s5 q=>?_));let(z2,H5,I5,r5,k2,e2,q5):=q;subst e2;cases r5;exact wpAny_truthy_bool (H5,I5,q5)
def Rt(K:Ch)(x:V)(H:Hp)(k:Bool):Prop:=
 match x with|.non=>k=ϊ|.bl b=>k=b|.int i=>k=(i != 0)|.str y=>y.length<=lK/\k=((y.length:Int) != 0)|.byt y=>y.size<=lK/\k=((y.size:Int) != 0)|.ref p=>(∃xs,SqL K H p xs/\k = !xs.isEmpty)\/(∃xs,SqT K H p xs/\k = !xs.isEmpty)\/∃kvs,H p=Z (.dK kvs)/\k = !kvs.isEmpty|_=>False
def ED{κ:Type}{kvs:List (κ×V)}{vs:List (κ×B)}(r:KV kvs vs):(!vs.isEmpty) = !kvs.isEmpty:=by cases r <;> rfl
def vP{xs:Ω}(r:Vals xs its):(!its.toArray.isEmpty) = !xs.isEmpty:=by cases r <;> simp
def nE:(lK:Nat)<2 ^ 63:=ad
def Ci(h:n<=lK):(n:Int)<2 ^ 63:=by have:=ZE;omega
theorem Te:Za X (λx H Q=>∃k,Rt X.K x H k/\Q k H):=by
 intro gd s σ H x v Q I z h;let(k,e,q):=h;have hl:=nE;have hs:lK=16777216:=ZE;cases x with
 |non =>
  cases z;have g:k=false:=e;subst g;exact truthy_none (H,I,q)
 |bl b =>
  cases z;have g:k=b:=e;subst g;exact wpAny_truthy_bool (H,I,q)
 |int i =>let(t,U):=z;have g:k=(i != 0):=e;subst g;exact PySem.P.truthy_int (H,I,q)|str y =>let(t,U):=z;let(hy,g):=e;subst g;exact PySem.P.truthy_str bd (H,I.tok _,q)|byt y =>let(t,U):=z;let(hy,g):=e;subst g;exact W.truthy_bytes bd (H,I.tok _,q)|ref p =>
  cases z;have g:=e;obtain⟨xs,hx,g⟩|⟨xs,hx,g⟩|⟨kvs,hx,g⟩:=g
  ·subst g;let(its,r,V,hz):=I.list hx;have hlen:=r.length;exact wpAny_truthy_list V.isList (by rw[qg,<- hlen];exact Ci (by assumption)) (H,I.tok _,by rw[vP r];exact q)
  ·subst g;let(its,r,V,hz):=I.tuple hx;have hlen:=r.length;exact truthy_tuple V (by rw[qg,<- hlen];exact Ci (by assumption)) (H,I.tok _,by rw[vP r];exact q)
  subst g;let(hz,hS,vs,r,m):=I.hok p _ hx;have hlen:kvs.length=vs.length:=Paired.length r;exact wpAny_truthy_dict hS m (by rw[<- hlen];exact Ci hz) (H,I.tok _,by rw[ED r];exact q)
 |_=>exact(show False from e).elim
def Lb(z:PE X a ta)(he:∀whole,isTrue a X.env whole=(do let v <- whole;standAt a.pos;holding [v] (truthy v))):
  PT X a (λσ H Q=>ta σ H λx H'=>∃k,Rt X.K x H' k/\Q k H'):=by
 left;exact isTrue_plain (thn (z gd s σ H _ I h) λv s1 (x,H1,P,g,q)=>Te gd s1 σ H1 x v Q P g q) (he _)
def D8:OpR X (binaryOp .Add) (λx y H Q=>∃i j,x=.str i/\y=.str j/\i.length+j.length<=lK/\Q (.str (i++j)) H):=by intro gd s σ H x y v u Q I z g h;let(i,j,U,U,K,q):=h;let(t,U):=z;let(t',U):=g;exact add_str (λt' tk=>(.str (i++j),H,I.tok _,(_,U),q)) K
def vals1{x:V}(r:Vals [x] us):∃u,us=[u]/\RelV x u:=by cases r with|cons q g=>cases g;exact(_,U,q)
def vals2{x:V}(r:Vals [x,y] us):∃u g,us=[u,g]/\RelV x u/\RelV y g:=by cases r with|cons P K =>cases K with|cons z q=>cases q;exact(_,_,U,P,z)
def rN(z:X.calm=O):dM X (.builtin "max") (λxs H Q=>∃i j,xs=[.int i,.int j]/\Q (.int (if j > i then j else i)) H):=by
 intro gd s σ H xs us Q I r h;let(i,j,U,q):=h;let(u,K,U,(t,U),(t',U)):=vals2 r;refine max_two_ints (I.ok.hd z) λh' tk k=>(_,H,I.kept k,?_,q);by_cases g:j > i
 ·rw[if_pos g,if_pos g];exact(_,U)
 rw[if_neg g,if_neg g];exact(_,U)
def yP:dM X (.type "int") (λxs H Q=>(∃i,xs=[.int i]/\Q (.int i) H)\/∃k,xs=[.bl k]/\Q (.int (if k then 1 else 0)) H):=by
 intro gd s σ H xs us Q I r h;obtain⟨i,rfl,q⟩|⟨k,rfl,q⟩:=h
 ·let(u,U,t,U):=vals1 r;exact call_int_int (.int i,H,I,(_,U),q)
 let(u,U,g):=vals1 r;cases g;exact call_int_bool (.int (if k then 1 else 0),H,I.tok _,(_,U),q)
end
structure Jq(h:Ev)(x dx C:J)(mA:Υ):Prop where
 obj:h.get? x=Z (W.instObj C dx)
 ns:h.Ns1 dx mA
 ne:dx≠x
variable{mA:Υ}
theorem Ir{h:Ev}{dx:J}(n:h.Ns1 dx mA):∃od,h.get? dx=Z od/\∀name,W.lookIn name od=Z (mA name):=by
 let(o,es,Q,ho,hd,hk,_,hm):=n;refine(o,ho,λname=>?_);have e:=hm name;unfold nsFind findBy at e;rw[<- ae4]at e;unfold W.lookIn;rw[hd];dsimp only;split
 ·rename_i y q;rw[q]at e;exact congrArg Z e
 rename_i q;rw[q]at e;have a:es.toList.any (·.refKey)=false:=by rw[List.any_eq_false];intro y g;let(z,t,P):=hk y (Array.mem_toList_iff.mp g);simp[DictEntry.refKey,P]
 have K:¬ es.toList.any (·.refKey)=true:=by rw[a];exact ri
 rw[if_neg K];exact congrArg Z e
variable{C:J}
theorem Jq.look{h:Ev}{x dx:J}(I:Jq h x dx C mA):∃od,W.InstAt h x (W.instObj C dx) C (Z od)/\∀name,W.lookIn name od=Z (mA name):=
 let(od,ho,hl):=Ir I.ns
 (od,(I.obj,U,U,ho),hl)
variable{ns:Γ}{R:Result->ϋ->Prop}{kw:List (Str×B)}
section
variable{prog:Db}{w:Da}{s:ϋ}{K:Ch}{x dx f:J}{name:Str}{v:B}
theorem get_map{expr:Bool}(X:K.In s.heap)(I:Jq s.heap x dx C mA)(hg:W.plainGet K C name=O)(q:W.hasDictIn K C=O)
  (z:W.findIn K (.ref C) name=Z Y) (hv:mA name=Z v) (g:W.handedIn v=O) (h:Q v {s with toks:=s.toks+1}):
  wpAny (model prog w) A (getAttr (.ref x) name expr) Q E s:=by
 let(od,ώ,hl):=I.look;exact W.get_value X ώ (W.plainGet_of hg).1 (W.findObj_own q z U (by rw[hl,hv])) g h
theorem OA{Q:Unit->ϋ->Prop}(X:K.In s.heap)(I:Jq s.heap x dx C mA)
  (hs:W.findIn K (.ref C) "__setattr__"=Z (Z (.builtin "object.__setattr__"))) (hp:W.plainOver K C=O) (ht:W.takerIn K C name=Z Y) (hh:W.hasDictIn K C=O)
  (hw:PySem.Within mA ns) (hsz:ns.length<=lK)
  (h:∀h',Jq h' x dx C (λy=>if y=name then Z v else mA y)->ZT dx s.heap h'->Q () {s with heap:=h',toks:=s.toks+2}):
  wpAny (model prog w) A (setAttr (.ref x) name v) Q E s:=by
 let(od,ώ,hl):=I.look;refine W.set_plain X ώ hs (W.osa_open X ώ hp ht λb=>?_);let(cd,hc,V):=W.any_some hh;have hx:=I.obj;refine eB (nT (eB (eB (wpAny_loadPart hx (eB (W.Looks.here (W.looks_clsIn X hc) ?_))))));rw[V];refine nT (eB (nT (eB ?_)));refine wpAny_nsSet1 I.ns λh' q g=>?_;let(oD,ar,aF,z,P,ak):=q.count (PySem.Within.cons name v hw);exact eB (wpAny_lookBehind z (by rw[P];exact pastItsLine_dict (tY ak (by rw[tZ];omega))) (nT (h _ ((g.2 _ (Ne.symm I.ne)).trans I.obj,q,I.ne) g)))
theorem L4{vs:Δ}(X:K.In s.heap)(hm:W.makesIn K C=O)
  (hi:W.findIn K (.ref C) "__init__"=Z (Z (.ref f))) (hf:W.typeIn K (.ref f)=Z (.type "function"))
  (h:codeAny (model prog w) (A.under (.builtin "type.__call__" (.ref C::vs,kw))) (.call (.ref f) (.ref (s.heap.objs.size+1)::vs,kw)) (W.InitBack (s.heap.objs.size+1) R)
{s with heap:=(s.heap.push W.emptyDict).push (W.instObj C s.heap.objs.size)}):
  codeAny (model prog w) A (.call (.ref C) (vs,kw)) R s:=by
 exact W.make_core (W.makes_of X hm) (W.looks_findIn X hi) (λself=>W.bind_fn X self hf) (.inl U) h
end
def ny(f:Str)(v:V):List (Str×V)->List (Str×V)
 |[]=>[(f,v)]| (g,x)::r=>if g=f then(g,v)::r else(g,x)::ny f v r
theorem sH(f g:Str)(v:V):∀fs:List (Str×V),(ny f v fs).lookup g=if g=f then Z v else fs.lookup g
 |[]=>by
  show Zw g [(f,v)]=_;by_cases h:g=f
  ·have q:=beq_iff_eq.mpr h;simp only[Zw,q,if_pos h]
  have q:=beq_eq_false_iff_ne.mpr h;simp only[Zw,q,if_neg h]
 | (k,x)::r=>by
  have z:=sH f g v r;rw[show ny f v ((k,x)::r)=(if k=f then(k,v)::r else(k,x)::ny f v r)from rfl];by_cases hk:k=f
  ·rw[if_pos hk];by_cases h:g=k
   ·have q:=beq_iff_eq.mpr h;simp only[Zw,q,if_pos (h.trans hk)]
   have q:=beq_eq_false_iff_ne.mpr h;simp only[Zw,q,if_neg (λe:g=f=>h (e.trans hk.symm))]
  rw[if_neg hk];by_cases h:g=k
  ·have q:=beq_iff_eq.mpr h;simp only[Zw,q,if_neg (λe=>hk (h.symm.trans e))]
  have q:=beq_eq_false_iff_ne.mpr h;simp only[Zw,q];exact z
theorem rE(f:Str)(v:V):∀fs:List (Str×V),f∈(ny f v fs).map (·.1)/\∀g,g∈fs.map (·.1)->g∈(ny f v fs).map (·.1)
 |[]=>(by simp[ny],λg h=>by simp at h)| (k,x)::r=>by
  let(i1,i2):=rE f v r;rw[show ny f v ((k,x)::r)=(if k=f then(k,v)::r else(k,x)::ny f v r)from rfl];by_cases hk:k=f
  ·rw[if_pos hk];subst hk;exact(ba,λg h=>by simpa using h)
  rw[if_neg hk];refine(?_,λg h=>?_)
  ·exact j6 _ i1
  obtain e|e:=lb.mp h
  ·exact lb.mpr (.inl e)
  exact j6 _ (i2 g e)
theorem sI(f:Str)(v:V):∀fs:List (Str×V),(ny f v fs).length<=fs.length+1
 |[]=>by simp[ny]| (k,x)::r=>by
  have g:=sI f v r;rw[show ny f v ((k,x)::r)=(if k=f then(k,v)::r else(k,x)::ny f v r)from rfl];by_cases hk:k=f
  ·rw[if_pos hk,tZ,tZ];lia
  rw[if_neg hk,tZ,tZ];lia
def my.some_of{v:V}{o:Option B}(r:my (Z v) o):∃u,o=Z u/\RelV v u:=by cases o with|none=>exact(r).elim|some u=>exact(u,U,r)
theorem IL{v:V}(r:RelV v u):W.handedIn u=true:=by
 cases v with
 |non=>cases(r);rfl
 |bl b=>cases(r);rfl
 |int i=>let(t,e):=(r);cases e;rfl
 |str x=>let(t,e):=(r);cases e;rfl
 |byt b=>let(t,e):=(r);cases e;rfl
 |flt b=>let(t,e):=(r);cases e;rfl
 |ref a=>cases(r);rfl
 |ty n=>cases(r);rfl
section
variable{w:Da}{h:Ev}{dx:J}{fs:List (Str×V)}
def Gi(hok:HOk P w H h)(e:H a=Z (.ins C dx fs)):∃mA,Jq h a dx C mA/\(∀f,my (fs.lookup f) (mA f))/\PySem.Within mA (fs.map (·.1))/\fs.length<=1000/\H dx=Z (.own a):=by let(d,z,ne,ob,mA,n,r,q):=(hok a _ e);exact(mA,(ob,n,ne),r,q,z,d)
end
structure Cls(K:Ch)(C:J):Prop where
 pg:W.plainGet K C Str.empty=O
 hd:W.hasDictIn K C=O
 po:W.plainOver K C=O
 sa:W.findIn K (.ref C) "__setattr__"=Z (Z (.builtin "object.__setattr__"))
theorem Cls.get{K:Ch}(c:Cls K C)(f:Str):W.plainGet K C f=true:=c.pg
def b7(K:Ch)(C:J)(f:Str):Prop:=W.findIn K (.ref C) f=Z Y
theorem b7.Wo{K:Ch}{f:Str}(n:b7 K C f):W.takerIn K C f=Z none:=by unfold W.takerIn;rw[n];rfl
structure Meth(K:Ch)(C:J)(m:Str)(f:J):Prop where
 at_:W.findIn K (.ref C) m=Z (Z (.ref f))
 fn:W.isFn K (.ref f)=O
 kp:W.keepIn K (.ref f)=O
variable{prog:Db}{env:Env}
section
variable{σ:St}{s:ϋ}{dx:J}{fs:List (Str×V)}{f:Str}{v:V}
def EN{b:Bool}(I:Inv X gd σ H s)(e:H a=Z (.ins C dx fs))(c:Cls X.K C)(n:b7 X.K C f)(l:fs.lookup f=Z v)
  (h:∀u s',Inv X gd σ H s'->RelV v u->Q u s'):wpAny (model X.prog X.w) A (getAttr (.ref a) f b) Q E s:=by
 let(mA,ϋ,r,_,_,_):=Gi I.hok e;let(u,g,ru):=my.some_of (by rw[<- l];exact r f);exact get_map I.kIn ϋ (c.get f) c.hd n g (IL ru) (h u _ (I.tok _) ru)
def DD{Q:Unit->ϋ->Prop}(I:Inv X gd σ H s)(e:H a=Z (.ins C dx fs))(c:Cls X.K C)(n:b7 X.K C f)(hl:fs.length<1000)(V:RelV y u)
  (h:∀s',Inv X gd σ (upd H a (.ins C dx (ny f y fs))) s'->Q () s'):wpAny (model X.prog X.w) A (setAttr (.ref a) f u) Q E s:=by
 let(mA,ϋ,r,wi,_,ho):=Gi I.hok e;have hz:(fs.map (·.1)).length<=lK:=by rw[dN,ZE];lia
 refine OA I.kIn ϋ c.sa c.po n.Wo c.hd wi hz λh' P sb=>h _ ?_;have hd:∃o,h'.get? dx=Z o:=let(o,_,_,e',_):=P.ns;(o,e');refine I.write (x:=a) (e:=dx) (by rw[e];exact True.intro) (.inr ho) (λb q hb z=>(sb.2 b hb).trans z) hd (by rw[au ϋ.ne];exact ho,?_,ϋ.ne,P.obj,_,P.ns,λg=>?_,λg hg=>?_)
 ·have:=sI f y fs;lia
 ·rw[sH];by_cases q:g=f
  ·rw[if_pos q,if_pos q];exact V
  rw[if_neg q,if_neg q];exact r g
 by_cases q:g=f
 ·rw[q];exact(rE f y fs).1
 refine(rE f y fs).2 g (wi g λz=>hg ?_);show(if g=f then Z u else mA g)=Y;rw[if_neg q];exact z
theorem Inv.made(I:Inv X gd σ H s):Inv X gd σ (upd (upd H s.heap.objs.size (.own (s.heap.objs.size+1))) (s.heap.objs.size+1) (.ins C s.heap.objs.size []))
  {s with heap:=(s.heap.push W.emptyDict).push (W.instObj C s.heap.objs.size)}:=by
 have e1:(s.heap.push W.emptyDict).get? s.heap.objs.size=Z W.emptyDict:=px s.heap U;have K:=by
  have:=px (s.heap.push W.emptyDict) (o:=W.instObj C s.heap.objs.size) U
  rwa [yg]at this
 have z:(s.heap.push W.emptyDict).Ns s.heap.objs.size (λ_=>Y):=(W.emptyDict,#[],_,e1,U,(λe he=>absurd he ba),λ_=>rfl);have P:=I.laid (o:=.own (s.heap.objs.size+1)) (t':=s.toks) (λb u q=>gi _ q) (mz _) (_,e1);refine P.laid (λb u q=>gi _ q) (ac9 (yg _ _)) ?_;have ne:s.heap.objs.size≠s.heap.objs.size+1:=uj (ZU _);refine(by rw[au ne,ax],AY _,ne,K,λ_=>Y,(Heap.Ns1.of_empty z).at λo q=>gi _ q,λ_=>True.intro,λy g=>absurd U g)
def Q9{w:Da}{f:Str}{pos:Pos}{s:ϋ}(q:attributeBase e f env (eval e env)=eval e env)
  (h:wpAny (model prog w) A (eval e env) (λo g=>wpAny (model prog w) A (getAttr o f O) Q E g) E s):wpAny (model prog w) A (eval (.Attribute e f pos) env) Q E s:=
 Attribute_any_ h (by rw[arm_eval_Attribute,q])
end
def Yn(K:Ch)(ta tv:TE)(f:Str):TS:=λD σ H=>tv σ H λy H1=>ta σ H1 λx H2=>∃a C dx fs,x=.ref a/\H2 a=Z (.ins C dx fs)/\Cls K C/\b7 K C f/\fs.length<1000 /\
 D.nx σ (upd H2 a (.ins C dx (ny f y fs)))
section
variable{value:EQ}{f:Str}{pos:Pos}{ta tv:TE}
def kO(V:PE X o ta)(hv:PE X value tv)(hs:swapsWith value (Z (.Attribute o f pos')) pos.line X.env=pure ϊ):PS X (.Assign [.Attribute o f pos'] value pos) (Yn X.K ta tv f):=by right;refine plainObj_wpAny_Assign_Attribute (thn (hv gd s σ H _ I h) λu s1 (y,H1,I1,z,q)=>thn (V gd s1 σ H1 _ I1 q) λov s2 g=>?_) hs;let(x,H2,I2,P,a,C,dx,fs,ex,ea,c,n,l,Q):=g;subst ex;obtain rfl:=P;exact DD I2 ea c n l z λs3 I3=>(σ,_,I3,Q)
end
structure dI(k:Nat)(A:Do):Prop where
 hd:A.handled=Y
 dp:A.depth+3*k+5<recursionLimit
 un:A.units+16*k+200<cLine
def dI.mono{k:Nat}(r:dI k A)(h:j<=k):dI j A:=(r.hd,by have:=r.dp;lia,by have:=r.un;lia)
theorem dI.deeper{k:Nat}{A:Do}(r:dI (k+1) A)(env:Env):dI k (A.deeper env):=
 (r.hd,by have:=r.dp;show A.depth+1+3*k+5<_;lia,by have:=r.un;show A.units+3+16*k+200<_;lia)
def El:(A.under (.builtin "type.__call__" (.ref C::us,kw))).depth=A.depth+1:=by rfl
def Ek:(A.under (.builtin "type.__call__" (.ref C::us,kw))).units=A.units+1:=by rfl
def dI.make{k:Nat}{A:Do}(r:dI (k+1) A)(C:J)(us:Δ)(kw:List (Str×B)):dI k (A.under (.builtin "type.__call__" (.ref C::us,kw))):=
 (r.hd,by have:=r.dp;rw[El];lia,by have:=r.un;rw[Ek];lia)
theorem dI.depth{k:Nat}{A:Do}(r:dI k A):A.depth<recursionLimit:=by have:=r.dp;lia
theorem dI.units{k:Nat}{A:Do}(r:dI k A):A.units+64<cLine:=by have:=r.un;lia
def gq:TA:=λ_ H Q=>Q [] H
def bR(ta:TE)(tr:TA):TA:=λσ H Q=>ta σ H λx H1=>tr σ H1 λxs H2=>Q (x::xs) H2
section
variable{t:TA}{pos:Pos}
def cY:PA X [] gq:=λ_ _ _ _ H Q I h=>Calls.spliced_nil ([],H,I,.nil,h)
abbrev AD(X:Cx)(e:EQ)(f:List EQ):Prop:=j7 (e::f) X.env=(false,eval e X.env)::j7 f X.env
def bp(P:PE X e te)(hr:PA X es t)(hs:‹AD X e es›):PA X (e::es) (bR te t):=by intro pos gd s σ H Q I h;rw[hs];show wpAny _ _ (spliced ((ϊ,eval e X.env)::backTo pos (j7 es X.env))) _ _ s;exact Calls.spliced_cons (thn (P gd s σ H _ I h) λu s1 (x,H1,I1,q,K)=>(thn (hr pos gd s1 σ H1 _ I1 K) λus s2 (xs,H2,V,g,z)=>(x::xs,H2,V,.cons q g,z)))
def JM(t:TA):TE:=λσ H Q=>t σ H λxs H1=>xs.length<=lK/\∀p,H1 p=Y->Q (.ref p) (upd H1 p (.tup xs))
def Wr(t:TA):TE:=λσ H Q=>t σ H λxs H1=>xs.length<=lK/\∀p,H1 p=Y->Q (.ref p) (upd H1 p (.lst xs))
def DZ{x1}(h:PA X es t):PE X (.Tuple es x1 pos) (JM t):=by intro gd s σ H Q I hq;refine wpAny_Tuple_spliced (thn (h pos gd s σ H _ I hq) λus s1 (xs,H1,g,r,z,q)=>(by rw[<- r.length];exact z,?_));have hf:=g.hok.fresh (mz _);refine(.ref s1.heap.objs.size,upd H1 s1.heap.objs.size (.tup xs),g.laid (λb u e=>gi _ e) (mz _) ?_,U,q _ hf);exact(z,us,r,((_,px _ U,U,_,U),_,px _ U,U))
def UL(h:PA X es t):PE X (.List es pos) (Wr t):=by intro gd s σ H Q I hq;refine wpAny_List_spliced (thn (h pos gd s σ H _ I hq) λus s1 (xs,H1,g,r,z,q)=>(by rw[<- r.length];exact z,?_));have hf:=g.hok.fresh (mz _);refine(.ref s1.heap.objs.size,upd H1 s1.heap.objs.size (.lst xs),g.laid (λb u e=>gi _ e) (mz _) ?_,U,q _ hf);exact(z,us,0,r,px _ U)
end
abbrev Sp:=Ω->Hp->VK->XK->Prop
abbrev CXT:=List Env->Hp->ϋ->XK->Φ
structure Fh(P:Db)(w:Da)(K:Ch)(mg:Υ)(base:Ev)(A:Do)(outer:List Env)(s:ϋ)(H:Hp):Prop where
 frames:A.frames=Z outer
 mod:Mod K mg base
 bs:∀b o,base.get? b=Z o->s.heap.get? b=Z o/\H b=Y
 bsz:base.objs.size<=s.heap.objs.size
 mx:s.heap.FunFrames base outer
 frf:∀b∈frs outer,H b=Y
 hok:HOk P w H s.heap
 bare:AllBare s.gens
def CE(outer:List Env)(P:Db)(w:Da)(H:Hp)(s:ϋ)(Q:VK)(u:B)(s':ϋ):Prop:=
 ∃v H',s'.os=s.os/\AllBare s'.gens/\Un (frs outer) [] H H' s.heap s'.heap/\HOk P w H' s'.heap/\RelV v u/\Q v H'
def CR(CX:CXT)(outer:List Env)(P:Db)(w:Da)(H:Hp)(s:ϋ)(Q:VK)(E:XK)(r:Result)(s':ϋ):Prop:=
 match r with|.ok (.ret u)=>CE outer P w H s Q u s'|.ok _=>False|.error e=>CX outer H s E e s'
structure aP(P:Db)(w:Da)(K:Ch)(mg:Υ)(base:Ev)(CX:CXT)(k:Nat)(f:J)(fd:Cl)(ps:Γ)(sp:Sp):Prop where
 len:∀vs H Q E,sp vs H Q E->vs.length=ps.length
 run:∀(A:Do)(outer:List Env)(s:ϋ)(H:Hp)(args:Args)(us:Δ)(vs:Ω)(Q:VK)(E:XK),dI k A->Fh P w K mg base A outer s H->BindsTo s fd args (ps.zip us)->Vals vs us->sp vs H Q E ->
  codeAny (model P w) A (.call (.ref f) args) (CR CX outer P w H s Q E) s
variable{mg:Υ}{base:Ev}{CX:CXT}{fd:Cl}{ps:Γ}{sp:Sp}
theorem aP.imp{w:Da}{K:Ch}{k:Nat}{f:J}{g:Sp}(F:aP P w K mg base CX k f fd ps sp)
  (h:∀vs H Q E,g vs H Q E->sp vs H Q E):aP P w K mg base CX k f fd ps g:=
 (λvs H Q E q=>F.len vs H Q E (h _ _ _ _ q),λA outer s H args us vs Q E hr he z hv hs=>F.run A outer s H args us vs Q E hr he z hv (h _ _ _ _ hs))
theorem Fh.make{P:Db}{w:Da}{K:Ch}{mg:Υ}{base:Ev}{A:Do}{outer:List Env}{s:ϋ}{H:Hp}(e:Fh P w K mg base A outer s H)(C:J)(us:Δ)(kw:List (Str×B)):
  Fh P w K mg base (A.under (.builtin "type.__call__" (.ref C::us,kw))) outer s H:=(by exact e.frames,e.mod,e.bs,e.bsz,e.mx,e.frf,e.hok,e.bare)
section
variable{σ:St}{s:ϋ}
def Inv.VF(I:Inv X gd σ H s):Fh X.prog X.w X.K X.mg X.base X.A X.stack s H:=
 (I.ok.frames,I.ok.mod,I.bs,tY I.ok.bsz I.sz,I.stack,I.lT,I.hok,I.bare)
def Inv.after{Q:VK}(I:Inv X gd σ H s)(h:CE X.stack X.prog X.w H s Q u s'):EP X gd σ Q u s':=by let(v,H',os,bare,un,hok,r,q):=h;let(P,g,d,t,K):=s';obtain rfl:=os;exact(v,H',I.call un hok bare (λb z=>absurd z ba),r,q)
end
def Bd(sp:Sp)(dvs:Ω)(E:XK)(t:TA):TE:=λσ H Q=>t σ H λvs H1=>sp (vs++dvs) H1 Q E
def Binds(K:Ch)(fd:Cl)(ps:Γ)(ds:Δ):Prop:=
 ∀(s:ϋ)(us:Δ),K.In s.heap->(us++ds).length=ps.length->BindsTo s fd (us,[]) (ps.zip (us++ds))
theorem Binds.all{K:Ch}(h:∀us:Δ,us.length=ps.length->bindArgs fd (us,[])=pure (ps.zip us)):Binds K fd ps []:=λs us _ hl=>by
 rw[pq]at hl ⊢;exact .of_eq (h us hl)
def Passes(CX:CXT)(X:Cx)(E:XK):Prop:=∀(gd:Ξ)(σ:St)(H:Hp)(s:ϋ)(e:B)(s':ϋ),Inv X gd σ H s->CX X.stack H s E e s'->X.xe e s'
section
variable{k:Nat}{f:J}{dvs:Ω}{ds:Δ}{E:XK}{p pos:Pos}{t:TA}
theorem TN{σ:St}{s:ϋ}{Q:VK}{vs:Ω}(F:aP X.prog X.w X.K X.mg X.base CX k f fd ps sp)(hr:dI k X.A)(q:Binds X.K fd ps ds)(hd:Vals dvs ds)(hx:Passes CX X E)
  (I:Inv X gd σ H s) (r:Vals vs us) (h:sp (vs++dvs) H Q E):XV X (call (.ref f) us) (EP X gd σ Q) X.xe s:=by
 have g:=r.append hd;have hl:(us++ds).length=ps.length:=by rw[<- g.length];exact F.len _ _ _ _ h
 refine wpAny_call (codeAny_mono (F.run X.A X.stack s H (us,[]) (us++ds) (vs++dvs) Q E hr I.VF (q s us I.kIn hl) g h) λr s' hq=>?_);cases r with|error e=>exact hx gd σ H s e s' I hq|ok fl =>cases fl with|ret u=>exact I.after hq|next=>exact False.elim hq|brk=>exact False.elim hq|cont=>exact False.elim hq
abbrev AS(X:Cx)(p:Pos)(e:List EQ):Prop:=(backTo p (j7 e X.env)).any (·.1)=false
theorem z9(F:aP X.prog X.w X.K X.mg X.base CX k f fd ps sp)(hr:dI k X.A)(hg:Gl X x)(hm:X.mg x=Z (.ref f))(hk:W.keepIn X.K (.ref f)=O)(V:Binds X.K fd ps ds)(hd:Vals dvs ds)(hx:Passes CX X E)
  (ha:PA X (e::es) t) (z:autoParam (AT x) zdc._auto_1) (he:‹AD X e es›) (g:‹AS X pos es›):
  PE X (.Call (.Name x p) (e::es) [] pos) (Bd sp dvs E t):=by
 left;exact RA (l9 I hg hm (W.callWith_K (h₀:=X.base) I.ok.mod.kin hk (thn (ha pos gd s σ H _ I h) λus s1 (vs,H1,P,r,q)=>(P.kIn,(TN F hr V hd hx P r q))) he g) z)
structure Mk(K:Ch)(C f:J):Prop where
 makes:W.makesIn K C=O
 init:W.findIn K (.ref C) "__init__"=Z (Z (.ref f))
 fn:W.isFn K (.ref f)=O
 kp:W.keepIn K (.ref C)=O
theorem Kj{σ:St}{s:ϋ}{Q:VK}{vs:Ω}(M:Mk X.K C f)(F:aP X.prog X.w X.K X.mg X.base CX k f fd ps sp)(hr:dI (k+1) X.A)(hb:Binds X.K fd ps ds)(hd:Vals dvs ds)
  (hx:Passes CX X E) (I:Inv X gd σ H s) (r:Vals vs us)
  (h:∀x dx,H x=Y->H dx=Y->dx≠x->sp (.ref x ::(vs++dvs)) (upd (upd H dx (.own x)) x (.ins C dx [])) (λv H2=>v=.non/\Q (.ref x) H2) E):
  XV X (call (.ref C) us) (EP X gd σ Q) X.xe s:=by
 have hq:=h (s.heap.objs.size+1) s.heap.objs.size (I.hok.fresh (Nat.le_succ _)) (I.hok.fresh (mz _)) (uj (ZU _));have q:=Inv.made (C:=C) I;have z:Vals (V.ref (s.heap.objs.size+1) ::(vs++dvs)) (B.ref (s.heap.objs.size+1) ::(us++ds)):=.cons U (r.append hd);have hl:=by have e:=z.length;rw[F.len _ _ _ _ hq]at e;exact e.symm
 refine wpAny_call (L4 I.kIn M.makes M.init (beq_iff_eq.mp M.fn) (codeAny_mono (F.run _ X.stack _ _ (B.ref (s.heap.objs.size+1)::us,[]) (B.ref (s.heap.objs.size+1) ::(us++ds)) _ _ E (hr.make C us [])
(q.VF.make C us []) (hb _ (B.ref (s.heap.objs.size+1)::us) q.kIn hl) z hq) λr s' g=>?_))
 cases r with|error e=>exact hx gd σ _ _ e s' q g|ok fl =>cases fl with|ret u =>let(v,H',I3,P,ev,q3):=q.after g;subst ev;exact(P,(V.ref (s.heap.objs.size+1),H',I3,U,q3))|next=>exact False.elim g|brk=>exact False.elim g|cont=>exact False.elim g
end
structure aD(N P:Γ)(sc:Scope):Prop where
 kind:sc.kind=.function
 co:sc.isCoroutine=ϊ
 gen:sc.isGenerator=ϊ
 nd:N.Nodup
 pre:N.take P.length=P
 par:∀x∈P,sc.names.lookup x=Z .local\/sc.names.lookup x=Z .cell
 UX:∀y∈sc.names,y.2 ≠ .free
theorem yQ{kindOf:Str->Option NameKind}{x:Str}:∀{binds:List (Str×B)}{m:Υ},(∀v,(x,v) ∉ binds)->bindL kindOf binds m x=m x
 |[],_,_=>rfl| (n,v)::r,m,h=>by
  unfold bindL;rw[yQ λw hw=>h w (j6 _ hw)];split
  ·have:x≠n:=by rintro rfl;exact h v j4
   simp[this]
  rfl
theorem yS{kindOf:Str->Option NameKind}{x:Str}:∀{binds:List (Str×B)}{m:Υ},(∀v,(x,v) ∉ binds)->bindC kindOf binds m x=m x
 |[],_,_=>rfl| (n,v)::r,m,h=>by
  unfold bindC;rw[yS λw hw=>h w (j6 _ hw)];split
  ·rfl
  have:x≠n:=by rintro rfl;exact h v j4
  simp[this]
theorem yR{kindOf:Str->Option NameKind}{x:Str}{v:B}:∀{P:Γ}{vs:Δ}{i:Nat}{m:Υ},P.Nodup->P[i]?=Z x->vs[i]?=Z v->kindOf x=Z .local ->
  bindL kindOf (P.zip vs) m x=Z v
 |[],_,_,_,_,h,_,_=>by simp at h|_::_,[],_,_,_,_,h,_=>by simp at h|p::P,w::vs,0,m,nd,h1,h2,hk=>by
  simp at h1 h2;subst h1;subst h2;show bindL kindOf ((p,w)::P.zip vs) m p=_;unfold bindL;rw[yQ λv hv=>(wh.mp nd).1 (Zm hv).1,if_pos hk];simp
 |p::P,w::vs,i+1,m,nd,h1,h2,hk=>by
  unfold bindL;exact yR (wh.mp nd).2 (h1:) (h2:) hk
theorem yT{kindOf:Str->Option NameKind}{x:Str}{v:B}:∀{P:Γ}{vs:Δ}{i:Nat}{m:Υ},P.Nodup->P[i]?=Z x->vs[i]?=Z v->kindOf x≠Z .local ->
  bindC kindOf (P.zip vs) m x=Z v
 |[],_,_,_,_,h,_,_=>by simp at h|_::_,[],_,_,_,_,h,_=>by simp at h|p::P,w::vs,0,m,nd,h1,h2,hk=>by
  simp at h1 h2;subst h1;subst h2;show bindC kindOf ((p,w)::P.zip vs) m p=_;unfold bindC;rw[yS λv hv=>(wh.mp nd).1 (Zm hv).1,if_neg hk];simp
 |p::P,w::vs,i+1,m,nd,h1,h2,hk=>by
  unfold bindC;exact yT (wh.mp nd).2 (h1:) (h2:) hk
def start(N:Γ)(vs:Ω):St:=vs.map Z++rY (N.length-vs.length) Y
def rM(CX:CXT)(P:Db)(w:Da)(K:Ch)(mg:Υ)(base:Ev)(N:Γ)(qual:Str)(scope:Scope)(f:J)(cd:B)(A:Do)(outer:List Env)(s:ϋ)(H:Hp)(E:XK):Cx where
 prog:=P
 w:=w
 K:=K
 mg:=mg
 base:=base
 A:=A.deeper (envOfC qual scope s.heap.objs.size f cd)
 N:=N
 s₀:=s
 bi:=H
 env:=envOfC qual scope s.heap.objs.size f cd
 outer:=outer
 stack:=envOfC qual scope s.heap.objs.size f cd::outer
 ex:=[]
 calm:=O
 fn:=λ_=>O
 pn:=[]
 xe:=λe s'=>wpAny (model P w) (A.deeper (envOfC qual scope s.heap.objs.size f cd)) (leaving (envOfC qual scope s.heap.objs.size f cd) e) (λ_ g=>CX outer H s E e g) (λq g=>CX outer H s E q g) s'
variable{sc:Scope}
theorem Cw(h:sc.names.lookup x=Z .cell):∃c,(cellsFrom n sc.names []).lookup x=Z c:=by have q:=W.cellsFrom_some sc.names n [] (.inl h);exact Option.isSome_iff_exists.mp q
variable{qual:Str}{scope:Scope}{cd:B}{outer:List Env}
theorem II{w:Da}{K:Ch}{f:J}{s s1:ϋ}{E:XK}{vs:Ω}
  (S:aD N ps scope) (hd:A.handled=Y) (g:Fh P w K mg base A outer s H) (hl:vs.length=ps.length) (r:Vals vs us)
  (x:InCallC s s.heap.objs.size (bindL (envOfC qual scope s.heap.objs.size f cd).kindOf (ps.zip us) λ_=>Y) (cellsFrom (s.heap.objs.size+1) scope.names []) (bindC (envOfC qual scope s.heap.objs.size f cd).kindOf (ps.zip us) λ_=>Y) s1):
  Inv (rM CX P w K mg base N qual scope f cd A outer s H E) [] (start N vs) H s1:=by
 have ar:ps.length<=N.length:=by have:=congrArg CP S.pre;rw[tX]at this;lia
 let(h1,tk,U,hk):=x.done;have Q:∀b,b ∉ (rM CX P w K mg base N qual scope f cd A outer s H E).ex:=λb z=>absurd (show b∈([])from z) ba;refine((g.mod,S.kind,U,U,mz _,λy z c h1 h2=>?_,λy hy=>?_,λy c _ h=>?_,λ_=>hd,Around.frames_deeper g.frames,.inr (U,U),λb z=>absurd z (Q b),g.bs,g.bsz,λb _ _=>Q b,λb z=>absurd z (Q b),g.mx,g.frf),
rfl,g.bare,Un.kept hk,(_,x.toInCall.ns,λi y v h1 h2 h3=>?_),λy c h=>(_,x.cell y c h),g.hok.fresh (mz _),λy c h=>?_,λp hp=>absurd (show p∈([])from hp) ba,g.hok.kept hk,?_)
 ·exact name_of_addr x.apart (PySem.mem_of_lookup h1) (PySem.mem_of_lookup h2)
 ·obtain hy|hy:=hy
  ·exact Cw hy
  exact absurd U (S.UX _ (PySem.mem_of_lookup hy))
 ·exact v5 (x.above y c (PySem.mem_of_lookup h))
 ·have hi:i<vs.length:=by
   unfold start at h2;by_cases hi:i<vs.length
   ·exact hi
   rw[u6 (hi:)]at h2;rw[ac2]at h2;split at h2 <;> cases h2
  have ha:vs[i]?=Z v:=by
   unfold start at h2;rw[u4 (hi:),fZ]at h2;cases e:vs[i]? with
   |none=>rw[e]at h2;cases h2
   |some a=>rw[e]at h2;cases h2;rfl
  let(u,hu,rv):=r.get ha;have hp:ps[i]?=Z y:=by rw[<- S.pre,ac0 bd];exact h1
  have ak:ps.Nodup:=by rw[<- S.pre];exact S.nd.sublist (V0 _ _)
  refine(u,rv,?_);obtain k|k:=S.par y (jk hp)
  ·exact .inl (k,yR ak hp hu k)
  let(c,e):=Cw k;refine .inr (.inl k,c,e,?_);have q:=x.cell y c e;rw[yT ak hp hu (by show scope.names.lookup y≠_;rw[k];decide)]at q;exact q
 ·exact g.hok.fresh (v5 (x.above y c (PySem.mem_of_lookup h)))
 unfold start;show _=N.length;rw[g5,dN,ad1];lia
variable{name:Str}{pm:B}{ct:B}{oc:B}{an:Option J}{od:Option J}
theorem SD{w:Da}{K:Ch}{k:Nat}{f:J}{params:Arguments}{dV kV doc cdv:B}
  {osl:Array (Option B)} {N ps:Γ} {sp:Sp} (lk:K.lookup f=Z (oc,od,.func (W.fnOf name qual params body scope dV kV doc pm an cdv ct),osl)) (ak:W.codeIn K cdv qual=O) (S:aD N ps scope)
  (len:∀vs H Q E,sp vs H Q E->vs.length=ps.length)
  (k9:∀(A:Do)(outer:List Env)(s:ϋ)(H:Hp)(vs:Ω)(Q:VK)(E:XK),dI k (A.deeper (envOfC qual scope s.heap.objs.size f cdv))->sp vs H Q E ->
∃ t,PSs (rM CX P w K mg base N qual scope f cdv A outer s H E) body t/\t {nx:=λ_ H'=>Q .non H',rt:=Q} (start N vs) H):
  aP P w K mg base CX (k+1) f (W.fnOf name qual params body scope dV kV doc pm an cdv ct) ps sp:=by
 refine(len,λA outer s H args us vs Q E hr e0 hb r z=>?_);have hl:=len _ _ _ _ z;have KX:=e0.mod.kin.keeps λb o e=>(e0.bs b o e).1;have lim:=e0.mod.nolimit.keeps λb o e=>(e0.bs b o e).1;have jd:∀y∈ps.zip us,scope.names.lookup y.1=Z .local\/(scope.names.lookup y.1=Z .cell/\((cellsFrom (s.heap.objs.size+1) scope.names []).lookup y.1).isSome=O):=λ(n,v) hy=>by
  obtain q|q:=S.par n (Zm hy).1
  ·exact .inl q
  exact .inr (q,W.cellsFrom_some _ _ _ (.inl q))
 refine codeAny_call_function hr.depth (KX _ _ lk) U S.co S.gen U (W.codeRec_of KX ak) (hb _ _ _ _ (wpAny_newFunctionEnv_cells S.kind jd λenv he s1 x=>?_));subst he;refine(lim.keeps x.toInCall.keep,codeAny_func ?_);let(t,ht,hq):=k9 A outer s H vs Q E (hr.deeper _) z;have I:Inv (rM CX P w K mg base N qual scope f cdv A outer s H E) [] (start N vs) H s1:=II S hr.hd e0 hl r x;refine QG (ht [] s1 (start N vs) H _ I hq) (λfl s' hs=>?_) λe s' hs=>hs;have fin:∀{g:St}{H':Hp}{v:V}{u:B},Inv (rM CX P w K mg base N qual scope f cdv A outer s H E) [] g H' s'->RelV v u->Q v H'->CE outer P w H s Q u s':=
  λ{g H' v u} ώ rv q=>(v,H',ώ.os,ώ.bare,ώ.base,ώ.hok,rv,q)
 cases fl with|ret u =>let(v,g,H',ώ,rv,q):=hs;exact fin ώ rv q|next =>let(g,H',ώ,q):=hs;exact fin (v:=V.non) ώ U q|brk =>let(_,_,_,q):=hs;exact False.elim q|cont =>let(_,_,_,q):=hs;exact False.elim q
section
variable{p pos:Pos}{t:TA}{id T:String}{r:Ω->Hp->VK->Prop}
def tCB(r:Ω->Hp->VK->Prop)(t:TA):TE:=λσ H Q=>t σ H λvs H1=>r vs H1 Q
def i7(P:dM X (.builtin id) r)(hg:Gl X x)(hm:X.mg x=Y)(hv:bootBuiltins x=Z (.builtin id))(V:PA X (e::es) t)(hn:autoParam (x ≠ "__name__") zdc._auto_1)(q:autoParam (AT x) zdc._auto_1)
  (he:‹AD X e es›) (g:‹AS X pos es›):PE X (.Call (.Name x p) (e::es) [] pos) (tCB r t):=by
 left;exact RA (gQ I hg hm hv (PyProof.Rows.callWith_builtin1 (thn (V pos gd s σ H _ I h) λus s1 (vs,H1,I1,z,K)=>P gd s1 σ H1 vs us Q I1 z K) he g) hn q)
def Ic(P:dM X (.type T) r)(hg:Gl X x)(hm:X.mg x=Y)(hv:bootBuiltins x=Z (.type T))(V:PA X (e::es) t)(hn:autoParam (x ≠ "__name__") zdc._auto_1)(q:autoParam (AT x) zdc._auto_1)
  (he:‹AD X e es›) (g:‹AS X pos es›):PE X (.Call (.Name x p) (e::es) [] pos) (tCB r t):=by
 left;exact RA (gQ I hg hm hv (PyProof.Rows.callWith_type1 (thn (V pos gd s σ H _ I h) λus s1 (vs,H1,I1,z,K)=>P gd s1 σ H1 vs us Q I1 z K) he g) hn q)
end
end L2
namespace HT
open PySem PyProof.Rows
section
variable{prog:Db}{w:Da}{A:Do}{E:Φ}{s:ϋ}
def Q5{t b:J}{vs ws:Δ}{Q:Φ}(ht:IsTup s.heap t vs.toArray)(hb:IsTup s.heap b ws.toArray)(hv:vs ≠ [])
  (h1:ws=[]->Q (.ref t) s) (h2:ws ≠ []->Q (.ref s.heap.objs.size) {s with heap:=s.heap.push {cls:=.type "tuple",data:=.seq (vs++ws).toArray}})
  (hsz:vs.length+ws.length<=lK):wpAny (model prog w) A (binaryOp .Add (.ref t) (.ref b)) Q E s:=by
 let((cls,dd,data,sl),ho,V,n,hd):=id ht;let((Y3,K,data2,q),g,z,P,hd2):=id hb;simp only at V hd z hd2;subst V hd z hd2;have e:vs.toArray++ws.toArray=(vs++ws).toArray:=by simp
 by_cases hw:ws=[]
 ·exact concat_meets (_,ho,U) (_,g,U) noFill_tuple_add seq_tuple_add PySem.F.slot_tuple_add PySem.F.entry_tuple_add (PySem.F.args_tuple_add_2 _ _)
   (tuple_addW1 t b vs.toArray ws.toArray n P dd K sl q (hv:) (by simp[hw])) (ho,g,h1 hw)
 refine concat_meets (_,ho,U) (_,g,U) noFill_tuple_add seq_tuple_add PySem.F.slot_tuple_add PySem.F.entry_tuple_add (PySem.F.args_tuple_add_2 _ _)
  (tuple_addW2 t b vs.toArray ws.toArray n P dd K sl q (hv:) (hw:) (by exact hsz)) (ho,g,?_)
 rw[e];exact h2 hw
def sIx(n d:Nat):Option Int->Nat
 |none=>d|some v=>if v<0 then(v+(n:Int)).toNat else min v.toNat n
def vf(n d:Nat):sIx n d Y=d:=rfl
def oC(n d k:Nat):sIx n d (Z (k:Int))=min k n:=by show(if(k)<0 then((k)+(n:Int)).toNat else min (k:Int).toNat n)=min k n;rw[if_neg bd,ab9]
def XT(a:Int)(n:Nat)(h0:0<=a):min a (n:Int)=((min a.toNat n:Nat):Int):=by
 by_cases h:a<=n
 ·rw[Int.min_eq_left h,QL (ae7.mpr h),Xx h0]
 have h':=Int.le_of_lt (Int.not_le.mp h);rw[Int.min_eq_right h',Nat.min_eq_right ((Int.le_toNat h0).mpr h')]
def JW(n:Nat)(i:Int)(h:i<0):max 0 (min (i+(n:Int)) n)=((i+n).toNat:Int):=by rw[Int.min_eq_left (Int.add_le_of_le_sub_right (by rw[Int.sub_self];exact Int.le_of_lt h)),Int.max_comm,Int.ofNat_toNat]
def JV(n:Nat)(i:Int)(h:¬ i<0):max 0 (min i (n:Int))=((min i.toNat n:Nat):Int):=by rw[XT i n (Int.not_lt.mp h),Int.max_eq_right (Int.natCast_nonneg _)]
def GL(v:Int)(n d:Nat):(if v<0 then max (v+(n:Int)) 0 else min v (n:Int))=((sIx n d (Z v):Nat):Int):=by
 show(if v<0 then max (v+(n)) 0 else min v (n))=(((if v<0 then(v+(n)).toNat else min v.toNat n)));by_cases hv:v<0
 ·rw[if_pos hv,if_pos hv];exact(Int.ofNat_toNat _).symm
 rw[if_neg hv,if_neg hv];exact XT v n (Int.not_lt.mp hv)
def EZ(lo hi:Option Int)(n:Nat):Builtin.Slice.sliceAdjust lo hi 1 (n:Int)=(((sIx n 0 lo:Nat):Int),((sIx n n hi:Nat):Int)):=by
 have h1:=by omega
 unfold Builtin.Slice.sliceAdjust;refine Prod.ext ?_ ?_
 ·cases lo with|none=>rfl|some v=>exact GL v n 0
 cases hi with|none=>rfl|some v=>exact GL v n n
def DW(i j:Nat):Builtin.Slice.slicePlaces (i:Int) (j:Int) 1=j-i:=by unfold Builtin.Slice.slicePlaces;have h1:(1:Int) > 0:=bd;simp only[h1,if_true,Int.ediv_one];split <;> lia
def uR{v:B}{o:Option Int}{Q:Option Int->ϋ->Prop}(p:IsPart v o)(h:Q o s):wpAny (model prog w) A (Builtin.Slice.slicePartIndex v) Q E s:=by cases p with|none=>exact slicePart_none h|int i t=>exact slicePart_int h
def iU{sl:J}{K z:B}{lo hi:Option Int}{n:Nat}{Q:Int×Int×Nat->ϋ->Prop}(hs:s.heap.IsSliceOf sl K z .none)(P:IsPart K lo)(pu:IsPart z hi)
  (h:Q (((sIx n 0 lo:Nat):Int),1,sIx n n hi-sIx n 0 lo) s):wpAny (model prog w) A (Builtin.Slice.sliceApplied (.ref sl) (pure (n:Int))) Q E s:=by
 let(os,g,V,q):=id hs;refine eB (eB (wpAny_field g q (x:=K) U (eB (wpAny_field g q (x:=z) U (eB (wpAny_field g q U (nT ?_)))))));refine eB (slicePart_none ?_);refine eB (uR P (eB (uR pu (eB (nT ?_)))));show wpAny _ _ (match Builtin.Slice.sliceAdjust lo hi 1 (n)with|(lo,hi)=>pure (Prod.mk lo (Prod.mk (1:Int) (Builtin.Slice.slicePlaces lo hi 1)))) _ _ s;rw[EZ lo hi n];show wpAny _ _ (pure (Prod.mk ((sIx n 0 lo):Int) (Prod.mk (1) (Builtin.Slice.slicePlaces ((sIx n 0 lo)) ((sIx n n hi)) 1)))) _ _ s;rw[DW];exact nT h
def Lr(xs:Array B)(i k:Nat):((Fc k).filterMap λ(m:Nat)=>xs[((i:Int)+(m:Int)*1).toNat]?).toArray=((xs.toList.drop i).take k).toArray:=by
 have e:(λ(m:Nat)=>xs[((i)+(m:Int)*1).toNat]?)=λm=>xs[i+m]?:=by funext m;have:((i)+(m:Int)*1).toNat=i+m:=bd;rw[this]
 rw[e];have:=pick_run xs i k;rw[List.filterMap_map]at this;have g:((λx=>xs[x]?) ∘ λx=>i+x)=λm=>xs[i+m]?:=rfl;rw[g]at this;rw[this]
def pB{t sl:J}{items:Array B}{vl vu:B}{lo hi:Option Int}{Q:Φ}(g:IsTup s.heap t items)(hs:s.heap.IsSliceOf sl vl vu .none)(pl:IsPart vl lo)(pu:IsPart vu hi)
  (hw:¬(sIx items.size 0 lo=0/\sIx items.size items.size hi=items.size))
  (h:Q (.ref s.heap.objs.size) {s with heap:=s.heap.push {cls:=.type "tuple",data:=.seq ((items.toList.drop (sIx items.size 0 lo)).take (sIx items.size items.size hi-sIx items.size 0 lo)).toArray}})
  (hsz:items.size<=lK):wpAny (model prog w) A (getItem (.ref t) (.ref sl)) Q E s:=by
 have Xu:sizeOk (.seq ((items.toList.drop (sIx items.size 0 lo)).take (sIx items.size items.size hi-sIx items.size 0 lo)).toArray):=by show((items.toList.drop (sIx items.size 0 lo)).take (sIx items.size items.size hi-sIx items.size 0 lo)).toArray.size<=lK;rw[qg,tX,Ry,Zz];exact tY (tY (ac3 _ _) (Nat.sub_le _ _)) hsz
 let(os,z,P,ak):=id hs;have V:s.TypeIs (.ref sl) "slice":=(os,z,P);unfold getItem;try with_reducible refine Rw ?_
 refine eB (wpAny_sequenceKey g.typeIs ad ?_);refine eB (wpAny_callSpecial?_slot g.typeIs PyProof.Rows.slot_tuple_getitem
(Js PyProof.Rows.slot_tuple_getitem g.typeIs entry_tuple_getitem ?_ (args_tuple_getitem _ _)))
 show wpAny _ _ (Builtin.Tuple.tupleItemsOf (.ref t) >>= _) _ _ s;refine eB (tupleItemsOf_ g (eB (Yc V ?_)));refine eB (iU hs pl pu ?_);have K:¬((((sIx items.size 0 lo):Int)==0&&(1:Int)==1&&(sIx items.size items.size hi-sIx items.size 0 lo)==items.size)=O):=by intro q;rw[rX,rX]at q;have q1:=eq_of_beq q.1.1;have q2:=eq_of_beq q.2;exact hw (bd,bd)
 show wpAny _ _ (if(((sIx items.size 0 lo):Int)==0&&(1)==1&&(sIx items.size items.size hi-sIx items.size 0 lo)==items.size)=O then _ else _) _ _ s;rw[if_neg K,Lr];exact eB (m:=Builtin.Tuple.tupleExact _) (ZP (nT (_,U,nT h)) Xu)
end
end HT
namespace L2
open PySem PySem.Spec PyProof.Rows
abbrev TO:=St->Hp->(Option Int->Hp->Prop)->Prop
def PO(X:Cx)(e:Option EQ)(t:TO):Prop:=
 ∀(gd:Ξ)(s:ϋ)(σ:St)(H:Hp)(Q:Option Int->Hp->Prop),Inv X gd σ H s->t σ H Q ->
  XV X (evalPart e X.env) (λu s'=>∃o H',Inv X gd σ H' s'/\IsPart u o/\Q o H') X.xe s
def Fy:TO:=λ_ H Q=>Q Y H
def RI(t:TE):TO:=λσ H Q=>t σ H λx H1=>∃i,x=.int i/\Q (Z i) H1
variable{us:Δ}
section
variable{X:Cx}{e:EQ}{te:TE}{lo hi:Option EQ}{tl th:TO}{pos p2:Pos}
def Pj:PO X Y Fy:=by left;exact nT (Y,H,I,.none,h)
def z5(h:PE X e te):PO X (Z e) (RI te):=by intro gd s σ H Q I hw;refine thn (h gd s σ H _ I hw) λu s1 g=>?_;let(x,H1,P,z,K):=g;let(i,U,q):=K;let(t,U):=z;exact(Z i,H1,P,.int i t,q)
def SlR(X:Cx)(r:V->Option Int->Option Int->Hp->VK->Prop):Prop:=
 ∀(gd:Ξ)(s:ϋ)(σ:St)(H:Hp)(x:V)(v q g:B)(lo hi:Option Int)(sl:J)(Q:VK),Inv X gd σ H s->RelV x v->s.heap.IsSliceOf sl q g .none->IsPart q lo->IsPart g hi->r x lo hi H Q ->
  ∃T id,typeLookup (.type T) "__getitem__"=pure (Z (.builtin id))/\s.TypeIs v T/\XV X (getItem v (.ref sl)) (EP X gd σ Q) X.xe s
def SlR.or{r r':V->Option Int->Option Int->Hp->VK->Prop}(h:SlR X r)(h':SlR X r'):SlR X (λx lo hi H Q=>r x lo hi H Q\/r' x lo hi H Q):=by
 intro gd s σ H x v z g lo hi sl Q I K hs P pu q;obtain q|q:=q
 ·exact h gd s σ H x v z g lo hi sl Q I K hs P pu q
 exact h' gd s σ H x v z g lo hi sl Q I K hs P pu q
def tSl(r:V->Option Int->Option Int->Hp->VK->Prop)(te:TE)(tl th:TO):TE:=λσ H Q=>te σ H λx H1=>tl σ H1 λl H2=>th σ H2 λu g=>r x l u g Q
def BB{r:V->Option Int->Option Int->Hp->VK->Prop}(hr:SlR X r)(he:PE X e te)(hl:PO X lo tl)(hu:PO X hi th):PE X (.Subscript e (.Slice lo hi Y p2) pos) (tSl r te tl th):=by left;refine Subscript_ (thn (he gd s σ H _ I h) λv s1 (x,H1,I1,r1,q1)=>(wpAny_Slice (thn (hl gd s1 σ H1 _ I1 q1) λz s2 (l,H2,I2,pl,q2)=>thn (hu gd s2 σ H2 _ I2 q2) λg s3 K=>?_)));let(u,P,I3,pu,q3):=K;refine nT ?_;have I4:Inv X gd σ P {s3 with heap:=s3.heap.push {cls:=.type "slice",data:=.fields #[z,g,.none]}}:=I3.kept λb ob q=>gi _ q;let(T,id,hT,ht,hg):=hr gd {s3 with heap:=s3.heap.push {cls:=.type "slice",data:=.fields #[z,g,.none]}} σ P x v z g l u s3.heap.objs.size Q I4 r1 (Heap.IsSliceOf.new ..) pl pu q3;exact tail_any ht hT hg (by with_unfolding_all rfl)
def pO(xs:Ω)(lo hi:Option Int):Ω:=(xs.drop (HT.sIx xs.length 0 lo)).take (HT.sIx xs.length xs.length hi-HT.sIx xs.length 0 lo)
def sP(xs:Ω)(lo hi:Option Int):(pO xs lo hi).length<=xs.length:=by unfold pO;rw[tX,Ry];exact tY (ac3 _ _) (Nat.sub_le _ _)
inductive Yo(K:Ch)(x:V)(lo:Option Int)(hi:Option Int)(H:Hp)(Q:VK):Prop
 |mk(a xs:_)(h1:x=.ref a)(h2:SqT K H a xs)(h3:¬(HT.sIx xs.length 0 lo=0/\HT.sIx xs.length xs.length hi=xs.length))(h4:∀p,H p=Y->Q (.ref p) (upd H p (.tup (pO xs lo hi))))
def TB:SlR X (Yo X.K):=by
 intro gd s σ H x v vl vu lo hi sl Q I P hs V pu h;let(a,xs,U,hx,hw,q):=h;cases P;let(its,r,z,g):=I.tuple hx;have hlen:its.toArray.size=xs.length:=by exact r.length.symm
 refine("tuple",_,PyProof.Rows.slot_tuple_getitem.lookup,z.typeIs,(HT.pB z hs V pu (by rw[hlen];exact hw) ?_ (by rw[hlen];exact g)));rw[hlen];refine(.ref s.heap.objs.size,_,I.laid (λb ob q=>gi _ q) (mz _) ?_,U,q _ (I.hok.fresh (mz _)));exact(tY (sP xs lo hi) g,_,(r.drop (HT.sIx xs.length 0 lo)).take (HT.sIx xs.length xs.length hi-HT.sIx xs.length 0 lo),lJ.new _ _)
inductive WG(K:Ch)(x:V)(y:V)(H:Hp)(Q:VK):Prop
 |mk(a b xs ys:_)(h1:x=.ref a)(h2:y=.ref b)(h3:SqT K H a xs)(h4:SqT K H b ys)(h5:xs ≠ [])(h6:xs.length+ys.length<=lK)(h7:(ys=[]->Q (.ref a) H))(h8:(ys ≠ []->∀p,H p=Y->Q (.ref p) (upd H p (.tup (xs++ys)))))
def Vals.jJ{xs:Ω}(r:Vals xs us):us=[] ↔ xs=[]:=by cases r with|nil=>simp|cons _ _=>simp
def PR:OpR X (binaryOp .Add) (WG X.K):=by intro gd s σ H x y v u Q I rx ry h;let(a,b,xs,ys,U,U,ha,hb,hx,V,q1,q2):=h;cases rx;cases ry;let(its,P,p1,_):=I.tuple ha;let(gh,g,p2,_):=I.tuple hb;exact HT.Q5 p1 p2 (λz=>hx (P.jJ.mp z)) (λz=>(.ref a,H,I,U,q1 (g.jJ.mp z))) (λz=>(.ref s.heap.objs.size,_,I.laid (t':=s.toks) (o:=.tup (xs++ys)) (λb ob q=>gi _ q) (mz _) (by rw[g5];exact V,_,P.append g,lJ.new _ _),U,q2 (λw=>z (g.jJ.mpr w)) _ (I.hok.fresh (mz _)))) (by rw[<- P.length,<- g.length];exact V)
end
def ixN(n:Nat)(i:Int):Option Nat:=if 0<=i then(if i<n then Z i.toNat else Y)else if -(n:Int)<=i then Z (i+n).toNat else Y
def atI{α:Type}(xs:List α)(i:Int):Option α:=(ixN xs.length i).bind λj=>xs[j]?
variable{n:Nat}{j:Nat}
def Gg{i:Int}(h:ixN n i=Z j):seqIndex? i n=Z j/\j<n /\ -(n:Int)<=i/\i<n:=by
 unfold ixN at h;by_cases h0:0<=i
 ·rw[if_pos h0]at h;by_cases h1:i<n
  ·rw[if_pos h1]at h;have e:=Option.some.inj h;exact(by rw[seqIndex_of h0 h1,e],bd,bd,h1)
  rw[if_neg h1]at h;cases h
 rw[if_neg h0]at h;by_cases h1:-(n)<=i
 ·rw[if_pos h1]at h;have e:=Option.some.inj h;exact(by rw[seqIndex_neg bd h1,e],bd,h1,bd)
 rw[if_neg h1]at h;cases h
def AL{α:Type}{xs:List α}{i:Int}{v:α}(h:atI xs i=Z v):∃j,seqIndex? i xs.length=Z j/\xs[j]?=Z v/\j<xs.length /\ -(xs.length:Int)<=i/\i<xs.length:=by
 unfold atI at h;cases e:ixN xs.length i with
 |none=>rw[e]at h;cases h
 |some j =>rw[e]at h;let(h1,h2,h3,h4):=Gg e;exact(j,h1,h,h2,h3,h4)
def bu{α:Type}{xs:List α}{v:α}(h:xs[j]?=Z v):atI xs (j:Int)=Z v:=by
 have g:=(gs.mp h).1;have e:ixN xs.length (j)=Z j:=by unfold ixN;rw[if_pos bd,if_pos bd];simp
 unfold atI;rw[e];exact h
def M5{α:Type}(xs:List α)(v:α):atI (xs++[v]) (-1)=Z v:=by
 have hl:(xs++[v]).length=xs.length+1:=by simp
 have e:ixN (xs++[v]).length (-1)=Z xs.length:=by unfold ixN;rw[hl,if_neg ad,if_pos bd];congr 1;lia
 unfold atI;rw[e];simp
def pW(b:EQ):Prop:=∀o i,subscripted b ϊ o i=operate [o,i] (getItem o i)
def IxR(X:Cx)(r:R2):Prop:=
 ∀(value slice:EQ)(gd:Ξ)(s:ϋ)(σ:St)(H:Hp)(x y:V)(v u:B)(Q:VK),Inv X gd σ H s->RelV x v->RelV y u->r x y H Q ->
  subscripted slice ϊ v u=operate [v,u] (getItem v u)->XV X (subscriptTail value slice v u) (EP X gd σ Q) X.xe s
def MtR(X:Cx)(id:String)(r:V->Ω->Hp->VK->Prop):Prop:=
 ∀(gd:Ξ)(s:ϋ)(σ:St)(H:Hp)(x:V)(xs:Ω)(v:B)(us:Δ)(Q:VK),Inv X gd σ H s->RelV x v->Vals xs us->r x xs H Q ->
  XV X (call (.builtin id) (v::us)) (EP X gd σ Q) X.xe s
variable{r':R2}{gd:Ξ}{H:Hp}{its:Δ}{A:Do}{y:V}{u:B}{r:Ω->Hp->VK->Prop}
section
variable{X:Cx}{a b:EQ}{ta tb:TE}{pos:Pos}
def IxR.or{r:R2}(h:IxR X r)(h':IxR X r'):IxR X (λx y H Q=>r x y H Q\/r' x y H Q):=by
 intro value slice gd s σ H x y v u Q I z g q hs;obtain q|q:=q
 ·exact h value slice gd s σ H x y v u Q I z g q hs
 exact h' value slice gd s σ H x y v u Q I z g q hs
def BE{r:R2}(hr:IxR X r)(P:PE X a ta)(K:PE X b tb)(hs:pW b):PE X (.Subscript a b pos) (tOp r ta tb):=by left;exact Subscript_ (VL P K I h λv u s2 x y H2 V z g q=>hr a b gd s2 σ H2 x y v u Q V z g q (hs _ _))
inductive WD(K:Ch)(x:V)(y:V)(H:Hp)(Q:VK):Prop
 |mk(p xs i v:_)(h1:x=.ref p)(h2:y=.int i)(h3:SqL K H p xs)(h4:atI xs i=Z v)(h5:Q v H)
inductive WB(K:Ch)(x:V)(y:V)(H:Hp)(Q:VK):Prop
 |mk(p xs i v:_)(h1:x=.ref p)(h2:y=.int i)(h3:SqT K H p xs)(h4:atI xs i=Z v)(h5:Q v H)
inductive WC(x:V)(y:V)(H:Hp)(Q:VK):Prop
 |mk(z i c:_)(h1:x=.str z)(h2:y=.int i)(h3:z.length<=lK)(h4:atI z.cps.toList i=Z c)(h5:Q (.str ⟨#[c]⟩) H)
def Qn:IxR X (WD X.K):=by
 intro value slice gd s σ H x y v u Q I rx ry h hs;let(p,xs,i,z,U,U,hq,he,q):=h;cases rx;let(t,U):=ry;let(its,r,P,hz):=I.list hq;let(j,h1,h2,h3,h4,h5):=AL he;let(w,ew,g):=r.get h2;have hl:=r.length;have hn:=nE;have fin:EP X gd σ Q w s:=(z,H,I,g,q);by_cases h0:0<=i
 ·have V:=by rw[seqIndex_of h0 h5]at h1;exact Option.some.inj h1
  exact item_listR P.isList h0 bd (by rw[V];simpa using ew) fin hs
 have V:(i+(its.toArray.size)).toNat=j:=by rw[seqIndex_neg bd h4]at h1;rw[qg,<- hl];exact Option.some.inj h1
 exact subscriptTail_builtinR P.isList.typeIs slot_list_getitem.lookup
  (wpAny_getItem_list_neg P.isList bd (by rw[qg] <;> lia) bd (by rw[V];simpa using ew) (U,fin)) hs
def Vh:IxR X (WB X.K):=by
 intro value slice gd s σ H x y v u Q I rx V h hs;let(p,xs,i,z,U,U,hq,he,q):=h;cases rx;let(t,U):=V;let(its,r,P,hz):=I.tuple hq;let(j,h1,h2,h3,h4,h5):=AL he;let(w,ew,g):=r.get h2;have hl:=r.length;have hn:=nE;have fin:EP X gd σ Q w s:=(z,H,I,g,q);exact subscriptTail_builtinR P.typeIs slot_tuple_getitem.lookup
  (getItem_tuple P bd bd (by rw[qg,<- hl];exact h1) (ew:) (U,fin)) hs
def Vi:IxR X WC:=by
 intro value slice gd s σ H x y v u Q I K g h hs;let(z,i,c,U,U,V,he,q):=h;let(t,U):=K;let(t',U):=g;let(j,h1,h2,h3,h4,h5):=AL he;have hl:z.cps.toList.length=z.length:=by simp[Str.length]
 rw[hl]at h1 h4 h5;have hn:=nE;exact tail_any (typeIs_str s z t) slot_str_getitem.lookup (getItem_str (by have e1:decide (i < -(2 ^ 63))=false:=decide_eq_false bd;have P:decide (i ≥ 2 ^ 63)=false:=decide_eq_false bd;rw[e1,P,Bool.or_false]) (by rw[h1];simpa using h2) (.str ⟨#[c]⟩,H,I.tok _,(_,U),q)) hs
def rIx(K:Ch):R2:=λx y H Q=>WD K x y H Q\/WB K x y H Q\/WC x y H Q
def Mg:IxR X (rIx X.K):=Qn.or (Vh.or Vi)
def Ej(its:Δ)(n j:Nat)(u:B):Nj (·.setIfInBounds j u) (its.toArray^^^n)=((its.set j u).toArray^^^n):=by simp[Nj]
theorem Inv.lst{σ:St}{s:ϋ}{p:J}{xs:Ω}(I:Inv X gd σ H s)(h:H p=Z (.lst xs)):
  ∃(its:Δ)(n:Nat),Vals xs its/\s.heap.get? p=Z (its.toArray^^^n)/\xs.length<=lK:=by
 let(z,its,n,r,e):=I.hok p _ h;exact(its,n,r,e,z)
def Inv.U0{σ:St}{s:ϋ}{p:J}{xs ys:Ω}{g:Δ}{z:Nat}{f:Obj->Obj}(I:Inv X gd σ H s)(h:H p=Z (.lst xs))
  (ho:s.heap.get? p=Z (its.toArray^^^n)) (hf:f (its.toArray^^^n)=(g.toArray^^^z)) (r:Vals ys g) (K:ys.length<=lK) (t:Nat):
  Inv X gd σ (upd H p (.lst ys)) {s with heap:=s.heap.update p f,toks:=t}:=by
 have e:(s.heap.update p f).get? p=Z (g.toArray^^^z):=by rw[wJ f ho (by rw[hf] <;> rfl),hf]
 exact I.write (x:=p) (e:=p) (by rw[h];trivial) (.inl U) (λb u P q=>(vr _ _ (Ne.symm P)).trans q) (_,e) (K,g,z,r,e)
inductive Kq(o:V)(i:V)(v:V)(H:Hp)(Q:(Hp->Prop)):Prop
 |mk(p xs k j:_)(h1:o=.ref p)(h2:i=.int k)(h3:H p=Z (.lst xs))(h4:ixN xs.length k=Z j)(h5:Q (upd H p (.lst (xs.set j v))))
theorem set_list:V1 X Kq:=by
 intro gd s σ H o i v ov iv u Q I K P z h;let(p,xs,k,j,U,U,hp,hj,q):=h;cases K;let(t,U):=P;let(its,n,r,ho,V):=I.lst hp;let(h1,h2,h3,h4):=Gg hj;have hl:=r.length;have hn:=nE;have g:=
  I.U0 hp ho (Ej its n j u) (r.set z j) (by rw[Xo];exact V) s.toks
 by_cases h0:0<=k
 ·have hk:=by rw[seqIndex_of h0 h4]at h1;exact Option.some.inj h1
  exact W.ki_setAt ho h0 bd (by rw[qg,<- hl];exact h4) (by rw[hk];exact(_,g,q))
 have hk:(k+(its.toArray.size)).toNat=j:=by rw[seqIndex_neg bd h3]at h1;rw[qg,<- hl];exact Option.some.inj h1
 exact W.ki_setBack ho bd (by rw[qg,<- hl];exact h3) bd (by rw[hk];exact(_,g,q))
def oj(lo hi:Option Int)(n:Nat):(sliceBounds lo hi Y n).1=((HT.sIx n 0 lo:Nat):Int)/\(sliceBounds lo hi Y n).2.1=((HT.sIx n n hi:Nat):Int)/\(sliceBounds lo hi Y n).2.2=1:=by
 refine(?_,?_,U)
 ·cases lo with
  |none=>simp[sliceBounds,HT.sIx]|some i =>
   simp only[sliceBounds,HT.sIx,Option.getD_none,show(1:Int) > 0 by decide,if_true];by_cases h:i<0
   ·simp only[h,if_true] <;> first|exact HT.JW _ _ h|omega
   simp only[h,if_false] <;> first|exact HT.JV _ _ h|omega
 cases hi with
 |none=>simp[sliceBounds,HT.sIx]|some i =>
  simp only[sliceBounds,HT.sIx,Option.getD_none,show(1:Int) > 0 by decide,if_true];by_cases h:i<0
  ·simp only[h,if_true] <;> first|exact HT.JW _ _ h|omega
  simp only[h,if_false] <;> first|exact HT.JV _ _ h|omega
def xn(its:Δ)(lo hi:Option Int):slicePick its.toArray lo hi Y=((its.drop (HT.sIx its.length 0 lo)).take (HT.sIx its.length its.length hi-HT.sIx its.length 0 lo)).toArray:=by let(h1,h2,h3):=oj lo hi its.toArray.size;unfold slicePick;rw[h1,h2,h3];simp only[sliceRange_one,pick_run] <;> rfl
inductive Wz(K:Ch)(x:V)(lo:Option Int)(hi:Option Int)(H:Hp)(Q:VK):Prop
 |mk(a xs:_)(h1:x=.ref a)(h2:SqL K H a xs)(h3:∀p,H p=Y->Q (.ref p) (upd H p (.lst (pO xs lo hi))))
def FA:SlR X (Wz X.K):=by intro gd s σ H x v vl vu lo hi sl Q I z hs P pu h;let(a,xs,U,hx,q):=h;cases z;let(its,r,g,V):=I.list hx;have hlen:=r.length;refine("list",_,slot_list_getitem.lookup,g.isList.typeIs,(wpAny_getItem_list_slice g.isList hs P pu .none ba ?_ (by rw[qg] <;> omega)));rw[xn,<- hlen];refine(.ref s.heap.objs.size,_,I.laid (λb ob q=>gi _ q) (mz _) ?_,U,q _ (I.hok.fresh (mz _)));exact(tY (sP xs lo hi) V,_,0,(r.drop (HT.sIx xs.length 0 lo)).take (HT.sIx xs.length xs.length hi-HT.sIx xs.length 0 lo),px _ U)
def g9:V->Bool
 |.non=>O|.bl _=>O|.int _=>O|.str _=>O|_=>ϊ
def eqV:V->V->Bool
 |.non,.non=>O|.bl a,.bl b=>a==b|.bl a,.int b=>(if a then 1 else 0)==b|.int a,.bl b=>a ==(if b then 1 else 0)|.int a,.int b=>a==b|.str a,.str b=>a==b|_,_=>ϊ
def ES{s:ϋ}{x:V}{v:B}(q:RelV y u)(g:RelV x v)(z:g9 y=O)(fx:g9 x=O):SeqAt.EqAt A s u v (eqV y x):=by
 cases y with
 |non =>
  cases q;cases x with
  |non=>cases g;exact SeqAt.EqAt.same _
  |bl b=>cases g;exact SeqAt.EqAt.none_bool b
  |int b=>let(t,U):=g;exact SeqAt.EqAt.none_int b t|str b=>let(t,U):=g;exact SeqAt.EqAt.none_str b t|_=>exact absurd (fx) ri
 |bl a =>
  cases q;cases x with
  |non=>cases g;exact SeqAt.EqAt.bool_none a
  |bl b=>cases g;exact SeqAt.EqAt.bool_bool a b
  |int b=>let(t,U):=g;exact SeqAt.EqAt.bool_int a b t|str b=>let(t,U):=g;exact SeqAt.EqAt.bool_str a b t|_=>exact absurd (fx) ri
 |int a =>
  let(t',U):=q;cases x with
  |non=>cases g;exact SeqAt.EqAt.int_none a t'
  |bl b=>cases g;exact SeqAt.EqAt.int_bool a t' b
  |int b=>let(t,U):=g;exact SeqAt.EqAt.int_int a t' b t|str b=>let(t,U):=g;exact SeqAt.EqAt.int_str a t' b t|_=>exact absurd (fx) ri
 |str a =>
  let(t',U):=q;cases x with
  |non=>cases g;exact SeqAt.EqAt.str_none a t'
  |bl b=>cases g;exact SeqAt.EqAt.str_bool a t' b
  |int b=>let(t,U):=g;exact SeqAt.EqAt.str_int a t' b t|str b=>let(t,U):=g;exact SeqAt.EqAt.str_str a t' b t|_=>exact absurd (fx) ri
 |_=>exact absurd (z) ri
def eqU(x:V)(u:B):Bool:=match u with|.none=>eqV .non x|.bool b=>eqV (.bl b) x|.int i _=>eqV (.int i) x|.str z _=>eqV (.str z) x|_=>ϊ
def ME{x:V}(r:RelV y u)(f:g9 y=O):eqU x u=eqV y x:=by
 cases y with
 |non=>cases r;rfl
 |bl b=>cases r;rfl
 |int i=>let(t,U):=r;rfl|str z=>let(t,U):=r;rfl|_=>exact absurd (f) ri
theorem pU{x:V}:∀{xs:Ω}{us:Δ},Vals xs us->xs.all g9=O->us.any (eqU x)=xs.any λy=>eqV y x
 |_,_,.nil,_=>rfl|y::xs,u::us,.cons r t,f=>by
  rw[List.all_cons,rX]at f;rw[GP,GP,ME r f.1,pU t f.2]
theorem kW{A:Do}{s:ϋ}{x:V}{v:B}(q:RelV x v)(fx:g9 x=O):∀{xs:Ω}{us:Δ},Vals xs us->xs.all g9=O->∀u∈us,SeqAt.EqAt A s u v (eqU x u)
 |_,_,.nil,_=>λu g=>by cases g
 |y::xs,u::us,.cons r t,f=>λu' g=>by
  rw[List.all_cons,rX]at f;obtain rfl|g:=lb.mp g
  ·rw[ME r f.1];exact ES r q f.1 fx
  exact kW q fx t f.2 u' g
def inV(x:V)(xs:Ω):Bool:=xs.any λy=>eqV y x
inductive rIn(K:Ch)(neg:Bool)(x:V)(y:V)(H:Hp)(Q:VK):Prop
 |mk(p xs:_)(h1:y=.ref p)(h2:(SqL K H p xs\/SqT K H p xs))(h3:g9 x=O)(h4:xs.all g9=O)(h5:Q (.bl (if neg then !inV x xs else inV x xs)) H)
def Ih:OpR X (compareOp .In) (rIn X.K ϊ):=by
 intro gd s σ H x y v u Q I z P h;let(p,xs,U,hq,fx,fs,q):=h;cases P;obtain hq|hq:=hq
 ·let(its,r,g,V):=I.list hq;refine SeqAt.in_listAt (eqU x) g.isList (λw hw=>kW z fx r fs w (hw:)) (.bl _,H,I,U,?_);rw[show its.toArray.any (eqU x)=its.any (eqU x)by simp,pU r fs];exact q
 let(its,r,g,V):=I.tuple hq;refine SeqAt.in_tupleAt (eqU x) g (λw hw=>kW z fx r fs w (hw:)) (.bl _,H,I,U,?_);rw[show its.toArray.any (eqU x)=its.any (eqU x)by simp,pU r fs];exact q
def Ac:OpR X (compareOp .NotIn) (rIn X.K O):=by
 intro gd s σ H x y v u Q I z P h;let(p,xs,U,hq,fx,fs,q):=h;cases P;obtain hq|hq:=hq
 ·let(its,r,g,V):=I.list hq;refine SeqAt.notIn_listAt (eqU x) g.isList (λw hw=>kW z fx r fs w (hw:)) (.bl _,H,I,U,?_);rw[show its.toArray.any (eqU x)=its.any (eqU x)by simp,pU r fs];exact q
 let(its,r,g,V):=I.tuple hq;refine SeqAt.notIn_tupleAt (eqU x) g (λw hw=>kW z fx r fs w (hw:)) (.bl _,H,I,U,?_);rw[show its.toArray.any (eqU x)=its.any (eqU x)by simp,pU r fs];exact q
def pS:dM X (.builtin "len") (λxs H Q=>∃p ys,xs=[.ref p]/\(SqL X.K H p ys\/SqT X.K H p ys)/\Q (.int ys.length) H):=by
 intro gd s σ H xs us Q I r h;let(p,ys,U,hq,q):=h;let(u,U,z):=vals1 r;cases z;have hn:=nE;obtain hq|hq:=hq
 ·let(its,r',g,P):=I.list hq;have hlen:=r'.length;exact Calls.call_len_list g.isList (by rw[qg,<- hlen];exact Ci (by assumption)) (.int ys.length,H,I.tok _,(s.toks+1,by rw[qg,hlen]),q)
 let(its,r',g,P):=I.tuple hq;have hlen:=r'.length;exact len_tuple g (by rw[qg,<- hlen];exact Ci (by assumption)) (.int ys.length,H,I.tok _,(s.toks+1,by rw[qg,hlen]),q)
def AJ:dM X (.builtin "len") (λxs H Q=>∃z,xs=[.str z]/\z.length<=lK/\Q (.int z.length) H):=by intro gd s σ H xs us Q I r h;let(z,U,g,q):=h;let(u,U,t,U):=vals1 r;have hn:=nE;exact len_str bd (.int z.length,H,I.tok _,(_,U),q)
def dM.or{f:B}{r':Ω->Hp->VK->Prop}(h:dM X f r)(h':dM X f r'):dM X f (λxs H Q=>r xs H Q\/r' xs H Q):=by
 intro gd s σ H xs us Q I rs q;obtain q|q:=q
 ·exact h gd s σ H xs us Q I rs q
 exact h' gd s σ H xs us Q I rs q
def AI:dM X (.type "list") (λxs H Q=>∃ p ys,xs=[.ref p]/\(SqL X.K H p ys\/SqT X.K H p ys)/\∀l,H l=Y->Q (.ref l) (upd H l (.lst ys))):=by
 intro gd s σ H xs us Q I r h;let(p,ys,U,hq,q):=h;let(u,U,rx):=vals1 r;cases rx;have fin:∀its,Vals ys its->ys.length<=lK->∀h' z,(∀b o',s.heap.get? b=Z o'->h'.get? b=Z o') ->
   h'.get? s.heap.objs.size=Z {cls:=.type "list",dict:=Y,data:=.seq its.toArray z,slots:=#[]}->EP X gd σ Q (.ref s.heap.objs.size) {s with heap:=h'}:=λits r' g h' z kp e =>
  (.ref s.heap.objs.size,_,I.laid kp (mz _) (show cz X.prog X.w _ h' _ (.lst ys)from(g,its,z,r',e)),U,q _ (I.hok.fresh (mz _)))
 obtain hq|hq:=hq
 ·let(its,r',P,g):=I.list hq;have hlen:=r'.length;let(o,ho,V,n,hd):=P.isList;exact call_list_seq p (.inl U) ho V hd (λh' z kp e=>fin its r' g h' z kp e) (by rw[qg,<- hlen];exact g)
 let(its,r',P,g):=I.tuple hq;have hlen:=r'.length;let(o,ho,V,n,hd):=P;exact call_list_seq p (.inr U) ho V hd (λh' z kp e=>fin its r' g h' z kp e) (by rw[qg,<- hlen];exact g)
def xX:dM X (.type "tuple") (λxs H Q=>∃p ys,xs=[.ref p]/\((SqL X.K H p ys/\∀l,H l=Y->Q (.ref l) (upd H l (.tup ys)))\/(SqT X.K H p ys/\Q (.ref p) H))):=by
 intro gd s σ H xs us Q I r h;let(p,ys,U,h):=h;let(u,U,V):=vals1 r;cases V;obtain⟨hq,q⟩|⟨hq,q⟩:=h
 ·let(its,r',g,z):=I.list hq;have hlen:=r'.length;refine call_tuple_list g.isList (λh' kp=>?_) (by rw[qg,<- hlen];exact z);have P:=I.kept (t':=s.toks) kp;have I2:=
   P.laid (t':=s.toks) (λb o e=>gi _ e) (mz _) (show cz X.prog X.w _ _ _ (.tup ys)from(z,its,r',lJ.new _ _))
  exact(.ref h'.objs.size,_,I2,U,q _ (P.hok.fresh (mz _)))
 let(its,r',g,z):=I.tuple hq;exact call_tuple_same g (.ref p,H,I,U,q)
def tyV(K:Ch)(T:String)(x:V)(H:Hp):Prop:=match x with
 |.str _=>T="str"|.int _=>T="int"|.ref p=>(T="list" /\ ∃xs,SqL K H p xs)\/(T="tuple" /\ ∃o,K.lookup p=Z o/\o.cls=.type "tuple" /\ o.dict=Y) \/
   (T="dict" /\ ((∃kvs,H p=Z (.dK kvs))\/∃kvs,H p=Z (.dT kvs)))\/(T="set" /\ ∃S n,H p=Z (.set S n))
 |_=>False
def JI{σ:St}{s:ϋ}{T:String}{x:V}{v:B}(I:Inv X gd σ H s)(r:RelV x v)(ty:tyV X.K T x H):
  s.TypeIs v T/\∀a,v=.ref a->∃ob,s.heap.get? a=Z ob/\ob.dict=none:=by
 cases x with
 |str z =>
  let(t,U):=r;cases(ty);exact(typeIs_str s z t,λ_ e=>nomatch e)
 |int i =>
  let(t,U):=r;cases(ty);exact(typeIs_int s i t,λ_ e=>nomatch e)
 |ref p =>
  cases r;obtain⟨rfl,xs,hq⟩|⟨rfl,o,hk,P,hd⟩|⟨rfl,hk⟩|⟨rfl,S,n,hk⟩:=ty
  ·let(its,_,q,_):=I.list hq;refine(q.isList.typeIs,λa e=>?_);cases e;let(o,n,e,c,hd,_):=q;exact(o,e,hd)
  ·refine((o,I.kIn p o hk,P),λa e=>?_);cases e;exact(o,I.kIn _ o hk,hd)
  ·have z:∃o,s.heap.get? p=Z o/\o.ExactDict:=by
    obtain⟨kvs,hk⟩|⟨kvs,hk⟩:=hk
    ·let(_,_,_,_,o,_,_,e,ex,_):=I.hok p _ hk;exact(o,e,ex)
    let(_,_,_,_,o,_,_,e,ex,_):=I.hok p _ hk;exact(o,e,ex)
   let(o,e,ex):=z;refine((o,e,ex.1),λa g=>?_);cases g;exact(o,e,ex.2.1)
  let(o,_,_,_,e,ex,_):=I.hok p _ hk;refine((o,e,ex.1),λa g=>?_);cases g;exact(o,e,ex.2.1)
 |_=>exact False.elim ty
def Tq(K:Ch)(T:String)(r:V->Ω->Hp->VK->Prop)(to:TE):TE:=λσ H Q=>to σ H λx H1=>tyV K T x H1/\r x [] H1 Q
def tBM(K:Ch)(T:String)(r:V->Ω->Hp->VK->Prop)(to:TE)(t:TA):TE:=λσ H Q=>to σ H λx H1=>tyV K T x H1/\t σ H1 λxs H2=>r x xs H2 Q
variable{o e:EQ}{es:List EQ}{to:TE}{t:TA}{name:Str}{apos aZ:Pos}{T id:String}{r:V->Ω->Hp->VK->Prop}
def LA(pa:PlainAttrs T)(slot:Slot T name id)(g:typeOf (.builtin id)=pure (.type "method_descriptor"))(hm:MtR X id r)(ho:PE X o to)
  (fq:‹attributeBase o name X.env (eval o X.env)=eval o X.env›) (fk:‹(apos.endLine==aZ.line)=true›):PE X (.Call (.Attribute o name apos) [] [] aZ) (Tq X.K T r to):=by
 left;refine wpAny_Call_method0_late fq fk (thn (ho gd s σ H _ I h) λv s1 q=>?_);let(x,H1,P,z,ty,V):=q;let(h1,h2):=JI P z ty;exact(T,id,pa,slot,g,h1,h2,Calls.callWith_builtin U (PySem.evalArgs_none (hm gd s1 σ H1 x [] v [] Q P z .nil V)))
def BG(pa:PlainAttrs T)(slot:Slot T name id)(g:typeOf (.builtin id)=pure (.type "method_descriptor"))(hm:MtR X id r)(ho:PE X o to)(ha:PA X (e::es) t)
  (fq:‹attributeBase o name X.env (eval o X.env)=eval o X.env›)
  (nH:‹((backTo aZ (j7 (e::es) X.env)).all (λx=>!x.1)&&(backToKw aZ (keywordEach [] X.env)).all (λx=>x.1.isSome)
&& decide ((e::es).length+([]:List Keyword).length+(if([]:List Keyword).isEmpty then 0 else 1)<30))=true›)
  (fk:‹(apos.endLine==aZ.line)=true›) (hs:‹AD X e es›) (eh:‹AS X aZ es›):
  PE X (.Call (.Attribute o name apos) (e::es) [] aZ) (tBM X.K T r to t):=by
 left;refine wpAny_Call_method_late fq nH fk U (thn (ho gd s σ H _ I h) λv s1 q=>?_);let(x,H1,V,z,ty,q1):=q;let(h1,h2):=JI V z ty;refine(T,id,pa,slot,g,h1,h2,?_);have P:=ha aZ gd s1 σ H1 _ V q1;rw[hs]at P ⊢;exact Calls.callWith_builtin (by show(ϊ ||(backTo aZ (j7 es X.env)).any (·.1))=ϊ;rw[eh] <;> rfl) (Calls.evalArgs_plain (thn P λus s2 (vs,H2,I2,r2,q2)=>hm gd s2 σ H2 x vs v us Q I2 z r2 q2))
end
def MtM(X:Cx)(id:String)(r:V->Ω->Hp->VK->Prop):Prop:=
 ∀(gd:Ξ)(s:ϋ)(σ:St)(H:Hp)(x:V)(xs:Ω)(v:B)(us:Δ)(Q:VK),Inv X gd σ H s->RelV x v->Vals xs us->r x xs H Q ->
  XV X (call (.builtin id) (v::us)) (EP X gd σ Q) X.xe s
def Vals.one:∀{x:V}{us:Δ},Vals [x] us->∃u,us=[u]/\RelV x u:=by intro x us h;cases h with|cons r t=>cases t;exact(_,U,r)
theorem Vals.zero:∀{us:Δ},Vals [] us->us=[]
 |_,.nil=>rfl
theorem Vals.dropLast{xs:Ω}{us:Δ}(h:Vals xs us):Vals xs.dropLast us.dropLast:=by induction h with|nil=>exact .nil|cons r t g =>cases t with|nil=>exact .nil|cons q t'=>exact .cons r g
theorem Vals.reverse{xs:Ω}{us:Δ}(h:Vals xs us):Vals xs.reverse us.reverse:=by induction h with|nil=>exact .nil|cons r t g=>rw[Z3,Z3];exact Vals.append g (.cons r .nil)
def ER{α:Type}(l:List α):l.eraseIdx (l.length-1)=l.dropLast:=by
 induction l with
 |nil=>rfl|cons a r g =>
  cases r with
  |nil=>rfl|cons b r =>
   have e:(a::b::r).length-1=((b::r).length-1)+1:=by rfl
   rw[e,List.eraseIdx_cons_succ,g];all_goals rfl
variable{t':Nat}
section
variable{X:Cx}{σ:St}{s:ϋ}{l:J}{xs ys:Ω}
def Inv.P7{g:Δ}{f:Array B->Array B}{t':Nat}(I:Inv X gd σ H s)(Q:H l=Z (.lst xs))
  (e:s.heap.get? l=Z (its.toArray^^^n)) (hf:f its.toArray=g.toArray) (hv:Vals ys g) (z:ys.length<=lK):
  Inv X gd σ (upd H l (.lst ys)) {s with heap:=s.heap.update l (Nj f),toks:=t'}:=by
 have q:=PySem.IsL.update e f;rw[hf]at q;exact I.write (x:=l) (e:=l) (by rw[Q];exact trivial) (.inl U) (λb' u P K=>(vr s.heap (Nj f) (Ne.symm P)).trans K) (_,q) (z,g,_,hv,q)
def Inv.YC(I:Inv X gd σ H s)(hv:Vals ys its)(g:ys.length<=lK):
  Inv X gd σ (upd H s.heap.objs.size (.lst ys)) {s with heap:=s.heap.push (~~~its.toArray),toks:=t'}:=
 I.laid (λ_ _ q=>gi _ q) (mz _) (g,its,0,hv,px _ U)
theorem Inv.fresh(I:Inv X gd σ H s):H s.heap.objs.size=none:=I.hok.fresh (mz _)
def Inv.En(I:Inv X gd σ H s)(g:H l=Z (.lst xs)):xs.length<=lK/\∃(its:Δ)(n:Nat),Vals xs its/\xs.length=its.length/\s.heap.get? l=Z (its.toArray^^^n):=by let(z,its,n,r,e):=I.hok l _ g;exact(z,its,n,r,r.length,e)
def BQ(h:n<=lK):Builtin.List.listTooLong n=false:=by exact decide_eq_false bd
end
section
variable{X:Cx}
inductive ub(x:V)(vs:Ω)(H:Hp)(Q:VK):Prop
 |mk(l xs y:_)(h1:x=.ref l)(h2:vs=[y])(h3:H l=Z (.lst xs))(h4:xs.length<lK)(h5:Q .non (upd H l (.lst (xs++[y]))))
theorem Iq:MtM X "list.append" ub:=by intro gd s σ H x vs v us Q I K P h;let(l,xs,y,U,U,g,V,q):=h;cases K;let(u,U,ru):=P.one;let(z,its,n,r,hl,e):=I.En g;refine call_meets F.slot_list_append (_,e,U) F.entry_list_append (F.args_list_append_2 _ _) (PySem.list_append l its.toArray n u (by rw[qg];lia)) (e,?_);refine(.non,_,I.P7 g e ba (r.append (.cons ru .nil)) ?_,U,q);rw[g5,yd];lia
inductive ua(x:V)(vs:Ω)(H:Hp)(Q:VK):Prop
 |mk(l b xs zs:_)(h1:x=.ref l)(h2:vs=[.ref b])(h3:H l=Z (.lst xs))(h4:H b=Z (.lst zs))(h5:xs.length+zs.length<=lK)(h6:Q .non (upd H l (.lst (xs++zs))))
theorem Ip:MtM X "list.extend" ua:=by
 intro gd s σ H x vs v us Q I P V h;let(l,b,xs,zs,U,U,K,hB,hz,q):=h;cases P;let(u,U,ru):=V.one;cases ru;let(z,its,n,r,hl,e):=I.En K;let(z2,g,n2,r2,ak,e2):=I.En hB;have hsz:its.toArray.size+g.toArray.size<=lK:=by rw[qg,qg];lia
 have Mp:¬(!its.toArray.isEmpty&&Builtin.List.listTooLong (its.toArray.size+g.toArray.size))=true:=by rw[BQ hsz,ab3];exact ri
 refine call_meets F.slot_list_extend (_,e,U) F.entry_list_extend (F.args_list_extend_2 _ _)
  (AutoSeq1.list_extend_list_list_0 l its.toArray n b g.toArray n2 Mp (by rw[qg];lia) bd) (e,e2,?_)
 refine(.non,_,I.P7 K e ba (r.append r2) ?_,U,q);rw[g5];omega
inductive TU(x:V)(vs:Ω)(H:Hp)(Q:VK):Prop
 |mk(l xs y:_)(h1:x=.ref l)(h2:vs=[])(h3:H l=Z (.lst xs))(h4:xs[xs.length-1]?=Z y)(h5:Q y (upd H l (.lst xs.dropLast)))
theorem LZ:MtM X "list.pop" TU:=by
 intro gd s σ H x vs v us Q I V rv h;let(l,xs,y,U,U,P,hy,q):=h;cases V;have K:=rv.zero;subst K;let(z,its,n,r,hl,e):=I.En P;let(u,hu,ru):=r.get hy;have g:=by show its.toArray[its.length-1]?=Z u;rw[<- ad2,<- hl];exact hu
 refine call_meets F.slot_list_pop (_,e,U) F.entry_list_pop (F.args_list_pop_1 _) (MeetsSeq.list_pop_last l its.toArray n u g (by rw[qg];lia)) (e,?_);refine(y,_,I.P7 P e ?_ r.dropLast ?_,ru,q)
 ·rw[qg,List.eraseIdxIfInBounds_toArray,ER]
 rw[List.length_dropLast];lia
inductive WH(x:V)(y:V)(H:Hp)(Q:VK):Prop
 |mk(l b xs zs:_)(h1:x=.ref l)(h2:y=.ref b)(h3:H l=Z (.lst xs))(h4:H b=Z (.lst zs))(h5:xs.length+zs.length<=lK)(h6:∀p,H p=Y->Q (.ref p) (upd H p (.lst (xs++zs))))
def UQ:OpR X (binaryOp .Add) WH:=by
 intro gd s σ H x y v u Q I V K h;let(l,b,xs,zs,U,U,hH,hB,hz,q):=h;cases V;cases K;let(z,its,n,r,hl,e):=I.En hH;let(z2,g,n2,r2,ak,e2):=I.En hB;refine PySem.P.add_list e e2 ?_ (by rw[qg,qg];omega);have ea:its.toArray++g.toArray=(its++g).toArray:=by simp
 rw[ea];exact(.ref _,_,I.YC (r.append r2) (by rw[g5];omega),U,q _ I.fresh)
end
end L2
namespace Att
open PySem PySem.W PySem.Calls PyProof.Rows
def tL{P:Params}{h:Ev}:∀(ns:Ψ)(vs:Δ),WellAll P h vs (ns.map WData.int)->IntsAre vs ns:=by
 intro ns;induction ns with
 |nil =>
  intro vs w;cases w;exact .nil
 |cons n ns g =>intro vs w;cases w with|cons a b =>cases a;exact .cons _ _ (g _ b)
def HI{l:OpenLaw}{n:Nat}(hn:l.most=Z n){P:Params}{h:Ev}{args:List WData}{vals:Δ}
  (hpre:l.row.toRowW.claim.pre args=O) (g:WellAll P h vals args):
  ∃a vs ns,vals=[B.ref a]/\args=[WData.list (ns.map WData.int)]/\h.get? a=Z (~~~vs.toArray)/\IntsAre vs ns/\ns.length<=n:=by
 have q:WShape.hasAll [] args [.list .int]=true:=(pre_splitW hpre).1;have Q:l.pre.holds [] {args:=args}=true:=(pre_splitW hpre).2;let(d,r,U,h1,h2):=hasAllW_cons q;obtain rfl:=hasAllW_nil h2;let(xs,U,h3):=hasW_list h1;let(ns,U):=items_int h3;have hlen:=by
  have h4:=by have h4:=(holds_andW Q).1;rw[hn]at h4;exact h4
  have h5:=condW_of h4 (w_not (w_lt w_lit (w_len_list (w_arg U))));first
   | (exact absurd h5 ad)| (simp at h5;omega)
 cases g with|cons K z =>cases z;cases K with|list ho V=>exact(_,_,ns,U,U,ho,tL ns _ V,hlen)
def HZ(l:OpenLaw)(args:List WData):l.row.toRowW.claim.post args (.bool O) args=true:=
 postW_of
  be
  (w_eq_bool (w_res U) w_lit) U
def CB{l:OpenLaw}{n:Nat}{q:Db}{loose:Γ}{XP:(Υ)->Ev->Prop}{YP:Da->Ev->Prop}{d:DefRec}
  (hn:l.most=Z n) (P:d.params.defaults=[])
  (call:∀(w:Da)(s₀ g:ϋ)(mg mb:Υ)(z:J)(o:Obj)(pm cd doc:B)(a:J)(vs:Δ)(ns:Ψ),
Ground q loose [] XP w s₀ mg mb g.heap->YP w g.heap ->
g.heap.get? z=Z o->o.data=.func (docDef d.name d.params d.body d.scope pm cd doc)->g.heap.CodeRec cd d.name->mg d.name=Z (.ref z) ->
g.heap.get? a=Z (~~~vs.toArray)->IntsAre vs ns->ns.length<=n->g.gens=#[] ->
codeAny (model l.prog w) callerA (.call (.ref z) ([.ref a],[])) (λr s'=>r=.ok (.ret (.bool O))/\OldK g.heap s'.heap/\s'.os=g.os/\AllBare s'.gens) g):
  WalkO q loose XP YP l.row.toRowW d [] (λf vs=>PySem.call f vs):=by
 intro w s₀ g mg mb G ό z o pm cd doc dV kV ho hd Q V hmg hg args vals as hpre Zo ak K ar;obtain rfl:=Dflts.none V P;obtain rfl:=Dflts.noKw V;let(a,vs,ns,U,U,Vx,hints,hlen):=HI hn hpre K;refine enter_call (codeAny_mono (call w s₀ g mg mb z o pm cd doc a vs ns G ό ho (fd_plain hd) Q hmg Vx hints hlen hg) λr s' hq=>?_);let(U,h2,h3,h4):=hq;exact(.inl (.bool O,.bool O,[],U,λ_=>rfl,.bool O,HZ l _,λ_=>(List.Pairwise.nil,λ_ hm=>(nomatch hm))),h2,h3,h4)
section
def ledger(h:Ev)(L d:J):Ξ:=(Fc h.objs.size).filterMap λa=>if a=L\/a=d then Y else(h.get? a).map λo=>(a,o)
end
end Att
namespace L2
open PySem PySem.Spec PyProof.Rows
def Hz{vs:Δ}{ns:Ψ}(h:IntsAre vs ns):Vals (ns.map V.int) vs:=by induction h with|nil=>exact .nil|cons n t _ g=>exact .cons (t,U) g
def Rx(H:Hp):Prop:=∀b,H b=Y\/∃o xs,H b=Z (.frz o (.lst xs))
variable{mg:Υ}{a:J}{x:Str}
theorem L9{P:Db}{w:Da}{K:Ch}{mb:Υ}{CX:CXT}{k:Nat}{fa:J}{fd:Cl}{sp:Sp}{g:ϋ}{vs:Δ}{ns:Ψ}
  (KX:K.In g.heap) (ar:g.heap.Ns mainGlobals mg) (Q:g.heap.Ns builtinsNs mb) (a0:∀x:Str,x ≠ "__name__"->mb x=bootBuiltins x) (YR:g.heap.NoLimit) (hg:g.gens=#[])
  (ha:g.heap.get? a=Z (~~~vs.toArray)) (hi:IntsAre vs ns) (hl:ns.length<=lK) (hr:dI k callerA)
  (F:∀base:Ev,K.In base->base.Ns mainGlobals mg->aP P w K mg base CX k fa fd [x] sp) (XE:∀(s:ϋ)(u:B),BindsTo s fd ([u],[]) [(x,u)])
  (aW:∀H:Hp,Rx H->SqL K H a (ns.map V.int)->sp [.ref a] H (λv _=>v=.bl O) λ_ _ _=>False)
  (a3:∀H e s',CX [] H g (λ_ _ _=>False) e s'->False):
  codeAny (model P w) callerA (.call (.ref fa) ([.ref a],[])) (λr s'=>r=.ok (.ret (.bool O))/\OldK g.heap s'.heap/\s'.os=g.os/\AllBare s'.gens) g:=by
 have rv:=Hz hi;have YD:=hi.length;have core:∀H,Rx H->SqL K H a (ns.map V.int)->HOk P w H g.heap->(∀b,H b≠Y->b=a)->(H a≠Y->K.lookup a=Y) ->
   codeAny (model P w) callerA (.call (.ref fa) ([.ref a],[])) (λr s'=>r=.ok (.ret (.bool O))/\OldK g.heap s'.heap/\s'.os=g.os/\AllBare s'.gens) g:=by
  intro H hO hS hok hA hK;have GO:∀{b:J}{o:Obj},g.heap.get? b=Z o->H b=Y->(Cc g.heap H).get? b=Z o:=λe n=>Ms e n;have aK:∀{b:J}{o:Obj}{es:Array DictEntry}{ep:Nat},g.heap.get? b=Z o->o.data=.dict es ep->H b=none:=λ{b o es ep} e d=>by
   cases q:H b with|none=>rfl|some u =>have e':=hA b (by rw[q];simp);subst e';rw[ha]at e;cases e;have d':=d;cases d'
  have ak:∀{b:J}{m:Υ},g.heap.Ns b m->(Cc g.heap H).Ns b m:=λ{b m} (o,es,ep,e,d,r)=>(o,es,ep,GO e (aK e d),d,r);have aF:=λb o e=>GO (KX b o e) (by
   cases q:H b with
   |none=>rfl|some u =>
    have e':=hA b (by rw[q];simp);subst e';rw[hK (by rw[q];simp)]at e;cases e)
  have hM:Mod K mg (Cc g.heap H):=(aF,ak ar,(mb,ak Q,a0),let(mc,h1,h2):=YR;(mc,ak h1,h2));have e0:Fh P w K mg (Cc g.heap H) callerA [] g H:=(U,hM,λb o e=>P0 e,ac9 (IK _ _),trivial,λb Q=>absurd (show b∈([])from Q) ba,hok,.of_eq hg);refine codeAny_mono ((F _ aF (ak ar)).run callerA [] g H ([.ref a],[]) [.ref a] [.ref a] _ _ hr e0 (XE g (.ref a)) (.cons U .nil) (aW H hO hS)) λr s' h=>?_;cases r with
  |error e=>exact(a3 H e s' h).elim|ok fl =>
   cases fl with
   |next=>exact False.elim h|brk=>exact False.elim h|cont=>exact False.elim h|ret u =>
    let(v,H',os,bare,un,YO,r',q):=h;have q':=q;subst q';obtain rfl:=r';refine(U,OldK.of_keep λb o e=>?_,os,bare);cases q:H b with
    |none=>exact un.keep b o e q (by intro z;exact absurd (show b∈([])from z) ba) ba|some u =>
     obtain z |⟨ob,xs,z⟩:=hO b
     ·rw[q]at z;cases z
     have z2:=un.kC b ob _ z;let(e1,_):=hok b _ z;let(e2,_):=YO b _ z2;rw[e]at e1;cases e1;exact e2
 cases hk:K.lookup a with
 |some o =>
  have e:=KX a o hk;rw[ha]at e;cases e;refine core (λ_=>Y) (λ_=>.inl U) (.inr (_,vs.toArray,_,hk,U,U,U,by rw[qg,YD];exact hl,(rv:))) (λb u z=>by have z':=z;cases z') (λb z=>absurd U z) λz=>absurd U z
 |none =>
  refine core (λb=>if b=a then Z (.frz (~~~vs.toArray) (.lst (ns.map V.int)))else Y) (λb=>?_) (.inl (.inr ((~~~vs.toArray),if_pos U))) (λb u z=>?_) (λb z=>?_) λ_=>hk
  ·by_cases Q:b=a
   ·exact .inr (_,_,if_pos Q)
   exact .inl (if_neg Q)
  ·by_cases Q:b=a
   ·have z':=(if_pos Q).symm.trans z;cases z';subst Q;exact(ha,by rw[dN];exact hl,vs,_,rv,ha)
   have z':=(if_neg Q).symm.trans z;cases z'
  by_cases Q:b=a
  ·exact Q
  exact absurd (if_neg Q) z
variable{n:Nat}
theorem N1{l:W.OpenLaw}{k:Nat}{q:Db}{loose:Γ}{XP:(Υ)->Ev->Prop}{YP:Da->Ev->Prop}{d:DefRec}{K:Params->Ch}{CX:Da->CXT}{sp:Da->Sp}
  (hn:l.most=Z n) (ak:n<=lK) (ar:d.params.defaults=[]) (hr:dI k callerA)
  (hY:∀(w:Da)(h:Ev),YP w h->(K w.params).In h)
  (F:∀(w:Da)(mg:Υ)(P:J)(h:Ev),(K w.params).In h->h.Ns mainGlobals mg->mg d.name=Z (.ref P) ->
∃fd:Cl,(∀(s:ϋ)(u:B),BindsTo s fd ([u],[]) [(x,u)]) /\
∀base:Ev,(K w.params).In base->base.Ns mainGlobals mg->aP l.prog w (K w.params) mg base (CX w) k P fd [x] (sp w))
  (Q:∀(w:Da)(H:Hp)(a:J)(ns:Ψ),ns.length<=n->Rx H->SqL (K w.params) H a (ns.map V.int)->sp w [.ref a] H (λv _=>v=.bl O) λ_ _ _=>False)
  (aF:∀(w:Da)(H:Hp)(s:ϋ)(e:B)(s':ϋ),CX w [] H s (λ_ _ _=>False) e s'->False):
  W.WalkO q loose XP YP l.row.toRowW d [] (λf vs=>PySem.call f vs):=by
 refine Att.CB hn ar λw s₀ z mg mb P o pm cd doc a vs ns G ό ho hd aK hmg Vx hints hlen hg=>?_;have KX:=hY w _ ό;let(fd,hb,hF):=F w mg P _ KX G.T.g hmg;exact L9 KX G.T.g G.T.b G.T.builtins G.T.nolimit hg Vx hints (tY hlen ak) hr hF hb (λH hO hS=>Q w H a ns hlen hO hS) λH e s'=>aF w H z e s'
def inClass(s:Fa)(j:Nat):Fa:=match s with|.ClassDef _ _ _ body _ _ _ _ _ _ _=>body.getD j (.Pass (0,0,0,0))|_=>.Pass (0,0,0,0)
def d5(s:Fa):Arguments:=match s with|.FunctionDef _ a _ _ _ _ _ _ _ _=>a|_=>{posonlyargs:=[],args:=[],vararg:=Y,kwonlyargs:=[],kw_defaults:=[],kwarg:=Y,defaults:=[]}
def bZ(s:Fa):List Fa:=match s with|.FunctionDef _ _ b _ _ _ _ _ _ _=>b|_=>[]
def av(s:Fa):Scope:=match s with|.FunctionDef _ _ _ _ _ _ sc _ _ _=>sc|_=>{kind:=.function,names:=[],isGenerator:=ϊ,isCoroutine:=ϊ}
abbrev CX0:CXT:=λ_ _ _ _ _ _=>False
abbrev E0:XK:=λ_ _ _=>False
variable{X:Cx}
def FX:Passes CX0 X E0:=λ_ _ _ _ _ _ _ h=>h.elim
structure Fun(K:Ch)(x qual:Str)(st:Fa)(f:J)(fd:Cl):Prop where
 ex:∃(oc:B)(od:Option J)(kV doc pm:B)(an:Option J)(cdv ct:B)(osl:Array (Option B)),
  fd=W.fnOf x qual (d5 st) (bZ st) (av st) .none kV doc pm an cdv ct/\K.lookup f=Z (oc,od,.func fd,osl)/\W.codeIn K cdv qual=O
 kp:W.keepIn K (.ref f)=O
variable{qual:Str}{fd:Cl}{N:Γ}{ps:Γ}{sp:Sp}{oc:B}{od:Option J}{an:Option J}{pm:B}{ct:B}
section
variable{P:Db}{w:Da}{K:Ch}{base:Ev}
theorem Fun.ok{st:Fa}{f:J}{k:Nat}(F:Fun K x qual st f fd)(S:aD N ps (av st))(len:∀vs H Q E,sp vs H Q E->vs.length=ps.length)
  (k9:∀(cdv:B)(A:Do)(outer:List Env)(s:ϋ)(H:Hp)(vs:Ω)(Q:VK)(E:XK),dI k (A.deeper (envOfC qual (av st) s.heap.objs.size f cdv))->sp vs H Q E ->
∃t,PSs (rM CX0 P w K mg base N qual (av st) f cdv A outer s H E).nox (bZ st) t/\t {nx:=λ_ H'=>Q .non H',rt:=Q} (start N vs) H):aP P w K mg base CX0 (k+1) f fd ps sp:=by
 let(oc,od,kV,doc,pm,an,cdv,ct,osl,U,lk,z):=F.ex;refine SD lk z S len λA outer s H vs Q E hr g=>?_;let(t,h,q):=k9 cdv A outer s H vs Q E hr g;exact(t,h.nox,q)
theorem Fun.binds{st:Fa}{f:J}(F:Fun K x qual st f fd)
  (h:∀(kV doc pm:B)(an:Option J)(cdv ct:B)(us:Δ),us.length=ps.length->bindArgs (W.fnOf x qual (d5 st) (bZ st) (av st) .none kV doc pm an cdv ct) (us,[])=pure (ps.zip us)):Binds K fd ps []:=by
 let(oc,od,kV,doc,pm,an,cdv,ct,osl,U,lk,g):=F.ex;exact .all (h kV doc pm an cdv ct)
theorem nI{st:Fa}{f:J}{osl:Array (Option B)}{kV doc cdv:B}(l:K.lookup f=Z (oc,od,.func (W.fnOf x qual (d5 st) (bZ st) (av st) .none kV doc pm an cdv ct),osl))
  (c:W.codeIn K cdv qual=O) (k:W.keepIn K (.ref f)=O):Fun K x qual st f (W.fnOf x qual (d5 st) (bZ st) (av st) .none kV doc pm an cdv ct):=((oc,od,kV,doc,pm,an,cdv,ct,osl,U,l,c),k)
end
variable{A:Do}
def bj{k:Nat}(hr:dI k A):A.units+1<cLine:=R4 (aa9 ad _) hr.units
def aG(h:n<=1000):n<lK:=R4 h ad
section
def pv(i:Nat){pos:Pos}(q:‹X.N[i]?=Z x›)(hv:Vis X.env.scope x:=by first|exact Or.inl rfl|exact Or.inr (Or.inl U)|exact Or.inr (Or.inr U))(hd:autoParam (AT x) zdc._auto_1)
  (g:autoParam ((x ==("__classdict__":Str))=false) zdc._auto_1):PE X (.Name x pos) (b8 i):=Lv q hv hd g
end
def YI{A ύ:Prop}(h:ύ):if ϊ=O then A else ύ:=by exact h
def ay{c A ύ:Prop}[Decidable c](h1:c->A)(h2:¬ c->ύ):if c then A else ύ:=by
 by_cases h:c
 ·rw[if_pos h];exact h1 h
 rw[if_neg h];exact h2 h
def aa{c A Zg:Prop}[Decidable c](h2:Zg)(h:¬ c:=by decide +kernel):if c then A else Zg:=ay (λz=>absurd z h) λ_=>h2
def nQ(H H':Hp):Prop:=∀b o,H b=Z o->H' b=Z o
def nQ.refl(H:Hp):nQ H H:=λ_ _ h=>h
variable{H:Hp}{H':Hp}{l:J}
def nQ.free(e:nQ H H')(h:H' l=Option.none):H l=Option.none:=by cases q:H l with|none=>rfl|some o =>rw[e l o q]at h;cases h
variable{y:V}{u:B}
section
variable{κ:Type}[DecidableEq κ]
def gZ(kvs:List (κ×V))(k:κ):Option V:=(kvs.find? λkv=>decide (kv.1=k)).map (·.2)
def putK(kvs:List (κ×V))(k:κ)(v:V):List (κ×V):=
 if(kvs.any λkv=>decide (kv.1=k))=O then kvs.map (λkv=>if kv.1=k then(kv.1,v)else kv)else kvs++[(k,v)]
def uK{p:κ×V}{r:List (κ×V)}{k:κ}(e:p.1=k):gZ (p::r) k=Z p.2:=by simp[gZ,e]
def uL{p:κ×V}{r:List (κ×V)}{k:κ}(e:¬ p.1=k):gZ (p::r) k=gZ r k:=by simp[gZ,e]
theorem A9(k:κ):∀kvs:List (κ×V),(kvs.any λkv=>decide (kv.1=k))=(gZ kvs k).isSome
 |[]=>rfl|p::r=>by
  rw[GP];by_cases e:p.1=k
  ·simp only[uK e,decide_eq_true e,ad0,Option.isSome_some]
  rw[uL e,decide_eq_false e];exact A9 k r
def kY(kvs:List (κ×V))(k:κ)(v:V):(putK kvs k v).length<=kvs.length+1:=by
 unfold putK;split
 ·rw[dN];lia
 rw[g5,tZ,ZJ];lia
def my.jc{o:Option V}{u:Option B}(r:my o u):o.isSome=u.isSome:=by
 cases o with
 |none=>cases u with|none=>rfl|some _=>exact(r).elim
 |some _=>cases u with|none=>exact(r).elim|some _=>rfl
theorem my.getD{o:Option V}{u:Option B}{d:V}{g:B}(r:my o u)(rd:RelV d g):RelV (o.getD d) (u.getD g):=by
 cases o with
 |none=>cases u with|none=>exact rd|some _=>exact(r).elim
 |some _=>cases u with|none=>exact(r).elim|some _=>exact r
def KV.val{kvs:List (κ×V)}{vs:List (κ×B)}(r:KV kvs vs)(k:κ):my (gZ kvs k) (valueAt vs k):=by
 induction r with
 |nil=>exact True.intro|@cons p q ps qs h t K =>
  let(h1,h2):=h;by_cases e:p.1=k
  ·have g:=h1.symm.trans e;have b:valueAt (q::qs) k=Z q.2:=by simp[valueAt,g]
   rw[uK e,b];exact h2
  have g:¬ q.1=k:=λz=>e (h1.trans z);have b:valueAt (q::qs) k=valueAt qs k:=by simp[valueAt,g]
  rw[uL e,b];exact K
theorem KV.any{kvs:List (κ×V)}{vs:List (κ×B)}(r:KV kvs vs)(k:κ):(kvs.any λkv=>decide (kv.1=k))=vs.any λkv=>decide (kv.1=k):=by induction r with|nil=>rfl|cons h t g=>rw[GP,GP,g,h.1]
def KV.TQ{kvs:List (κ×V)}{vs:List (κ×B)}(r:KV kvs vs)(k:κ)(g:RelV y u):
  KV (kvs.map λkv=>if kv.1=k then(kv.1,y)else kv) (vs.map λkv=>if kv.1=k then(kv.1,u)else kv):=by
 induction r with
 |nil=>exact .nil|@cons p q ps qs h t K =>
  rw[AZ,AZ];refine .cons ?_ K;let(h1,h2):=h;by_cases e:p.1=k
  ·rw[if_pos e,if_pos (h1.symm.trans e)];exact(h1,g)
  rw[if_neg e,if_neg (λz=>e (h1.trans z))];exact(h1,h2)
def KV.put{kvs:List (κ×V)}{vs:List (κ×B)}(r:KV kvs vs)(k:κ)(g:RelV y u):KV (putK kvs k y) (stored vs k u):=by
 unfold putK stored;rw[r.any k];by_cases e:(vs.any λkv=>decide (kv.1=k))=O
 ·rw[if_pos e,if_pos e];exact r.TQ k g
 rw[if_neg e,if_neg e];exact Paired.snoc r (U,g)
theorem KV.length{kvs:List (κ×V)}{vs:List (κ×B)}(r:KV kvs vs):kvs.length=vs.length:=Paired.length r
end
variable{P:Db}
def ph{w:Da}{k:Key}(r:RelV (kV k) u):(bN P w).is k u=true:=by cases k with|inl i=>let(t,e):=(r);subst e;exact BV P w i t|inr x=>let(t,e):=(r);subst e;exact BU P w x t
theorem yE{P:Db}{w:Da}:∀{ks:List Key}{us:Δ},Vals (ks.map kV) us->ItemsAre (bN P w) ks us
 |[],_,r=>by cases r;exact .nil
 |k::ks,_,r=>by
  cases r with|cons h t=>exact .cons (ph h) (yE t)
abbrev KT(H:Hp):ϐ->List (List Key×J×B)->Prop:=Paired λp q=>p.1=q.1/\H q.2.1=Z (.tup (p.1.map kV))/\RelV p.2 q.2.2
def KT.val{kvs:ϐ}{xs:List (List Key×J×B)}(r:KT H kvs xs)(k:List Key):my (gZ kvs k) ((atKey xs k).map (·.2)):=by
 induction r with
 |nil=>exact True.intro|@cons p q ps qs h t K =>
  let(h1,_,h2):=h;by_cases e:p.1=k
  ·have g:=h1.symm.trans e;have b:atKey (q::qs) k=Z q.2:=by simp[atKey,g]
   rw[uK e,b];exact h2
  have g:¬ q.1=k:=λz=>e (h1.trans z);have b:atKey (q::qs) k=atKey qs k:=by simp[atKey,g]
  rw[uL e,b];exact K
def KT.TQ{kvs:ϐ}{xs:List (List Key×J×B)}(r:KT H kvs xs)(k:List Key)(g:RelV y u):
  KT H (kvs.map λkv=>if kv.1=k then(kv.1,y)else kv) (xs.map (putAt k u)):=by
 induction r with
 |nil=>exact .nil|@cons p q ps qs h t K =>
  rw[AZ];refine .cons ?_ K;let(h1,h2,h3):=h;unfold putAt;by_cases e:p.1=k
  ·rw[if_pos e,if_pos (h1.symm.trans e)];exact(h1,h2,g)
  rw[if_neg e,if_neg (λz=>e (h1.trans z))];exact(h1,h2,h3)
def KT.put{kvs:ϐ}{xs:List (List Key×J×B)}(r:KT H kvs xs)(k:List Key){b:J}(z:H b=Z (.tup (k.map kV)))(g:RelV y u):
  KT H (putK kvs k y) (storedH xs k b u):=by
 have e:(kvs.any λkv=>decide (kv.1=k))=(atKey xs k).isSome:=by rw[A9,(r.val k).jc,ZN]
 unfold putK storedH;rw[e];by_cases q:(atKey xs k).isSome=O
 ·rw[if_pos q,if_pos q];exact r.TQ k g
 rw[if_neg q,if_neg q];exact Paired.snoc r (U,z,g)
def KT.keeps{kvs:ϐ}{xs:List (List Key×J×B)}(r:KT H kvs xs)(g:∀b ys,H b=Z (.tup ys)->H' b=Z (.tup ys)):KT H' kvs xs:=
 Paired.Xe r λ_ _ z=>(z.1,g _ _ z.2.1,z.2.2)
variable{kvs:Ϗ}
section
variable{w:Da}{h:Ev}
def RP{u:HO}(ok:HOk P w H h)(e:Rd H a u):cz P w H h a u:=e.ok ok
def mI(ok:HOk P w H h)(e:Rd H a (.dK kvs)):kvs.length<=lK/\(a==sysModules)=ϊ/\∃vs,KV kvs vs/\h.DictOf (bN P w) a vs:=
 RP ok e
def MI(ok:HOk P w H h)(e:H a=Z (.dK kvs)):kvs.length<=lK/\(a==sysModules)=ϊ/\∃vs,KV kvs vs/\h.DictOf (bN P w) a vs:=mI ok (.inl e)
def rF{ks:List Key}(ok:HOk P w H h)(e:H a=Z (.tup (ks.map kV))):(tupleKind (bN P w)).is h ks a:=by let(_,its,r,(o,h1,h2,n,h3),_):=(ok a _ e);exact(o,its.toArray,n,h1,h2,h3,(yE r:))
def vX{kvs:ϐ}(ok:HOk P w H h)(e:Rd H a (.dT kvs)):kvs.length<=lK/\(a==sysModules)=ϊ /\
  ∃xs,KT H kvs xs/\h.DictOfH (tupleKind (bN P w)) a xs:=by
 let(z,y,xs,r,o,es,K,h1,h2,h3,h4,h5):=(RP ok e);refine(z,y,xs,r,o,es,K,h1,h2,h3,h4,λx hx=>?_,h5);have all:∀{l:ϐ}{m:List (List Key×J×B)},KT H l m->∀x∈m,(tupleKind (bN P w)).is h x.1 x.2.1:=by
  intro l m q;induction q with
  |nil=>intro x hx;exact nomatch hx
  |@cons p q ps qs hq t g =>
   intro x hx;obtain e|hx:=lb.mp hx
   ·subst e;exact rF ok (by rw[<- hq.1];exact hq.2.1)
   exact g x hx
 exact all r x hx
def XN{kvs:ϐ}(ok:HOk P w H h)(e:H a=Z (.dT kvs)):kvs.length<=lK/\(a==sysModules)=ϊ /\
  ∃xs,KT H kvs xs/\h.DictOfH (tupleKind (bN P w)) a xs:=vX ok (.inl e)
end
def jt(H:Hp)(a:J)(y:V)(r:Option V):Prop:=
 (∃kvs k,Rd H a (.dK kvs)/\y=kV k/\r=gZ kvs k)\/∃kvs k b,Rd H a (.dT kvs)/\y=.ref b/\H b=Z (.tup (k.map kV))/\r=gZ kvs k
def A2(H:Hp)(a:J)(y v:V)(H':Hp):Prop:=
 (∃kvs k,H a=Z (.dK kvs)/\y=kV k/\kvs.length<lK/\H'=upd H a (.dK (putK kvs k v))) \/
 ∃kvs k b,H a=Z (.dT kvs)/\y=.ref b/\H b=Z (.tup (k.map kV))/\kvs.length<lK/\H'=upd H a (.dT (putK kvs k v))
theorem jt.k{H:Hp}{a:J}{kvs:Ϗ}{k:Key}(e:H a=Z (.dK kvs)):jt H a (kV k) (gZ kvs k):=.inl (kvs,k,.inl e,U,U)
theorem A2.k{H:Hp}{a:J}{kvs:Ϗ}{k:Key}{v:V}(e:H a=Z (.dK kvs))(hl:kvs.length<lK):A2 H a (kV k) v (upd H a (.dK (putK kvs k v))):=.inl (kvs,k,e,U,hl,U)
variable{Q:Φ}{h':Ev}{t':Nat}
section
variable{gd:Ξ}{σ:St}{s:ϋ}{v:V}{r:B}{o:Option V}{E:Φ}
def Inv.big(I:Inv X gd σ H s):sysModules<s.heap.objs.size:=by have h:=(I.mod.glob.keeps I.bk).lt;exact Z4 ad h
def IW(hu:A.units+1<cLine)(I:Inv X gd σ H s)(g:jt H a y (Z v))(ry:RelV y u)(h:∀K s',Inv X gd σ H s'->RelV v K->Q K s'):
  wpAny (model X.prog X.w) A (getItem (.ref a) u) Q E s:=by
 obtain⟨kvs,k,e,V,l⟩|⟨kvs,k,b,e,V,eb,l⟩:=g
 ·subst V;let(z,hd,vs,rel,dd):=mI I.hok e;let(K,hw,q):=my.some_of (by rw[l];exact rel.val k);exact wpAny_getItem_of (ph ry) dd.mapOf hw (h K _ (I.tok _) q)
 subst V;cases(ry);let(z,hd,xs,rel,dd):=vX I.hok e;let(K,hw,q):=my.some_of (by rw[l];exact rel.val k);let(p,hp,P):=gV.mp hw;refine wpAny_getItem_heap (tupleKind_room_in1 hu) (rF I.hok eb) dd hp ?_;rw[P];exact h K _ (I.tok _) q
def Y2(V:A.units+1<cLine)(I:Inv X gd σ H s)(g:jt H a y o)(P:RelV y u)(h:∀s',Inv X gd σ H s'->Q (.bool o.isSome) s'):
  wpAny (model X.prog X.w) A (compareOp .In u (.ref a)) Q E s:=by
 obtain⟨kvs,k,e,K,l⟩|⟨kvs,k,b,e,K,eb,l⟩:=g
 ·subst K;let(z,hd,vs,rel,dd):=mI I.hok e;refine wpAny_in_of (ph P) hd dd.mapOf ?_;rw[<- (rel.val k).jc,<- l];exact h _ (I.tok _)
 subst K;cases(P);let(z,hd,xs,rel,dd):=vX I.hok e;refine wpAny_in_heap (tupleKind_room_in1 V) (rF I.hok eb) hd dd ?_;have q:=(rel.val k).jc;rw[ZN]at q;rw[<- q,<- l];exact h _ (I.tok _)
def QY(V:A.units+1<cLine)(I:Inv X gd σ H s)(g:jt H a y o)(P:RelV y u)(h:∀s',Inv X gd σ H s'->Q (.bool (!o.isSome)) s'):
  wpAny (model X.prog X.w) A (compareOp .NotIn u (.ref a)) Q E s:=by
 obtain⟨kvs,k,e,K,l⟩|⟨kvs,k,b,e,K,eb,l⟩:=g
 ·subst K;let(z,hd,vs,rel,dd):=mI I.hok e;refine wpAny_notIn_of (ph P) hd dd.mapOf ?_;rw[<- (rel.val k).jc,<- l];exact h _ (I.tok _)
 subst K;cases(P);let(z,hd,xs,rel,dd):=vX I.hok e;refine wpAny_notIn_heap (tupleKind_room_in1 V) (rF I.hok eb) hd dd ?_;have q:=(rel.val k).jc;rw[ZN]at q;rw[<- q,<- l];exact h _ (I.tok _)
def AG{ob:HO}(I:Inv X gd σ H s)(g:Mut (H a))(hs:ZT a s.heap h')(he:∃q,h'.get? a=Z q)(new:cz X.prog X.w (upd H a ob) h' a ob):
  Inv X gd σ (upd H a ob) {s with heap:=h',toks:=t'}:=
 I.write g (.inl U) (λb q K z=>(hs.2 b K).trans z) he new
def vY{w:Da}{vs:List (Key×B)}(z:kvs.length<=lK)(hd:(a==sysModules)=ϊ)(rel:KV kvs vs)(dd:h'.DictOf (bN P w) a vs):
  cz P w H' h' a (.dK kvs):=(z,hd,vs,rel,dd)
def IU{Q:Unit->ϋ->Prop}(hu:A.units+1<cLine)(I:Inv X gd σ H s)(g:A2 H a y v H')(V:RelV y u)(rv:RelV v r)(h:∀s',Inv X gd σ H' s'->Q () s'):
  wpAny (model X.prog X.w) A (setItem (.ref a) u r) Q E s:=by
 obtain⟨kvs,k,e,K,l,P⟩|⟨kvs,k,b,e,K,eb,l,P⟩:=g
 ·subst K P;let(z,hd,vs,rel,dd):=MI I.hok e;have hz:vs.length<=lK:=by rw[<- rel.length];exact z
  have hl:(putK kvs k v).length<=lK:=by have:=kY kvs k v;omega
  refine wpAny_setItem_pairs (ph V) dd λh' dd' hs=>h _ ?_;have he:∃q,h'.get? a=Z q:=let(q,_,_,hq,_):=dd';(q,hq);exact AG I (by rw[e];exact True.intro) hs he (vY hl hd (rel.put k rv) dd')
 subst K P;cases(V);let(z,hd,xs,rel,dd):=XN I.hok e;have hz:xs.length<=lK:=by rw[<- Paired.length rel];exact z
 have hl:(putK kvs k v).length<=lK:=by have:=kY kvs k v;lia
 refine wpAny_setItem_heap (hsz:=hz) (tupleKind_room_in1 hu) (rF I.hok eb) dd λh' dd' hs=>h _ ?_;let(q,es,ep,hq,h2,h3,h4,_,h5):=dd';refine AG I (by rw[e];exact True.intro) hs (q,hq) (hl,hd,_,(rel.put k eb rv).keeps λc ys ec=>?_,q,es,ep,hq,h2,h3,h4,h5);rw[au (kS ec e (λz=>nomatch z))];exact ec
end
section
variable{gd:Ξ}{σ:St}{s:ϋ}{E:Φ}
def XQ(I:Inv X gd σ H s)(e:Rd H a (.dK kvs))(h:∀t s',Inv X gd σ H s'->Q (.int kvs.length t) s'):wpAny (model X.prog X.w) A (call (.builtin "len") [.ref a]) Q E s:=by let(z,hd,vs,rel,dd):=mI I.hok e;refine call_len_dict hd dd (by rw[<- rel.length];rw[ZE]at z;lia) ?_;rw[<- rel.length];exact h _ _ (I.tok _)
end
def Ya(i:EQ):Prop:=∀g iv,subscripted i ϊ g iv=operate [g,iv] (getItem g iv)
variable{prog:Db}{E:Φ}{env:Env}{value:EQ}
def Ob{w:Da}{s:ϋ}{slice:EQ}{pos:Pos}{T id:String}
  (hl:typeLookup (.type T) "__getitem__"=pure (Z (.builtin id))) (hs:Ya slice)
  (h:wpAny (model prog w) A (eval value env) (λo z=>wpAny (model prog w) A (eval slice env) (λi s₂=>s₂.TypeIs o T/\wpAny (model prog w) A (getItem o i) Q E s₂) E z) E s):
  wpAny (model prog w) A (eval (.Subscript value slice pos) env) Q E s:=by
 refine Subscript_ (QG h (λo z h₁=>QG h₁ (λi s₂ g=>?_) λ_ _ x=>x) λ_ _ x=>x);let(hT,g):=g;refine eB ?_;refine eB (ZL hT hl ?_);have fin:wpAny (model prog w) A (subscripted slice ϊ o i) (λr q=>wpAny (model prog w) A (letTemporaryGo value o r >>= λ_=>pure r) Q E q) E s₂:=by rw[hs o i];exact wpAny_operating (QG g (λr q K=>eB (wpAny_letTemporaryGo (nT K))) λ_ _ x=>x)
 exact nT (eB fin)
variable{gd:Ξ}
def Cm{σ:St}{s:ϋ}{o:Option V}(I:Inv X gd σ H s)(g:jt H a y o):s.TypeIs (.ref a) "dict":=by
 obtain⟨kvs,k,e,_,_⟩|⟨kvs,k,b,e,_,_,_⟩:=g
 ·let(_,_,vs,_,dd):=mI I.hok e;exact dd.typeIs
 let(_,_,xs,_,dd):=vX I.hok e;exact dd.typeIs
def Wt(td ty:TE):TE:=λσ H Q=>td σ H λx H1=>ty σ H1 λy H2=>∃a v,x=.ref a/\jt H2 a y (Z v)/\Q v H2
def Ki(td ty tv:TE):TS:=λD σ H=>tv σ H λv H1=>td σ H1 λx H2=>ty σ H2 λy q=>∃a g,x=.ref a/\A2 q a y v g/\D.nx σ g
section
variable{o i:EQ}{pos pos':Pos}{td ty tv:TE}
def jF(hu:X.A.units+1<cLine)(ho:PE X o td)(hi:PE X i ty)(hs:Ya i):PE X (.Subscript o i pos) (Wt td ty):=by left;refine Ob PySem.F.slot_dict_getitem.lookup hs (thn (ho gd s σ H _ I h) λu s1 (x,H1,I1,V,q1)=>thn (hi gd s1 σ H1 _ I1 q1) λiv s2 z=>?_);let(y,H2,K,P,a,v,ex,g,q2):=z;subst ex;obtain rfl:=V;exact(Cm K g,IW hu K g P λw' s3 I3 q=>(v,H2,I3,q,q2))
def uf(hu:X.A.units+1<cLine)(ho:PE X o td)(hi:PE X i ty)(hv:PE X value tv)(hs:swapsWith value (Z (.Subscript o i pos')) pos.line X.env=pure ϊ):
  PS X (.Assign [.Subscript o i pos'] value pos) (Ki td ty tv):=by
 right;refine wpAny_Assign_Subscript (thn (hv gd s σ H _ I h) λr s1 (v,H1,I1,P,q1)=>thn (ho gd s1 σ H1 _ I1 q1) λu s2 (x,H2,I2,K,V)=>thn (hi gd s2 σ H2 _ I2 V) λiv s3 q=>?_) hs;let(y,H3,I3,z,a,H4,ex,g,Q):=q;subst ex;obtain rfl:=K;exact IU hu I3 g z P λs4 I4=>(σ,H4,I4,Q)
end
def MJ{w:Da}(h:Ev)(g:sysModules<h.objs.size):cz P w H (h.push {cls:=.type "dict",data:=.dict #[]}) h.objs.size (.dK []):=
 (AY _,beq_eq_false_iff_ne.mpr (Ne.symm (uj g)),[],.nil,Heap.DictOf.new h)
def zp:List (TE×TE)->St->Hp->(List (V×V)->Hp->Prop)->Prop
 |[],_,H,Q=>Q [] H| (tk,tv)::r,σ,H,Q=>tk σ H λx H1=>tv σ H1 λy H2=>zp r σ H2 λps g=>Q ((x,y)::ps) g
abbrev VV:List (V×V)->List (B×B)->Prop:=Paired λp q=>RelV p.1 q.1/\RelV p.2 q.2
def PPs(X:Cx)(pos:Pos)(keys:List (Option EQ))(values:List EQ)(trs:List (TE×TE)):Prop:=
 ∀(gd:Ξ)(s:ϋ)(σ:St)(H:Hp)(Q:List (V×V)->Hp->Prop),Inv X gd σ H s->zp trs σ H Q ->
  XV X (evalPairs (pairTrees keys values X.env pos)) (λvs s'=>∃ps H',Inv X gd σ H' s'/\VV ps vs/\Q ps H') X.xe s
def zZ{pos:Pos}:PPs X pos [] [] []:=λgd s σ H Q I h=>pairTrees_nil_walk ([],H,I,.nil,h)
variable{tk:TE}{tv:TE}{trs:List (TE×TE)}
def kP{pos:Pos}{k v:EQ}{ks:List (Option EQ)}{vs:List EQ}(hk:PE X k tk)(hv:PE X v tv)(hr:PPs X pos ks vs trs):
  PPs X pos (Z k::ks) (v::vs) ((tk,tv)::trs):=λgd s σ H Q I h =>
 pairTrees_cons_walk (thn (hk gd s σ H _ I h) λu s1 (x,H1,I1,q,P)=>thn (hv gd s1 σ H1 _ I1 P) λw2 s2 (y,H2,I2,g,K) =>
thn (hr gd s2 σ H2 _ I2 K) λws s3 (ps,H3,V,rel,z)=>((x,y)::ps,H3,V,.cons (q,g) rel,z))
def gN(kvs more:Ϗ):Ϗ:=more.foldl (λacc kv=>putK acc kv.1 kv.2) kvs
def KV.merge:∀{more:Ϗ}{rs:List (Key×B)}{kvs:Ϗ}{vs:List (Key×B)},KV more rs->KV kvs vs->KV (gN kvs more) (merged vs rs):=by
 intro more rs kvs vs r;induction r generalizing kvs vs with
 |nil=>intro q;exact q
 |@cons p q ps qs h t z =>
  intro g;have e:KV (putK kvs p.1 p.2) (stored vs q.1 q.2):=by have:=g.put p.1 h.2;rw[<- h.1];exact this
  exact z e
theorem fP:∀(more kvs:Ϗ),(gN kvs more).length<=kvs.length+more.length
 |[],kvs=>by show kvs.length<=kvs.length+0;lia|p::r,kvs=>by
  have h1:=fP r (putK kvs p.1 p.2);have h2:=kY kvs p.1 p.2;show(gN (putK kvs p.1 p.2) r).length<=_;rw[tZ];lia
theorem wu{P:Db}{w:Da}:∀{kvs:Ϗ}{ws:List (B×B)},VV (kvs.map λkv=>(kV kv.1,kv.2)) ws->∃rs,Carries (bN P w) ws rs/\KV kvs rs
 |[],_,r=>by cases r;exact([],True.intro,.nil)
 |p::kvs,_,r=>by
  cases r with|@cons a b as bs h t =>let(rs,c,q):=wu t;let(b1,b2):=b;exact((p.1,b2)::rs,(ph h.1,U,c),.cons (U,h.2) q)
def JQ(trs:List (TE×TE)):TE:=λσ H Q=>∀p,H p=Y->zp trs σ (upd H p (.dK [])) λps H2=>H2 p=Z (.dK [])/\∃kvs:Ϗ,ps=kvs.map (λkv=>(kV kv.1,kv.2))/\kvs.length<=15/\Q (.ref p) (upd H2 p (.dK (gN [] kvs)))
def z8{pos:Pos}{keys:List (Option EQ)}{values:List EQ}(h:PPs X pos keys values trs)(Mu:keys.all (·.isSome)=O)(hl:keys.length=values.length)(h0:keys ≠ [])
  (K:keys.length<=15):PE X (.Dict keys values pos) (JQ trs):=by
 intro gd s σ H Q I q;have hn:=I.hok.fresh (mz s.heap.objs.size);have I1:=I.laid (t':=s.toks) (λ_ _ q=>gi _ q) (mz _) (MJ s.heap I.big);refine wpAny_Dict_walk (knd:=bN X.prog X.w) Mu hl h0 K (thn (h gd _ σ _ _ I1 (q _ hn)) λws s2 g=>?_);let(ps,H2,P,rel,e,kvs,ep,lk,q2):=g;subst ep;let(rs,c,rk):=wu rel;let(z,hd,V,r0,dd):=MI P.hok e;cases r0;refine(rs,c,dd,λh' dd' hs=>(.ref s.heap.objs.size,_,?_,U,q2));have hz:(gN [] kvs).length<=lK:=by have h1:=fP kvs [];rw[ZJ]at h1;rw[ZE];lia
 have he:∃q,h'.get? s.heap.objs.size=Z q:=let(q,_,_,hq,_):=dd';(q,hq);exact AG P (by rw[e];exact True.intro) hs he (vY hz hd (rk.merge .nil) dd')
structure M2(X:Cx)(o:EQ)(m:Str)(apos:Pos)(e f:EQ)(aZ:Pos):Prop where
 base:attributeBase o m X.env (eval o X.env)=eval o X.env
 few:((backTo aZ (j7 [e,f] X.env)).all (λx=>!x.1)&&(backToKw aZ (keywordEach [] X.env)).all (λx=>x.1.isSome)
&& decide (([e,f]:List EQ).length+([]:List Keyword).length+(if([]:List Keyword).isEmpty then 0 else 1)<30))=O
 line:(apos.endLine==aZ.line)=O
 trees:backTo aZ (j7 [e,f] X.env)=[(ϊ,eval e X.env),(ϊ,eval f X.env)]
def IsD(H:Hp)(a:J):Prop:=(∃kvs,Rd H a (.dK kvs))\/∃kvs,Rd H a (.dT kvs)
def Vl{σ:St}{s:ϋ}(I:Inv X gd σ H s)(d:IsD H a):
  s.TypeIs (.ref a) "dict" /\ (∀b,B.ref a=.ref b->∃ob,s.heap.get? b=Z ob/\ob.dict=Y)/\(a==sysModules)=false:=by
 obtain⟨kvs,e⟩|⟨kvs,e⟩:=d
 ·let(_,hd,vs,_,dd):=mI I.hok e;refine(dd.typeIs,λb q=>?_,hd);cases q;let(ob,_,_,h1,h2,_):=dd;exact(ob,h1,h2.2.1)
 let(_,hd,xs,_,dd):=vX I.hok e;refine(dd.typeIs,λb q=>?_,hd);cases q;let(ob,_,_,h1,h2,_):=dd;exact(ob,h1,h2.2.1)
section
variable{σ:St}{s:ϋ}{d:V}{r:B}{o:Option V}
def VH(V:A.units+1<cLine)(I:Inv X gd σ H s)(g:jt H a y o)(P:RelV y u)(rd:RelV d r)(h:∀K s',Inv X gd σ H s'->RelV (o.getD d) K->Q K s'):
  wpAny (model X.prog X.w) A (call (.builtin "dict.get") [.ref a,u,r]) Q E s:=by
 obtain⟨kvs,k,e,q,l⟩|⟨kvs,k,b,e,q,eb,l⟩:=g
 ·subst q;let(z,hd,vs,rel,dd):=mI I.hok e;refine call_meetsIn PySem.F.slot_dict_get dd.typeIs PySem.F.entry_dict_get (PySem.F.args_dict_get_3 _ _ _) (meets_dict_get_default (bN X.prog X.w) a (ph P) hd r) (_,dd.mapOf,h _ _ (I.tok _) ?_);rw[l];exact(rel.val k).getD rd
 subst q;cases(P);let(z,hd,xs,rel,dd):=vX I.hok e;refine call_meetsIn PySem.F.slot_dict_get dd.typeIs PySem.F.entry_dict_get (PySem.F.args_dict_get_3 _ _ _) (meetsH_dict_get_default (tupleKind (bN X.prog X.w)) a b hd r) (tupleKind_room_in1 V,k,xs,rF I.hok eb,dd,h _ _ (I.tok _) ?_);rw[l];exact(rel.val k).getD rd
end
def JR(td ty tx:TE):TE:=λσ H Q=>td σ H λx H1=>∃a,x=.ref a/\IsD H1 a/\ty σ H1 λy H2=>tx σ H2 λz g=>∃o,jt g a y o/\Q (o.getD z) g
section
variable{o e f:EQ}{apos aZ:Pos}{td ty tx:TE}
def Lx(hu:X.A.units+1<cLine)(ho:PE X o td)(he:PE X e ty)(hf:PE X f tx)(m:M2 X o "get" apos e f aZ):PE X (.Call (.Attribute o "get" apos) [e,f] [] aZ) (JR td ty tx):=by
 left;refine wpAny_Call_method m.base m.few m.line PySem.F.plainAttrs_dict PySem.F.slot_dict_get PySem.F.type_dict_get (thn (ho gd s σ H _ I h) λu s1 K=>?_);let(x,H1,P,rx,a,ex,d,q1):=K;subst ex;obtain rfl:=rx;let(t1,t2,_):=Vl P d;refine(t1,t2,?_);rw[m.trees];refine Calls.callWith_builtin U (Calls.evalArgs_plain (Calls.spliced_cons (thn (he gd s1 σ H1 _ P q1) λiv s2 (y,H2,I2,ry,q2) =>
Calls.spliced_cons (thn (hf gd s2 σ H2 _ I2 q2) λfv s3 (z,H3,I3,V,ov,g,q3)=>Calls.spliced_nil ?_))))
 exact VH hu I3 g ry V λw' s4 I4 q=>(_,H3,I4,q,q3)
end
section
def Jd:dM X (.builtin "len") (λxs H Q=>∃a kvs,xs=[V.ref a]/\H a=Z (.dK kvs)/\Q (.int kvs.length) H):=by intro gd s σ H xs us Q I r h;let(a,kvs,U,g,q):=h;let(u,U,ru):=vals1 r;cases ru;exact XQ I (.inl g) λt s' z=>(.int kvs.length,H,z,(t,U),q)
end
end L2
set_option maxHeartbeats 4000000
namespace L2
open PySem PySem.Spec PyProof.Rows
def R5{h:Ev}{a:Nat}{o:Obj}(e:h.get? a=Z o):@LT.lt Nat _ a h.objs.size:=kf e
def GN{h:Ev}{a:Nat}{v:Option B}(e:h.IsCell a v):@LT.lt Nat _ a h.objs.size:=e.lt
def pb{a b:Nat}(h:a<b):@Ne J a b:=uj h
def Xd{a b:Nat}(h:b<a):@Ne J a b:=Fq h
variable{env:Env}
def Ct{body:Str×NameKind->List (Str×J)->Sem (ForInStep (List (Str×J)))}
  (V:∀n k c,body (n,k) c=if(k==NameKind.free)=O then(cellOf env n >>= λa=>pure (.yield ((n,a)::c)))else pure (.yield c))
  (l:List (Str×NameKind)):∀(cs:List (Str×J)),(∀p∈l,p.2=NameKind.free->∃c,env.cells.lookup p.1=Z c) ->
   ∃cl,forIn l cs body=pure cl/\(∀x c,cl.lookup x=Z c->env.cells.lookup x=Z c\/cs.lookup x=Z c)/\(∀x,(x,NameKind.free)∈l->∃c,cl.lookup x=Z c)/\∀x c,cs.lookup x=Z c->∃q,cl.lookup x=Z q:=by
 induction l with
 |nil=>exact λcs _=>(cs,U,λ_ _ h=>.inr h,λ_ h=>(nomatch h),λ_ c h=>(c,h))|cons p r P =>
  let(n,k):=p;intro cs h;have hr:=λp hp=>h p (j6 _ hp);rw[Z0,V];by_cases hk:(k==NameKind.free)=O
  ·rw[if_pos hk];have K:=(hk:);let(c,Q):=h (n,k) j4 K;have e1:cellOf env n=pure c:=by unfold cellOf;rw[Q]
   rw[e1];let(cl,e,h1,h2,h3):=P ((n,c)::cs) hr;refine(cl,e,λx q hx=>?_,λx hx=>?_,λx q hx=>?_)
   ·obtain z|z:=h1 x q hx
    ·exact .inl z
    by_cases g:(x==n)=O
    ·have e3:=(g:);subst e3;rw[v3,g]at z;cases z;exact .inl Q
    rw[v3,Z5.mpr g]at z;exact .inr z
   ·obtain z|z:=lb.mp hx
    ·have g:x=n:=congrArg Prod.fst z;exact h3 x c (by rw[v3,g,beq_self_eq_true])
    exact h2 x z
   by_cases g:(x==n)=O
   ·exact h3 x c (by rw[v3,g])
   exact h3 x q (by rw[v3,Z5.mpr g];exact hx)
  rw[if_neg hk];let(cl,e,h1,h2,h3):=P cs hr;refine(cl,e,h1,λx hx=>?_,h3);obtain z|z:=lb.mp hx
  ·cases z;exact absurd U hk
  exact h2 x z
variable{scope:Scope}
def EW(h:∀p∈scope.names,p.2=NameKind.free->∃c,env.cells.lookup p.1=Z c):
  ∃cl:List (Str×J),closureFor scope env=pure cl/\(∀x c,cl.lookup x=Z c->env.cells.lookup x=Z c)/\∀x,(x,NameKind.free)∈scope.names->∃c,cl.lookup x=Z c:=by
 let(cl,e,h1,h2,_):=Ct (body:=λx c=>if(x.2==NameKind.free)=O then(cellOf env x.1 >>= λa=>pure (.yield ((x.1,a)::c)))else pure (.yield c)) (λ_ _ _=>rfl) scope.names [] h;refine(cl,?_,λx c hx=>(h1 x c hx).elim id λz=>by simp at z,h2);have g:closureFor scope env=(forIn scope.names ([]) (λx c=>if(x.2==NameKind.free)=O then(cellOf env x.1 >>= λa=>pure (.yield ((x.1,a)::c)))else pure (.yield c)) >>= λr=>pure r):=by simp only[closureFor]
 rw[g,e];rfl
theorem iH{env:Env}:∀{names:List (Str×NameKind)}{x:Str}{k:NameKind},
  (names.map λ(n,k)=>if(k==NameKind.free&&env.scope.kind == .function&&env.kindOf n==Z .cell)then(n,NameKind.cell)else(n,k)).lookup x=Z k ->
   names.lookup x=Z k\/(names.lookup x=Z .free/\k=.cell)
 |[],_,_,h=>by simp at h| (n,k0)::r,x,k,h=>by
  have q:=@iH env r x k;replace h:Zw x ((if(k0==NameKind.free&&env.scope.kind == .function&&env.kindOf n==Z .cell)=O then(n,NameKind.cell)else(n,k0)) ::(r.map λ(n,k)=>if(k==NameKind.free&&env.scope.kind == .function&&env.kindOf n==Z .cell)then(n,NameKind.cell)else(n,k)))=Z k:=h;cases hx:x==n with
  |true =>
   by_cases g:(k0==NameKind.free&&env.scope.kind == .function&&env.kindOf n==Z .cell)=O
   ·rw[if_pos g]at h;simp only[v3,hx]at h;cases h;have:=by simp only[rX]at g;simpa using g.1.1
    subst this;exact .inr (by simp only[v3,hx],U)
   rw[if_neg g]at h;simp only[v3,hx]at h;exact .inl (by simp only[v3,hx];exact h)
  |false =>
   have h':(r.map λ(n,k)=>if(k==NameKind.free&&env.scope.kind == .function&&env.kindOf n==Z .cell)then(n,NameKind.cell)else(n,k)).lookup x=Z k:=by
    by_cases g:(k0==NameKind.free&&env.scope.kind == .function&&env.kindOf n==Z .cell)=O
    ·rw[if_pos g]at h;simpa only[v3,hx]using h
    rw[if_neg g]at h;simpa only[v3,hx]using h
   obtain z|z:=q h'
   ·exact .inl (by simp only[v3,hx];exact z)
   exact .inr (by simp only[v3,hx];exact z)
theorem oE{env:Env}:∀{names:List (Str×NameKind)}{x:Str},names.lookup x=Z .free ->
  (names.map λ(n,k)=>if(k==NameKind.free&&env.scope.kind == .function&&env.kindOf n==Z .cell)then(n,NameKind.cell)else(n,k)).lookup x=Z .free \/
  (names.map λ(n,k)=>if(k==NameKind.free&&env.scope.kind == .function&&env.kindOf n==Z .cell)then(n,NameKind.cell)else(n,k)).lookup x=Z .cell
 |[],_,h=>by simp at h| (n,k0)::r,x,h=>by
  have q:=@oE env r x;show Zw x ((if(k0==NameKind.free&&env.scope.kind == .function&&env.kindOf n==Z .cell)=O then(n,NameKind.cell)else(n,k0))::_)=_\/Zw x ((if(k0==NameKind.free&&env.scope.kind == .function&&env.kindOf n==Z .cell)=O then(n,NameKind.cell)else(n,k0))::_)=_;cases hx:x==n with
  |true =>
   simp only[v3,hx]at h;cases h;by_cases g:(NameKind.free==NameKind.free&&env.scope.kind == .function&&env.kindOf n==Z .cell)=O
   ·rw[if_pos g];simp only[v3,hx];exact .inr trivial
   rw[if_neg g];simp only[v3,hx];exact .inl trivial
  |false =>
   simp only[v3,hx]at h;by_cases g:(k0==NameKind.free&&env.scope.kind == .function&&env.kindOf n==Z .cell)=O
   ·rw[if_pos g];simp only[v3,hx];exact q h
   rw[if_neg g];simp only[v3,hx];exact q h
inductive qy(X:Cx)(sc:Scope):Γ->List (Option Nat)->Prop
 |nil:qy X sc [] []|own{x:Str}{N:Γ}{c:List (Option Nat)}:sc.names.lookup x=Z .local->qy X sc N c->qy X sc (x::N) (Y::c)|got{x:Str}{i:Nat}{N:Γ}{c:List (Option Nat)}:X.N[i]?=Z x->sc.names.lookup x=Z .free->(X.env.kindOf x=Z .cell\/X.env.kindOf x=Z .free)->qy X sc N c->qy X sc (x::N) (Z i::c)
def pQ(c:List (Option Nat))(σ:St):St:=c.map λo=>o.bind λ(i:Nat)=>(σ[i]?).join
variable{X:Cx}{sc:Scope}{N:Γ}
def qy.len{c:List (Option Nat)}{σ:St}(h:qy X sc N c):(pQ c σ).length=N.length:=by unfold pQ;rw[dN];induction h with|nil=>rfl|own _ _ g=>simp[g]|got _ _ _ _ g=>simp[g]
theorem qy.at{X:Cx}{sc:Scope}{N:Γ}{c:List (Option Nat)}{σ:St}(h:qy X sc N c):∀{j:Nat}{x:Str}{v:V},N[j]?=Z x->(pQ c σ)[j]?=Z (Z v) ->
  ∃i:Nat,X.N[i]?=Z x/\σ[i]?=Z (Z v)/\sc.names.lookup x=Z .free/\(X.env.kindOf x=Z .cell\/X.env.kindOf x=Z .free):=by
 induction h with
 |nil=>intro j x v h1;simp at h1
 |own _ _ z =>
  intro j x v h1 h2;cases j with|zero=>simp[pQ]at h2|succ j=>exact z (h1:) (by simpa [pQ]using h2)
 |@got y i N c g1 g2 g3 _ z =>
  intro j x v h1 h2;cases j with
  |zero =>
   have e:=(h1:);subst e;refine(i,g1,?_,g2,g3);have g:=by simpa [pQ]using h2
   cases q:σ[i]? with
   |none=>rw[q]at g;cases g
   |some o =>rw[q]at g;have:o=Z v:=g;rw[this]
  |succ j=>exact z (h1:) (by simpa [pQ]using h2)
def blk(X:Cx)(N':Γ)(sc:Scope)(cl:List (Str×J))(C:J)(s₂:ϋ)(H₂:Hp)(fp:Θ):Cx:=
 {X with N:=N',s₀:=s₂,bi:=H₂,env:=compEnvC sc cl C X.env,outer:=X.stack,ex:=fp,fn:=λ_=>ϊ,pn:=[],xe:=λ_ _=>False}
def PTs(X:Cx)(ifs:List EQ)(t:TT):Prop:=
 ∀(gd:Ξ)(s:ϋ)(σ:St)(H:Hp)(Q:Bool->Hp->Prop),Inv X gd σ H s->t σ H Q ->
  XV X (forIn ifs O λc r=>if r=O then do let ok <- isTrue c X.env (eval c X.env);pure (ForInStep.yield ok)else pure (ForInStep.yield r)) (TP X gd σ Q) X.xe s
def Fx:TT:=λ_ H Q=>Q O H
def FT:PTs X [] Fx:=λ_ _ _ H _ I h=>wpAny_tests_nil (H,I,h)
def FR{c:EQ}{t:TT}(h:PT X c t):PTs X [c] t:=λgd s σ H Q I q=>wpAny_tests_one (h gd s σ H Q I q)
def SW(g:TG)(tst:TT)(te:TE)(P:St)(Q:VK)(ώ:It)(H1:Hp):Prop:=
 ∃W:Nat->Nat->Ω->St->Hp->Prop,(∃m,W 0 m [] P H1)/\∀i m ys z H',W i m ys z H' ->
  (ώ.stop i H'/\ys.length<=lK/\∀D,H' D=Y->Q (.ref D) (upd H' D (.lst ys))) \/
  (ώ.go i H'/\ys.length<lK/\∃N:Ω->St->Hp->Prop,(∀K q H2,N K q H2->∃m',m'<m/\W (i+1) m' K q H2)/\∀x H2,ώ.yld i H' x H2->g x z H2 λq H3=>tst q H3 λb H4 =>
if b=O then te q H4 λy H5=>N (ys++[y]) q H5 else N ys q H4)
def yn(cap:List (Option Nat))(wi:TI)(g:TG)(tst:TT)(te:TE):TE:=λσ H Q=>wi σ H (SW g tst te (pQ cap σ) Q)
variable{prog:Db}{A:Do}{R:Result->ϋ->Prop}{elt:EQ}{iter:EQ}{ifs:List EQ}
def I0{w:Da}{s:ϋ}{target:EQ}{pos:Pos}{it acc:B}(I:Nat->ϋ->Prop)
  (turn:∀n s,I n s->wpAny (model prog w) A (pyNext it) (λr z=>match r with
|none=>R (.ok .next) z
|some v=>wpAny (model prog w) A (letOwnedTupleGo target it v) (λ_ q=>wpAny (model prog w) A (assign target env v) (λ_ s₂ =>
wpAny (model prog w) A (forIn ifs O λc r=>if r=O then do let ok <- isTrue c env (eval c env);pure (ForInStep.yield ok)else pure (ForInStep.yield r)) (λok g =>
if ok=O then wpAny (model prog w) A (eval elt env) (λx P =>
wpAny (model prog w) A (call (.builtin "list.append") [acc,x]) (λ_ K=>∃m,m<n/\I m K) (λ_ _=>False) P) (λ_ _=>False) g
else ∃m,m<n/\I m g) (λ_ _=>False) s₂) (λ_ _=>False) q) (λ_ _=>False) z) (λ_ _=>False) s)
  (n:Nat) (h:I n s):
  codeAny (model prog w) A (.compLoop (.ListComp elt [(target,iter,ifs,0)] scope pos) 0 it acc env) R s:=by
 refine codeAny_loop U I (λn s hI=>?_) n h;show wpAny _ A ((compTurn (.ListComp elt [(target,iter,ifs,0)] scope pos) 0 it acc env).onRaise (λx=>do noteFrame x env;theTreesLotGoes x)) _ _ s;refine wpAny_noted ?_;rw[compTurn_list];refine eB (wpAny_standAt (eB (QG (turn n s hI) (λr z h₁=>?_) λ_ _ h'=>h'.elim)));cases r with|none=>exact nT h₁|some v =>refine eB (QG h₁ (λ_ q V=>(eB (QG V (λ_ s₂ aF=>eB (QG aF (λok g Q=>?_) λ_ _ h'=>h'.elim)) λ_ _ h'=>h'.elim))) λ_ _ h'=>h'.elim);cases ok with|false=>exact nT (U,Q)|true =>exact eB (eB (QG Q (λx P ar=>eB (QG ar (λ_ K ak=>nT (nT (U,ak))) λ_ _ h'=>h'.elim)) λ_ _ h'=>h'.elim))
variable{gd:Ξ}{H:Hp}{tg:EQ}{N':Γ}{cap:List (Option Nat)}{tst:TT}{te:TE}
def Cs{σ:St}{s:ϋ}{Q:VK}{p pos:Pos}{wi:TI}{g:TG}{use:Option (B->Sem Unit)}{Q':Φ}
  (hc:X.calm=O) (hi:PI X tg iter wi) (jd:sc.kind=.function) (je:∀y∈sc.names,y.2 ≠ .cell) (jL:∀y∈sc.names,y.2=.local->sc.names.lookup y.1=Z .local)
  (ke:∀y∈sc.names,y.2=.free->X.env.kindOf y.1=Z .cell\/X.env.kindOf y.1=Z .free) (xT:qy X sc N' cap)
  (P:∀cl C s₂ H₂ fp,PG (blk X N' sc cl C s₂ H₂ fp) tg g/\PTs (blk X N' sc cl C s₂ H₂ fp) ifs tst/\PE (blk X N' sc cl C s₂ H₂ fp) elt te)
  (I:Inv X gd σ H s) (h:yn cap wi g tst te σ H Q)
  (fin:∀D C m H' s',Inv X gd σ H' s'->wL X gd H' C->s'.heap.Ns C m->Q (.ref D) H'->compPost (model X.prog X.w) X.A X.xe use Q' (.ref D) C (.ok .next) s')
  (hs:∀x,foldedSetIterable iter X.env x=pure x):
  XV X (comprehension (.ListComp elt [(tg,iter,ifs,0)] sc pos) sc X.env p (newList []) ϊ (eval iter X.env) use) Q' X.xe s:=by
 let(cl,XA,Cf,XC):=EW (scope:=sc) (env:=X.env) λq hq e=>I.ok.has q.1 (ke q hq e);refine wpAny_comprehension_free U hs XA jd jL (thn (hi gd s σ H _ I h) λv s1 h1=>thn h1 λdp s2 h2=>?_);let(it,fp,tn,ώ,H2,e,I2,T,a0,f2,W,(m0,w0),turn):=h2;subst e;refine ZP (wpAny_newFunctionEnv je (by intro y hy;simp at hy) (λh₁ Qt Mm=>?_) jd);dsimp only at Qt Mm ⊢;generalize bc:s2.heap.push {cls:=.type "list",dict:=Y,data:=.seq ([]:Δ).toArray}=HP at Qt Mm ⊢;have hC:HP.objs.size=s2.heap.objs.size+1:=by rw[<- bc,yg]
 obtain⟨D,ak⟩:∃D:Nat,s2.heap.objs.size=D:=(_,U);obtain⟨C,dd⟩:∃C:Nat,HP.objs.size=C:=(_,U);rw[ak]at hC;rw[dd]at hC Qt Mm ⊢;rw[ak];have DC:D<C:=hC▸ZU D;have a3:∀{b:Nat}{o:Obj},s2.heap.get? b=Z o->b<D:=λe=>ak▸R5 e;have a9:∀{b:Nat}{o:Obj},s2.heap.get? b=Z o->b<C:=λe=>Z4 (a3 e) DC;have a4:@Ne J D C:=pb DC;have old:∀b o,s2.heap.get? b=Z o->h₁.get? b=Z o:=λb o e =>
  Mm.extBut b o (pb (a9 e)) (gi _ (bc▸gi _ e))
 have kB:h₁.get? D=Z (([]:Δ).toArray^^^0):=
  Mm.extBut _ _ a4 (gi _ (by rw[<- bc,<- ak];exact px _ U))
 have cw:(blk X N' sc cl C s2 H2 fp).Ok:=by
  refine(I.ok.mod,jd,I.ok.glob,I.ok.blt,(by show s2.heap.objs.size<=C;rw[ak];exact v5 DC),λx y c h1 h2=>I.ok.inj x y c (Cf x c h1) (Cf y c h2),λx hx=>?_,λx c hx=>(nomatch hx),I.ok.hd,I.ok.frames,.inl U,λb P=>?_,
λb o e=>I2.bs b o e,tY I2.ok.bsz I2.sz,λb o e P=>?_,λb P=>?_,I2.stack,I2.lT)
  ·have c2:sc.names.lookup x=Z .free:=by
    obtain hx|hx:=hx
    ·obtain z|z:=iH hx
     ·exact absurd U (je _ (PySem.mem_of_lookup z))
     exact z.1
    obtain z|z:=iH hx
    ·exact z
    exact z.1
   exact XC x (PySem.mem_of_lookup c2)
  ·let(o,ho,_):=T.obj _ _ a0 b P;refine(?_,λx c e=>(f2 b P).2.2.2.2.1 x c (Cf x c e));show @Ne J b C;exact pb (a9 ho)
  ·let(_,_,_,z,_):=f2 b P;obtain z|z:=z
   ·exact I2.ok.Ec b o e z
   exact absurd (rz (R5 (show X.base.get? b=Z o from e)) (tY I2.ok.bsz z)) (E3 _)
  intro da;obtain z|z:=lb.mp (I2.qI b da)
  ·exact(f2 b P).2.1 z
  exact(f2 b P).2.2.1 z
 have nD:H2 D=none:=I2.hok.fresh (by rw[ak];exact mz _);have cR:=P cl C s2 H2 fp;generalize V:blk X N' sc cl C s2 H2 fp=XB at cw cR;have eP:XB.prog=X.prog:=by rw[<- V];rfl
 have eW:XB.w=X.w:=by rw[<- V];rfl
 have eK:XB.K=X.K:=by rw[<- V];rfl
 have eA:XB.A=X.A:=by rw[<- V];rfl
 have eE:XB.env=compEnvC sc cl C X.env:=by rw[<- V];rfl
 have eX:XB.xe=λ_ _=>False:=by rw[<- V];rfl
 have a5:XB.fs=frs X.stack:=by rw[<- V];rfl
 have bQ:XB.ex=fp:=by rw[<- V];rfl
 have eS:XB.s₀=s2:=by rw[<- V];rfl
 have eH:XB.bi=H2:=by rw[<- V];rfl
 have bP:XB.pn=[]:=by rw[<- V];rfl
 have cX:XB.calm=true:=by rw[<- V];exact hc
 have eN:XB.N=N':=by rw[<- V];rfl
 have eL:XB.env.locals=C:=by rw[eE];rfl
 have aK:XB.env.cells=cl:=by rw[eE];rfl
 have Y4:∀(x:Str)(c:Nat),cl.lookup x=Z c->c<D:=λx c e=>by
  let(v,z):=I2.cell x c (Cf x c e);exact ak▸GN z
 have c0:∀(b:Nat),D<=b->b ∉ XB.fs:=λb P z=>by
  rw[a5]at z;let(_,o,ho,_):=I2.stack.mem z;exact E3 _ (rz (a3 ho) P)
 have bG:∀(b:Nat),b∈fp->b<D:=λb P=>by
  let(o,ho,_):=T.obj _ _ a0 b P;exact a3 ho
 have loop:∀s3:ϋ,s3={s2 with heap:=h₁,toks:=s2.toks+([]:List (Str×B)).length} ->
   codeAny (model X.prog X.w) X.A (.compLoop (.ListComp elt [(tg,iter,ifs,0)] sc pos) 0 (.ref it) (.ref D) (compEnvC sc cl C X.env)) (compPost (model X.prog X.w) X.A X.xe use Q' (.ref D) C) s3:=by
  rintro s3 rfl;refine I0 (λn s'=>∃i ys cb H' its k,Inv XB [] cb H' s'/\tn i s'.heap/\(∀b∈fp,H' b=Y)/\H' D=Y/\s'.heap.get? D=Z ((its:Δ).toArray^^^k)/\Vals ys its/\W i n ys cb H') ?_ m0
   (0,[],pQ cap σ,H2,[],0,?_,T.keep _ _ _ a0 λb P o e=>old b o e,λb P=>(f2 b P).1,nD,kB,.nil,w0)
  ·rintro n s4 ⟨i,ys,aF,H4,its,k,I4,ct,cW,d4,o4,v4,w4⟩;have bA:∀{H':Hp}{pl:Ξ},(∀b∈fp,H' b=Y)->(∀q∈pl,q.1 ∉ fp)->∀b∈fp,wL XB pl H' b:=λ{H' pl} hn c4 b P=>by
    refine(hn b P,?_,?_,.inl (by rw[bQ];exact P),λx c e=>?_,λq hq=>?_)
    ·rw[eL];exact pb (Z4 (bG b P) DC)
    ·rw[a5];intro z;obtain z|z:=lb.mp (I2.qI b z)
     ·exact(f2 b P).2.1 z
     exact(f2 b P).2.2.1 z
    ·rw[aK]at e;exact(f2 b P).2.2.2.2.1 x c (Cf x c e)
    rw[bP]at hq;intro z;exact c4 q (hq:) (z▸P)
   have pD:∀q ∈ [(Prod.mk D ((its.toArray^^^k):Obj))],q.1 ∉ fp:=λq hq=>by
    have e:q=_:=fy.mp hq;subst e;intro z;exact E3 _ (bG _ z)
   have bT:Inv XB [(D,(its.toArray^^^k))] aF H4 s4:=I4.oN λq hq=>by
    have e:q=_:=fy.mp hq;subst e;refine(o4,d4,?_,c0 _ (mz _),λv=>ba);rw[eL];exact a4
   have Zs:=bT;rw[<- eA,<- eP,<- eW];obtain⟨stop,hz,qn⟩|⟨go,hz,N,hN,step⟩:=turn i n ys aF H4 w4
   ·rw[<- eP,<- eW,<- eK]at T;refine QG (T.done XB U U U cX i _ s4 aF H4 (λ_ _=>False) bT (bA cW pD) ct stop) (λr s5 (hr,I5)=>?_) λ_ _ z=>z;subst hr;rw[eP,eW,eA];let(o5,n5,_):=I5.pin (D,(its.toArray^^^k)) (p7 _ (fy.mpr U));have u5:Un (frs X.stack) fp H2 H4 s2.heap s5.heap:=by have z:=I5.base;rw[a5,bQ,eH,eS]at z;exact z
    have c1:∀b o,s2.heap.get? b=Z o->@Ne J b D:=λb o e=>pb (a3 e);have ne5:∀b u,H4 b=Z u->b≠D:=λb u e z=>by rw[z,d4]at e;cases e
    have c5:HOk X.prog X.w H4 s5.heap:=by have z:=I5.hok;rw[eP,eW]at z;exact z
    have Y0:=fin D C;let(mC,cV,_):=id I5.loc;rw[eL]at cV;have IX:Inv X gd σ (upd H4 D (.lst ys)) s5:=by
     refine I2.Cz (s':=s5) (ch:=fp) ?_ (u5.keep,u5.slot,λb o e n hx=>?_,u5.there,λb xs e=>?_,λb o u e=>?_,λb ps e=>?_) ?_ I5.bare λb P=>((f2 b P).2.2.2.1,(f2 b P).2.1,(f2 b P).2.2.2.2.1,(f2 b P).2.2.2.2.2)
     ·have z:=I5.os;rw[eS]at z;exact z
     ·rw[au (c1 b o e)];exact u5.free b o e n hx
     ·have z:=u5.n8 b xs e;rw[au (ne5 b _ z)];exact z
     ·have z:=u5.kC b o u e;rw[au (ne5 b _ z)];exact z
     ·let(more,z):=u5.og b ps e;exact(more,by rw[au (ne5 b _ z)];exact z)
     intro a o e;by_cases ha:a=D
     ·subst ha;rw[ax]at e;cases e;exact(hz,its,k,v4,o5)
     rw[au ha]at e;exact(c5 a o e).dO (λ_ _ _ q=>q) (λb q=>by rw[au (ne5 b _ q)];exact q) λb xs q=>by rw[au (ne5 b _ q)];exact q
    refine Y0 mC _ s5 IX ?_ cV (qn D d4);have de:H4 C=none:=by have z:=I5.free;rw[eL]at z;exact z
    refine(by rw[au (Ne.symm a4)];exact de,?_,?_,.inr ?_,λx c e=>?_,λq hq=>?_)
    ·have:@LT.lt Nat _ X.env.locals s2.heap.objs.size:=I2.lt;exact Xd (Z4 (ak▸this) DC)
    ·exact I2.Xc (by rw[ak];exact v5 DC)
    ·exact tY I2.sz (by rw[ak];exact v5 DC)
    ·let(v,z):=I2.cell x c e;exact pb (Z4 (ak▸GN z) DC)
    exact pb (a9 (I2.pin q hq).1)
   have T':=T;rw[<- eP,<- eW,<- eK]at T';refine QG (T'.item XB U U U cX i _ s4 aF H4 (λ_ _=>False) bT (bA cW pD) ct go) (λr s5 (u,hr,h5)=>?_) λ_ _ z=>z;subst hr;refine thn h5 λ_ s6 ar=>?_;let(x,H6,I6,r6,y6,a6,dj):=ar;have dn:=I6.pinned (bA dj pD) (T.obj _ _ a6);let(c7,c3,c9):=cR;rw[<- eE];have cA:=c7 _ s6 aF H6 x u _ dn r6 (step x H6 y6);rw[eX]at cA;refine thn cA λ_ s7 ar=>?_;let(aW,H7,I7,q7):=ar;have cx:=c3 _ s7 aW H7 _ I7 q7;rw[eX]at cx;refine thn cx λb s8 ar=>?_;let(H8,I8,q8):=ar;have back:∀{b0:St}{H9:Hp}{s9:ϋ},Inv XB ([(D,(its.toArray^^^k))]++vp fp s6.heap) b0 H9 s9->tn (i+1) s9.heap/\(∀b∈fp,H9 b=Y)/\H9 D=Y/\s9.heap.get? D=Z (its.toArray^^^k):=λ{b0 H9 s9} I9=>by
    have z:=I9.pin (D,(its.toArray^^^k)) (p7 _ (ui _ (fy.mpr U)));refine(T.keep _ _ _ a6 λb P o e=>(I9.pin (b,o) (p7 _ (p7 _ (gO P e)))).1,λb P=>?_,z.2.1,z.1);let(o,e,_):=T.obj _ _ a6 b P;exact(I9.pin (b,o) (p7 _ (p7 _ (gO P e)))).2.1
   cases b with
   |false =>rw[if_neg ri]at q8 ⊢;let(m',hm,w8):=hN _ _ _ q8;let(t1,t2,t3,t4):=back I8;exact(m',hm,i+1,ys,aW,H8,its,k,I8.oN (λq hq=>nomatch hq),t1,t2,t3,t4,v4,w8)|true =>
    rw[if_pos rfl]at q8 ⊢;have cC:=c9 _ s8 aW H8 _ I8 q8;rw[eX]at cC;refine thn cC λyv s9 ar=>?_;let(y,H9,I9,r9,n9):=ar;let(m',hm,w9):=hN _ _ _ n9;let(t1,t2,t3,t4):=back I9;have hsz:its.toArray.size<=lK:=by
     have e:=v4.length;have e2:its.toArray.size=its.length:=by simp
     omega
    refine append_at (hsz:=hsz) t4 λh' cy dc=>?_;refine(m',hm,i+1,ys++[y],aW,H9,its++[yv],k+1,?_,T.keep _ _ _ t1 λb P o e=>cy.extBut b o (pb (bG b P)) e,t2,t3,?_,v4.append (.cons r9 .nil),w9)
    ·refine(I9.oN (pins':=[]) (λq hq=>nomatch hq)).turned (t':=s9.toks) (it:=D) (λb o P e=>cy.extBut b o P e) t3 ?_ (.inr ?_) (λx c e=>?_) λq hq=>?_
     ·rw[eL];exact a4
     ·rw[eS,ak];exact mz _
     ·rw[aK]at e;exact pb (Y4 x c e)
     rw[bP]at hq;exact nomatch hq
    rw[dc];simp
  
  refine(cw,by rw[eS],I2.bare,by rw[a5,bQ,eH,eS];exact Un.kept old,(_,by rw[eL];exact Qt,λj x v h1 h2 h3=>?_),λx c e=>?_,?_,λx c e=>?_,λq hq=>?_,by rw[eP,eW];exact I2.hok.kept old,by rw[eN];exact xT.len)
  ·rw[eN]at h1;let(i,g1,g2,g3,g4):=xT.at h1 h2;let(m,hn,hl):=I2.loc;have hv:Vis X.env.scope x:=by
    obtain z|z:=g4
    ·exact .inr (.inl z)
    exact .inr (.inr z)
   let(u,r,l):=hl i x v g1 g2 hv;refine(u,r,.inr (?_,?_))
   ·rw[eE];exact(oE g3).symm
   obtain⟨hk,_⟩|⟨_,c,e,z⟩:=l
   ·obtain y|y:=g4
    ·rw[y]at hk;cases hk
    rw[y]at hk;cases hk
   let(c',e'):=XC x (PySem.mem_of_lookup g3);have:=Cf x c' e';rw[e]at this;cases this;let(o,ho,hd):=z;exact(c,by rw[aK];exact e',o,old c o ho,hd)
  ·rw[aK]at e;let(v,o,ho,hd):=I2.cell x c (Cf x c e);exact(v,o,old c o ho,hd)
  ·rw[eL];exact I2.hok.fresh (by rw[ak];exact v5 DC)
  ·rw[aK]at e;exact I2.eJ x c (Cf x c e)
  rw[bP]at hq;exact nomatch hq
 exact codeAny_compStart_list (loop _ U) (T.self X.A 0 _ _ _ (T.keep _ _ _ a0 λb P o e=>old b o e) (loop _ U))
def Gn(h:(sc.names.all λy=>y.2 != .free ||(X.env.kindOf y.1==Z .cell||X.env.kindOf y.1==Z .free))=O):
  ∀y∈sc.names,y.2=.free->X.env.kindOf y.1=Z .cell\/X.env.kindOf y.1=Z .free:=λy g e=>by
 have z:=RB.mp h y g;rw[e]at z;simpa using z
def FW{pos:Pos}{wi:TI}{g:TG}
  (hc:X.calm=O) (hi:PI X tg iter wi) (V:qy X sc N' cap)
  (P:∀cl C s₂ H₂ fp,PG (blk X N' sc cl C s₂ H₂ fp) tg g/\PTs (blk X N' sc cl C s₂ H₂ fp) ifs tst/\PE (blk X N' sc cl C s₂ H₂ fp) elt te)
  (jd:‹sc.kind=.function›) (je:autoParam (∀y∈sc.names,y.2 ≠ .cell) zdc._auto_1) (jL:autoParam (∀y∈sc.names,y.2=.local->sc.names.lookup y.1=Z .local) zdc._auto_1)
  (ke:‹(sc.names.all λy=>y.2 != .free ||(X.env.kindOf y.1==Z .cell||X.env.kindOf y.1==Z .free))=true›)
  (hs:∀x,foldedSetIterable iter X.env x=pure x:=by intro _;rfl):PE X (.ListComp elt [(tg,iter,ifs,0)] sc pos) (yn cap wi g tst te):=by
 left;exact Cs hc hi jd je jL (Gn ke) V P I h (λD C m H' s' I' z hn q=>((m,hn,λh' K=>(.ref D,H',(I'.turned (λb o P e=>K.extBut b o P e) z.1 z.2.1.symm.symm z.2.2.2.1 z.2.2.2.2.1 z.2.2.2.2.2),U,q)))) hs
variable{fC:Pos}{py:Pos}
def FV{i:Nat}{y:Str}{pos:Pos}{wi:TI}{g:TG}
  (hN:X.N.Nodup) (ak:X.N[i]?=Z y) (hy:Loc X.env.scope y)
  (hc:X.calm=O) (hi:PI X tg iter wi) (xT:qy X sc N' cap)
  (K:∀cl C s₂ H₂ fp,PG (blk X N' sc cl C s₂ H₂ fp) tg g/\PTs (blk X N' sc cl C s₂ H₂ fp) ifs tst/\PE (blk X N' sc cl C s₂ H₂ fp) elt te)
  (Q:‹swapsWith (.ListComp elt [(tg,iter,ifs,0)] sc pos) (Z (.Name y py)) fC.line X.env=pure true›)
  (hf:BC X y:=by first|exact .inl rfl|exact .inr rfl|assumption)
  (jd:‹sc.kind=.function›) (je:autoParam (∀y∈sc.names,y.2 ≠ .cell) zdc._auto_1) (jL:autoParam (∀y∈sc.names,y.2=.local->sc.names.lookup y.1=Z .local) zdc._auto_1)
  (ke:‹(sc.names.all λy=>y.2 != .free ||(X.env.kindOf y.1==Z .cell||X.env.kindOf y.1==Z .free))=true›)
  (hs:∀x,foldedSetIterable iter X.env x=pure x:=by intro _;rfl):PS X (.Assign [.Name y py] (.ListComp elt [(tg,iter,ifs,0)] sc pos) fC) (kz (yn cap wi g tst te) (gS i)):=by
 intro gd s σ H Dn I h;rw[exec_Assign_Name_used _ _ _ _ Q];refine eB (wpAny_standAt (eB ?_));refine eB (QG (Cs hc hi jd je jL (Gn ke) xT K I h (λD C m H' s' I' P hn q=>?_) hs)
(λ_ s' hq=>nT (nT hq)) λ_ _ e=>e)
 let(o,es,ep,ho,hd,hr):=id hn;have I2:=I'.pinned (λb K=>by rw[fy.mp K];exact P) λb K=>by
  rw[fy.mp K];exact(o,ho,λv=>by rw[hd];simp)
 refine wpAny_assign_Name (iT I2 hN ak hy (v:=.ref D) U (λs2 I3=>?_) hf);have z:=(I3.pin (C,o) (p7 _ (p7 _ (gO (fy.mpr U) ho)))).1;exact(m,(o,es,ep,z,hd,hr),λh' V=>(_,H',(I3.n6.turned (λb o K e=>V.extBut b o K e) P.1 P.2.1 P.2.2.2.1 P.2.2.2.2.1 P.2.2.2.2.2),q))
variable{a:J}
section
theorem yN{K:Ch}{xs:Ω}{g:TG}{σ:St}{Q:VK}(Pv:Nat->Ω->St->Hp->Prop)(h0:Pv 0 [] σ H)
  (hl:∀i ys σ H,i<=xs.length->Pv i ys σ H->SqL K H a xs/\ys.length<lK)
  (hs:∀i x ys σ H,xs[i]?=Z x->Pv i ys σ H->g x σ H λz H3=>tst z H3 λb H4=>if b=O then te z H4 λy H5=>Pv (i+1) (ys++[y]) z H5 else Pv (i+1) ys z H4)
  (hd:∀ys σ H,Pv xs.length ys σ H->∀D,H D=Y->Q (.ref D) (upd H D (.lst ys))):
  SW g tst te σ Q (Itl K a) H:=by
 refine(λi m ys σ H=>m=xs.length-i/\i<=xs.length/\Pv i ys σ H,(xs.length,ba,AY _,h0),?_);rintro i m ys σ H ⟨rfl,hi,p⟩;let(q,hz):=hl i ys σ H hi p;by_cases P:i<xs.length
 ·refine .inr ((xs,xs[i],q,by simp[P]),hz,Pv (i+1),λar ak H' p'=>(xs.length-(i+1),bd,U,P,p'),λx H' y=>?_);let(e,y):=y;subst e;exact hs i x ys σ _ (y xs q) p
 have e:i=xs.length:=bd;subst e;exact .inl ((xs,q,mz _),v5 hz,hd ys σ H p)
inductive Wy(x:V)(lo:Option Int)(hi:Option Int)(H:Hp)(Q:VK):Prop
 |mk(z:_)(h1:x=.str z)(h2:z.length<=lK)(h3:Q (.str (Txt.slice z lo hi)) H)
def TC:SlR X Wy:=by
 intro gd s σ H x v vl vu lo hi sl Q I V hs pl pu h;let(z,U,g,q):=h;let(t,U):=V;refine("str",_,PySem.F.slot_str_getitem.lookup,typeIs_str s z t,?_);let(o,h1,h2,h3):=hs;have fin:∀y t' k,y=Txt.slice z lo hi->EP X gd σ Q (.str y t') {s with toks:=k}:=λy t' k e=>by subst e;exact(.str _,H,I.tok k,(_,U),q)
 cases pl with
 |none =>
  cases pu with|none=>exact wpAny_getItem_str_slice (l:=Y) (u:=Y) (st:=Y) (o,h1,h2,h3) U (post_val_or_str (tY (Txt.slice_le z _ _) g,λt' k=>fin _ t' k U))|int j K=>exact wpAny_getItem_str_slice (l:=Y) (u:=Z (j,K)) (st:=Y) (o,h1,h2,h3) U (post_val_or_str (tY (Txt.slice_le z _ _) g,λt' k=>fin _ t' k U))
 |int i P =>cases pu with|none=>exact wpAny_getItem_str_slice (l:=Z (i,P)) (u:=Y) (st:=Y) (o,h1,h2,h3) U (post_val_or_str (tY (Txt.slice_le z _ _) g,λt' k=>fin _ t' k U))|int j K=>exact wpAny_getItem_str_slice (l:=Z (i,P)) (u:=Z (j,K)) (st:=Y) (o,h1,h2,h3) U (post_val_or_str (tY (Txt.slice_le z _ _) g,λt' k=>fin _ t' k U))
def Dy{ys:Γ}:∀{us:Δ},Vals (ys.map V.str) us->StrsAre us ys:=by
 induction ys with
 |nil=>intro us r;cases r;exact .nil
 |cons n ns z =>intro us r;cases r with|cons q g =>let(t,e):=q;subst e;exact .cons n t (z g)
inductive rJoin(K:Ch)(x:V)(xs:Ω)(H:Hp)(Q:VK):Prop
 |mk(sep l ys:_)(h1:x=.str sep)(h2:xs=[.ref l])(h3:SqL K H l (ys.map V.str))(h4:(ys.map (·.length)).sum+ys.length*sep.length<=16777216)(h5:Q (.str (Txt.join sep ys)) H)
def P2:MtR X "str.join" (rJoin X.K):=by intro gd s σ H x xs v us Q I g rs h;let(sep,l,ys,U,U,hl,hw,q):=h;let(t,U):=g;let(u,U,ru):=Vals.one rs;cases ru;let(its,r,z,P):=I.list hl;exact join_list z.isList (Dy r:) hw λt' k=>(.str _,H,I.tok k,(_,U),q)
end
variable{I:J}{fp:Θ}{n:Nat}{ty:String}{Q:Φ}
section
variable{w:Da}{E:Φ}{s:ϋ}
def Il:typeLookup (.type "list_reverseiterator") "__len__"=pure none:=bv
def Mr:typeLookup (.type "list_reverseiterator") "__length_hint__"=pure (Z (.builtin "list_reverseiterator.__length_hint__")):=bv
def L6{Q:Bool->ϋ->Prop}(hT:s.TypeIs (.ref I) "list_reverseiterator")(z:∀b tk,s.toks<=tk->Q b {s with toks:=tk}):wpAny (model prog w) A (Builtin.List.listLengthHint (.ref I)) Q E s:=by
 refine eB (ZL hT Il (eB (ZL hT Mr ?_)));generalize g:("list_reverseiterator.__length_hint__")=q
 wp_delta
 rw[show splitId q=Z ("list_reverseiterator","__length_hint__")from by subst g;decide +kernel];subst g;exact eB (ZV (b:=O) hT bv (nT (z _ _ (mz _))))
theorem Cj{R:Result->ϋ->Prop}{wr:Θ}{P:Nat->B->Prop}{St:Nat->Ev->Prop}(W:Walks prog w A.in1 I fp wr n P St)(hT:∀i (s:ϋ),St i s.heap->s.TypeIs (.ref I) ty)
  (aW:(B.type ty == .type "list" || Value.type ty == .type "tuple")=ϊ) (aK:∀x ∈ ["set","frozenset","dict","dict_keys","dict_values","dict_items"],(B.type ty == .type x)=ϊ)
  (hint:∀(s:ϋ)(Q:Bool->ϋ->Prop)(E:Φ),St 0 s.heap->(∀b tk,s.toks<=tk->Q b {s with toks:=tk})->wpAny (model prog w) A.in1 (Builtin.List.listLengthHint (.ref I)) Q E s)
  (S:J) (res:B) (c₀:Nat) (q:St 0 s.heap) (ak:S ∉ fp) (hI:I∈fp) (hS:s.heap.get? S=Z (#[]^^^c₀))
  (hR:∀s' tO K,Moved (S::wr) (λg g'=>g'=g) s s'->s'.heap.get? S=Z {cls:=.type "list",dict:=Y,data:=.seq tO K,slots:=#[]}->ItemsOf P tO n->R (.ok (.ret res)) s') (hn:n<=lK):
  wpAny (model prog w) A.in1 (Builtin.List.listExtendWith (.ref S) (.ref I) res)
   (λfin s'=>match fin with|.done f=>R (.ok f) s' |.again K=>K.quiet=O/\codeAny (model prog w) A K R s') (λe s'=>R (.error e) s') s:=by
 have a0:S≠I:=λe=>ak (e▸hI);have h1:Builtin.List.listSameRef (.ref S) (.ref I)=false:=by simp[Builtin.List.listSameRef,a0]
 refine eB (Yc (hT 0 _ q) ?_);rw[if_neg (by rw[Bool.or_assoc,h1,aW];decide)];refine eB (W.self 0 _ _ _ q (eB (Rw (hint _ _ _ q λb tk ar=>?_))));have tail:∀h' V c,s.toks<=V->(∀b o,b≠S->s.heap.get? b=Z o->h'.get? b=Z o)->h'.get? S=Z {cls:=.type "list",dict:=Y,data:=.seq #[] c,slots:=#[]} ->
   wpAny (model prog w) A.in1 (again (.builtin "list.extend.loop" ([.ref S,.ref I,res],[]))) (λfin s'=>match fin with|.done f=>R (.ok f) s' |.again K=>K.quiet=O/\codeAny (model prog w) A K R s') (λe s'=>R (.error e) s') {s with heap:=h',toks:=V}:=by
  intro h' V c ht hk a4;exact nT (ZY F.plain_extend_loop _,codeAny_extend_loopS W.toS hn _ ak _ n 0 _ _ _ U (AY _) (W.frame 0 s.heap _ q λb hb o e=>hk b o (λz=>ak (z▸hb)) e) a4 (ItemsOf.nil P) λs' tO K hm QD kB=>hR s' tO K (λb o hb e=>hm.heap b o hb (hk b o (λz=>hb (by rw[z];exact j4)) e),hm.gens,hm.drawn,hm.os,tY ht hm.toks) QD kB)
 cases b with
 |false =>
  rw[if_neg ?_]
  ·exact tail _ _ _ ar (λ_ _ _ e=>e) hS
  intro z;rw[ae3,Tf]at z;let(x,hx,hz):=z;rw[aK x hx]at hz;cases hz
 |true =>refine eB (ZI (eB ?_));refine eB (Zu hS U ?_);have aF:=wJ (Nj (·.push B.none)) hS U;refine Zu aF U ?_;have a3:=wJ (Nj (·.pop)) aF U;exact tail _ _ _ ar (λb o hb e=>(vr _ _ (Ne.symm hb)).trans ((vr _ _ (Ne.symm hb)).trans e)) a3
theorem wx{wr:Θ}{P:Nat->B->Prop}{St:Nat->Ev->Prop}(W:Walks prog w A.in1.in1 I fp wr n P St)(hT:∀i (s:ϋ),St i s.heap->s.TypeIs (.ref I) ty)
  (ar:(B.type ty == .type "list" || Value.type ty == .type "tuple")=ϊ) (ak:∀x ∈ ["set","frozenset","dict","dict_keys","dict_values","dict_items"],(B.type ty == .type x)=ϊ)
  (hint:∀(s:ϋ)(Q:Bool->ϋ->Prop)(E:Φ),St 0 s.heap->(∀b tk,s.toks<=tk->Q b {s with toks:=tk})->wpAny (model prog w) A.in1.in1 (Builtin.List.listLengthHint (.ref I)) Q E s)
  (aF:St 0 s.heap) (aK:∀b∈fp,b<s.heap.objs.size) (hI:I∈fp)
  (hQ:∀s' tO c',Moved (s.heap.objs.size::wr) (λg g'=>g'=g) {s with heap:=s.heap.push (~~~#[])} s' ->
s'.heap.get? s.heap.objs.size=Z {cls:=.type "list",dict:=Y,data:=.seq tO c',slots:=#[]}->ItemsOf P tO n->Q (.ref s.heap.objs.size) s') (hn:n<=lK):
  wpAny (model prog w) A (call (.type "list") [.ref I]) Q E s:=by
 have V:=λhm=>E3 _ (aK _ hm);refine callType_codes (Q₁:=λobj q=>obj=.ref s.heap.objs.size/\q={s with heap:=s.heap.push (~~~#[])}) F.called_list (F.typeCall_list_1 _) F.entry_list_init (code_list_new _ (U,U)) λobj q h₁=>?_;let(U,U):=h₁;have hS:(s.heap.push (~~~#[])).get? s.heap.objs.size=Z (~~~#[]):=px _ U;refine((_,hS,U),F.args_list_init_2 _ _,(eB (eB (wpAny_seqItems hS U (nT (eB (Zu hS U ?_)))))));have aW:=wJ (Nj (λ_=>(#[]))) hS U;have oth:∀b o,b≠s.heap.objs.size->(s.heap.push (~~~#[])).get? b=Z o->((s.heap.push (~~~#[])).update s.heap.objs.size (Nj (λ_=>(#[])))).get? b=Z o:=
  λb o K e=>(vr _ _ (Ne.symm K)).trans e
 exact Cj (hn:=hn) W hT ar ak hint s.heap.objs.size .none _ (W.frame 0 s.heap _ aF λb K o e=>oth b o (λz=>V (z▸K)) (gi _ e)) V hI aW λs' tO c' hm a0 kB=>((U,hQ s' tO c' (λb o K e=>hm.heap b o K (oth b o (λz=>K (by rw[z];exact j4)) e),hm.gens,hm.drawn,hm.os,hm.toks) a0 kB))
end
def uP(K:Ch)(te:TE):TE:=λσ H Q=>te σ H λx H1=>∃l ys,x=.ref l/\SqL K H1 l ys/\∀q,H1 q=Y->Q (.ref q) (upd H1 q (.lst ys.reverse))
def JC{its:Array B}{acc:Array B}{ys:Ω}(r:Vals ys its.toList)(h:ItemsOf (λi v=>its[its.size-1-i]?=Z v) acc its.size):Vals ys.reverse acc.toList:=by
 have e:acc.toList=its.toList.reverse:=by
  apply List.ext_getElem?;intro i;by_cases hi:i<its.size
  ·have h1:i<acc.size:=by rw[h.1];exact hi
   have h2:=h.2 i acc[i] (by simp[h1]);rw[List.getElem?_reverse (hi:)];simp only[Zz,ad2];rw[h2];simp[h1]
  have h1:¬ i<acc.size:=by rw[h.1];exact hi
  rw[RF (h1:),RF (hi:)]
 rw[e];exact Vals.reverse r
variable{l:J}
def Iu{σ:St}{s:ϋ}{Q:VK}{ob:Obj}{tk:Nat}{P:Nat->B->Prop}{St:Nat->Ev->Prop}{ys:Ω}(I:Inv X gd σ H s)(aF:l<s.heap.objs.size)(W:Walks X.prog X.w X.A.in1.in1 s.heap.objs.size [s.heap.objs.size,l] [s.heap.objs.size] n P St)(hT:∀i (s':ϋ),St i s'.heap->s'.TypeIs (.ref s.heap.objs.size) ty)
  (ak:(B.type ty == .type "list" || Value.type ty == .type "tuple")=ϊ) (K:∀x ∈ ["set","frozenset","dict","dict_keys","dict_values","dict_items"],(B.type ty == .type x)=ϊ)
  (hint:∀(s':ϋ)(Q:Bool->ϋ->Prop)(E:Φ),St 0 s'.heap->(∀b tk,s'.toks<=tk->Q b {s' with toks:=tk})->wpAny (model X.prog X.w) X.A.in1.in1 (Builtin.List.listLengthHint (.ref s.heap.objs.size)) Q E s')
  (ar:St 0 (s.heap.push ob)) (hv:∀acc,ItemsOf P acc n->Vals ys acc.toList) (hz:ys.length<=lK) (hn:n<=lK) (q:∀p,H p=Y->Q (.ref p) (upd H p (.lst ys))):
  XV X (call (.type "list") [.ref s.heap.objs.size]) (EP X gd σ Q) X.xe {s with heap:=s.heap.push ob,toks:=tk}:=by
 refine wx W hT ak K hint ar (λb g=>?_) ba (λs' tO c' hm aK kB=>?_) hn
 ·rw[yg];obtain z|z:=lb.mp g
  ·rw[z];exact ZU _
  rw[fy.mp z];exact Nat.lt_succ_of_lt aF
 rw[Moved.eq_with hm];have kp:=λb o e=>hm.heap b o (λz=>by
  have g:=kf e;obtain z|z:=lb.mp z
  ·rw[z]at g;simp only[yg]at g;lia
  rw[fy.mp z]at g;lia) (gi _ (gi _ e))
 have hf:H ((s.heap.push ob).objs.size)=none:=I.hok.fresh (by rw[yg];lia);exact(.ref _,_,I.laid (o:=.lst ys) kp (by rw[yg];lia) (hz,tO.toList,c',hv tO kB,(aK:)),U,q _ hf)
variable{e:EQ}
def vv{p1 p2 fJ pos:Pos}(hc:X.calm=O)(aK:Gl X "list")(ar:X.mg "list"=Y)(aF:Gl X "reversed")(ak:X.mg "reversed"=Y)(he:PE X e te)
  (g:‹AM X e›) (V:‹j7 [.Call (.Name "reversed" p2) [e] [] fJ] X.env=[(ϊ,eval (.Call (.Name "reversed" p2) [e] [] fJ) X.env)]›):
  PE X (.Call (.Name "list" p1) [.Call (.Name "reversed" p2) [e] [] fJ] [] pos) (uP X.K te):=by
 left;refine RA (gQ I aK ar boot_list (PyProof.Rows.callWith_type1 ?_ V U));show wpAny _ _ (spliced ((ϊ,eval (.Call (.Name "reversed" p2) [e] [] fJ) X.env)::backTo pos (j7 [] X.env))) _ _ s;refine Calls.spliced_cons (RA (gQ I aF ak boot_reversed (PyProof.Rows.callWith_type1 ?_ g U)));rw[g];refine Calls.spliced_cons (thn (he gd s σ H _ I h) λu s1 aW=>?_);let(x,H1,I1,r1,l,ys,ex,hl,q):=aW;subst ex;cases r1;refine Calls.spliced_nil ?_;let(its,rv,P,hz):=I1.list hl;have z:l<s1.heap.objs.size:=by let(_,e,_):=P.isList;exact kf e
 refine call_reversed_list P.isList (Calls.spliced_nil ?_);have W:=Walks.listRev (prog:=X.prog) (w:=X.w) (A:=X.A.in1.in1) (I.ok.hd hc) s1.heap.objs.size l (uj z) its.toArray;exact Iu I1 z W (λi s' st=>st.2.1.typeIs) ad ad (λs' Q' E' st hq=>L6 st.2.1.typeIs hq) (AY _,(_,px _ U,U,by simp[revObj]),P.isList.push _) (λacc h=>JC (rv:) h) (by rw[ae2];exact hz) (by rw[qg,<- rv.length];exact hz) q
variable{x:Str}
section
def BF{y:J}{pos:Pos}(hg:Gl X x)(hm:X.mg x=Z (.ref y))(hd:autoParam (AT x) zdc._auto_1):PE X (.Name x pos) (tC (.ref y)):=Po hg hm U hd
def Nv(_ j:Int):Prop:=0<j/\j<18446744073709551616
def BK:OpR X (binaryOp .FloorDiv) (rI Nv λi j=>.int (i / j)):=opI λi j _ _ _ _ _ g q=>by
 let(h1,h2):=g;have e:i.fdiv j=i / j:=Int.fdiv_eq_ediv_of_nonneg _ bd;refine floordiv_int bd (by rw[e];exact q) (.inl (PyProof.noPylong_of_log2 ?_));have h3:j.natAbs<2 ^ 64:=bd;have h4:j.natAbs≠0:=bd;exact Z4 ((Nat.log2_lt h4).mpr h3) ad
def HG{ys:Γ}{its:Array B}(v:Vals (ys.map V.str) its.toList)(h:autoParam (ys.length<=1000) zdc._auto_1):its.size<=lK:=by
 have e:=v.length;rw[dN]at e;have g:its.toList.length=its.size:=by simp
 have:(1000)<=lK:=ad;lia
end
def dk(s n:Int)(l:J):Ϗ:=[(.inr "seed",.int s),(.inr "number",.int n),(.inr "left",.ref l)]
def IS{s n:Int}:gZ (dk s n l) (.inr "number":Key)=Z (.int n):=bv
def QR{s n:Int}:gZ (dk s n l) (.inr "left":Key)=Z (.ref l):=bv
variable{m:Int}
def DU{s n:Int}:putK (dk s n l) (.inr "number":Key) (.int m)=dk s m l:=bv
def K8{s n:Int}:putK (dk s n l) (.inr "seed":Key) (.int m)=dk m n l:=bv
structure dg(H:Hp)(d l:J)(s n:Int)(ls:Ψ):Prop where
 hd:H d=Z (.dK (dk s n l))
 hl:H l=Z (.lst (ls.map V.int))
 s0:0<=s
 s1:s<2147483647
 n0:0<=n
 l0:∀x∈ls,0<=x
def qi(H:Hp)(d l:J):Prop:=∃s n ls,dg H d l s n ls
def Kp(d l:J)(H H':Hp):Prop:=∀b o,H b=Z o->b≠d->b≠l->H' b=Z o
variable{d:J}
def Kp.refl:Kp d l H H:=λ_ _ h _ _=>h
variable{ls:Ψ}
def dg.ne{s n:Int}(D:dg H d l s n ls):d≠l:=kS D.hd D.hl (by intro z;cases z)
def dg.num{s n:Int}(D:dg H d l s n ls)(h:0<=m):dg (upd H d (.dK (putK (dk s n l) (.inr "number":Key) (.int m)))) d l s m ls:=
 (by rw[ax,DU],by rw[au D.ne.symm];exact D.hl,D.s0,D.s1,h,D.l0)
def dg.Ym{s n:Int}(D:dg H d l s n ls)(h:0<=m)(h2:m<2147483647):dg (upd H d (.dK (putK (dk s n l) (.inr "seed":Key) (.int m)))) d l m n ls:=
 (by rw[ax,K8],by rw[au D.ne.symm];exact D.hl,h,h2,D.n0,D.l0)
def dg.list{s n:Int}{ls':Ψ}(D:dg H d l s n ls)(h:∀x∈ls',0<=x):dg (upd H l (.lst (ls'.map V.int))) d l s n ls':=
 (by rw[au D.ne];exact D.hd,ax,D.s0,D.s1,D.n0,h)
variable{H1:Hp}
def Kp.S8{o:HO}(a:Kp d l H H1):Kp d l H (upd H1 d o):=λc u h h1 h2=>by rw[au h1];exact a c u h h1 h2
def Kp.Yh{o:HO}(a:Kp d l H H1):Kp d l H (upd H1 l o):=λc u h h1 h2=>by rw[au h2];exact a c u h h1 h2
def nQ.new{p:J}{o:HO}(a:nQ H H1)(hp:H1 p=Y):nQ H (upd H1 p o):=λc u h=>by
 have z:=a c u h;rw[au (aX z hp)];exact z
def qi.new{p:J}{o:HO}(D:qi H d l)(hp:H p=Y):qi (upd H p o) d l:=by let(s,n,ls,D):=D;exact(s,n,ls,by rw[au (aX D.hd hp)];exact D.hd,by rw[au (aX D.hl hp)];exact D.hl,D.s0,D.s1,D.n0,D.l0)
inductive JU(vs:Ω)(H:Hp)(Q:VK)(_:XK):Prop
 |mk(d l:J)(m:Int)(h1:vs=[.ref d,.int m])(h2:qi H d l)(h3:0<m)(h4:m<18446744073709551616)(h5:∀(r:Int)(H':Hp),0<=r->r<m->qi H' d l->Kp d l H H'->Q (.int r) H')
inductive Tz(K:Ch)(vs:Ω)(H:Hp)(Q:VK)(_:XK):Prop
 |mk(a:J)(ns:Ψ)(b:Int)(h1:vs=[.ref a,.int b])(h2:SqL K H a (ns.map V.int))(h3:ns.length<=63)(h4:0<=b)(h5:b<=63)(h6:∀(d l:J)(H':Hp),H d=Y->H l=Y->qi H' d l->nQ H H'->Q (.ref d) H')
variable{D:Ends}
def Hx{c:TT}{tb:TS}{σ:St}(I:Nat->St->Hp->Prop){m:Nat}(h0:I m σ H)(q:∀m σ H,I m σ H->D.nx σ H)
  (hs:∀m σ H,I m σ H->D.nx σ H->c σ H λb H1=>if b=O then ∃N:St->Hp->Prop,(∀g H',N g H'->∃m',m'<m/\I m' g H')/\tb {D with nx:=N,ct:=N,bk:=D.nx} σ H1 else D.nx σ H1):Du c tb D σ H:=
 (I,(m,h0),λm σ H h=>hs m σ H h (q m σ H h))
def dg.Mx{s n:Int}(D:dg H d l s n ls):jt H d (.str "seed") (Z (.int s)):=by have z:=jt.k (k:=(Sum.inr "seed")) D.hd;exact z
def dg.XI{s n:Int}(D:dg H d l s n ls):jt H d (.str "number") (Z (.int n)):=by have z:=jt.k (k:=(Sum.inr "number")) D.hd;rw[IS]at z;exact z
def dg.SA{s n:Int}(D:dg H d l s n ls):jt H d (.str "left") (Z (.ref l)):=by have z:=jt.k (k:=(Sum.inr "left")) D.hd;rw[QR]at z;exact z
def dg.W0{s n:Int}(D:dg H d l s n ls):A2 H d (.str "number") (.int m) (upd H d (.dK (putK (dk s n l) (.inr "number":Key) (.int m)))):=
 A2.k (k:=(Sum.inr "number")) D.hd (aG (by show 3<=1000;decide))
def dg.WV{s n:Int}(D:dg H d l s n ls):A2 H d (.str "seed") (.int m) (upd H d (.dK (putK (dk s n l) (.inr "seed":Key) (.int m)))):=
 A2.k (k:=(Sum.inr "seed")) D.hd (aG (by show 3<=1000;decide))
def mod_lt{x:Int}(h:0<m):0<=x % m/\x % m<m:=(Int.emod_nonneg _ bd,Int.emod_lt_of_pos _ h)
end L2
namespace L2
def MU(ns:Ψ)(lo hi:Option Int):∃cs:Ψ,pO (ns.map V.int) lo hi=cs.map V.int/\cs.length<=ns.length:=by
 refine((ns.drop (HT.sIx ns.length 0 lo)).take (HT.sIx ns.length ns.length hi-HT.sIx ns.length 0 lo),?_,?_)
 ·unfold pO;rw[dN,<- aa2,<- aa3]
 rw[tX,Ry];exact tY (ac3 _ _) (Nat.sub_le _ _)
def int_at{ns:Ψ}{i:Nat}{x:V}(h:(ns.map V.int)[i]?=Z x):∃z,x=.int z:=by
 rw[fZ]at h;cases e:ns[i]? with
 |none=>rw[e]at h;cases h
 |some z=>rw[e]at h;exact(z,(Option.some.inj h).symm)
def Qr{ns:Ψ}{i:Nat}{x:V}(h:(ns.map V.int)[i]?=Z x):∃z,x=.int z/\z∈ns:=by
 rw[fZ]at h;cases e:ns[i]? with
 |none=>rw[e]at h;cases h
 |some z=>rw[e]at h;exact(z,(Option.some.inj h).symm,jk e)
open PySem
def VQ{α:Type}{xs:List α}{i:Int}(h0:0<=i)(h1:i<xs.length):∃v,atI xs i=Z v/\v∈xs:=by obtain⟨n,rfl⟩:∃n:Nat,i=n:=(i.toNat,bd);have h2:n<xs.length:=bd;refine(xs[n],?_,Jr h2);unfold atI ixN;simp[h2]
variable{n:Nat}
def bO(h:n<=10000):n<=lK:=by have:(10000)<=lK:=ad;lia
end L2
namespace L2
open PySem PySem.Spec PyProof.Rows
def strOf:EQ->Option Str
 |.Constant (.str x) _ _=>Z x|_=>Y
def strsOf:List EQ->Option (Γ)
 |[]=>Z []|e::r=>(strOf e).bind λx=>(strsOf r).map (x :: ·)
variable{e:EQ}{x:Str}
def HE(h:strOf e=Z x):∃j p,e=.Constant (.str x) j p:=by
 cases e with
 |Constant c j p=>cases c with
  |str y=>cases h;exact(j,p,U)
  |_=>cases h
 |_=>cases h
variable{X:Cx}{es:List EQ}
def Py:∀{ws:Γ},strsOf es=Z ws->PA X es (λ_ H Q=>Q (ws.map V.str) H):=by
 induction es with
 |nil=>intro ws h;cases h;exact cY
 |cons e es q =>intro ws h;let(x,h1,h2):=Z2.mp h;let(g,h3,U):=gV.mp h2;let(j,p,U):=HE h1;exact bp d8 (q h3)
end L2
namespace L2
variable{H:Hp}
def QF{i:Nat}{x:V}{σ:St}{A ύ:St->Hp->Prop}(h:A (σ.set i (Z x)) H):gS i x σ H λg z=>Fx g z λb q=>if b=O then A g q else ύ g q:=by exact h
end L2
namespace L2
open PySem PySem.Spec PyProof.Rows
section
variable{X:Cx}
def kA(z:Str)(n:Nat):Str:=⟨(rY n z.cps).foldl (·++·) #[]⟩
theorem Bp(c:Array Nat):∀(n:Nat)(acc:Array Nat),((rY n c).foldl (·++·) acc).size=acc.size+n*c.size
 | 0,acc=>by simp|n+1,acc=>by
  rw[RD,List.foldl_cons,Bp c n,Array.size_append,Nat.add_mul];lia
def jb(z:Str)(n:Nat):(kA z n).length=n*z.length:=by have h:=Bp z.cps n #[];simpa [kA,Str.length]using h
def D6:OpR X (binaryOp .Mult) (λx y H Q=>∃ z n,x=.str z/\y=.int n/\0<=n/\n<=1000/\z.length<=1000/\Q (.str (kA z n.toNat)) H):=by
 intro gd s σ H x y v u Q I V K h;let(z,n,U,U,n0,n1,hz,q):=h;let(t,U):=V;let(t',U):=K;have fin:∀(y:Str)(t' k:Nat),y=kA z n.toNat->EP X gd σ Q (.str y t') {s with toks:=k}:=λy t' k e=>by subst e;exact(.str _,H,I.tok k,(_,U),q)
 have hp:=by have h1:(z.length:Int)*n<=1000*n:=Int.mul_le_mul_of_nonneg_right bd n0;omega
 refine P.mul_str ?_ (λh1 _=>?_) (λh1 _=>?_) ?_
 ·rw[decide_eq_false bd,decide_eq_false bd];rfl
 ·have h2:(1000:Int) <=(2 ^ 63-1) / n:=by rw[Int.le_ediv_iff_mul_le bd];omega
  omega
 ·have h2:=by
   have e:((z.length*n.toNat:Nat):Int)=(z.length:Int)*n:=by rw[Int.natCast_mul,Xx n0]
   omega
  have:=ZE;exact decide_eq_false bd
 by_cases h1:n<1
 ·rw[if_pos h1];have e:n.toNat=0:=bd;exact(ad,fin _ _ _ (by rw[e];rfl))
 rw[if_neg h1];by_cases h2:(n==1||z.length==0)=O
 ·rw[if_pos h2];refine fin z t s.toks ?_;have h3:=(h2:);obtain h3|h3:=h3
  ·subst h3;show z=⟨#[]++z.cps⟩;simp
  have e1:z.cps=#[]:=by simpa [Str.length]using h3
  have g:=jb z n.toNat;rw[h3]at g;have e3:=by simpa [Str.length]using g
  exact Str.ext' (by rw[e1,e3])
 rw[if_neg h2];refine(?_,fin _ _ _ U);have e:=jb z n.toNat;have h3:=by
  have e:((n.toNat*z.length:Nat):Int)=(z.length:Int)*n:=by rw[Int.natCast_mul,Xx n0,Int.mul_comm]
  omega
 have:=ZE;show(kA z n.toNat).length<=lK;omega
end
end L2
namespace L2
open PySem
def tu(n:Nat):Nat:=97+n % 26
def dS(c1 c2:Str)(turn k:Nat):Str:=c1++⟨#[tu (turn+7*k)]⟩++c2++kA "x" (k % 2)++kA "y" (k / 26)
def wy(c1 c2:Str)(turn k:Nat):(dS c1 c2 turn k).cps.toList=c1.cps.toList++tu (turn+7*k) ::(c2.cps.toList++(kA "x" (k % 2)).cps.toList++(kA "y" (k / 26)).cps.toList):=by simp[dS,Str.cps_append]
def rP(c1 c2:Str)(turn k:Nat):(dS c1 c2 turn k).length=c1.length+1+c2.length+k % 2+k / 26:=by unfold dS;rw[Str.length_append,Str.length_append,Str.length_append,Str.length_append,jb,jb,show(⟨#[tu (turn+7*k)]⟩:Str).length=1 from U,show(Str.ofString "x").length=1 from by decide +kernel,show(Str.ofString "y").length=1 from by decide +kernel];lia
def XY{a:List Nat}{x y:Nat}{b c:List Nat}(h:a++x::b=a++y::c):x=y:=by have:=ZA h;exact(List.cons.inj this).1
variable{turn:Nat}{j:Nat}
def Iv{k:Nat}(hk:k<52)(g:j<52)(h:tu (turn+7*k)=tu (turn+7*j)):k % 26=j % 26:=by
 have h':∀a:Fin 26,∀b:Fin 26,∀c:Fin 26,(a.val+7*b.val) % 26=(a.val+7*c.val) % 26->b=c:=bn;have e:∀k,(turn % 26+7*(k % 26)) % 26=(turn+7*k) % 26:=λk=>by rw[Nat.add_mod,Nat.mod_mod,Nat.mul_mod_mod,<- Nat.add_mod]
 have h:=Nat.add_left_cancel h;rw[<- e,<- e j]at h;exact congrArg Fin.val (h' (turn % 26,ae5 _ ad) (k % 26,ae5 _ ad) (j % 26,ae5 _ ad) h)
def FI:(kA "y" 1).cps.toList=[121]:=bn
def Bo(z:Str):(kA z 0).cps.toList=[]:=by simp[kA]
variable{c1:Str}{c2:Str}
def zm{k:Nat}(hk:k<52)(V:j<52)(P:k≠j){e f:Str}(he:e=Str.empty\/e="q")(hf:f=Str.empty\/f="q"):dS c1 c2 turn k++e≠dS c1 c2 turn j++f:=by
 intro h;have K:=by have:=congrArg (λz=>z.cps.toList) h;simpa [Str.cps_append]using this
 rw[wy,wy]at K;simp only[wI,List.cons_append]at K;have hm:=Iv hk V (XY K);have h1:k % 2=j % 2:=by rw[<- Nat.mod_mod_of_dvd k (by decide:2∣26),hm,Nat.mod_mod_of_dvd j (by decide:2∣26)]
 have hd:=(by decide +kernel:∀a b:Fin 52,a≠b->a.val % 26=b.val % 26->(a.val / 26=0/\b.val / 26=1)\/(a.val / 26=1/\b.val / 26=0)) (k,hk) (j,V) (λz=>P (congrArg Fin.val z)) hm;have tail:=(List.cons.inj (ZA K)).2;rw[h1]at tail;have g:=ZA (ZA tail);have eq:(Str.ofString "q").cps.toList=[113]:=bn;have ee:Str.empty.cps.toList=[]:=rfl;obtain⟨d1,Q⟩|⟨d1,Q⟩:=hd
 ·rw[d1,Q,Bo,FI]at g;obtain rfl|rfl:=he
  ·rw[ee]at g;simp at g
  rw[eq]at g;have:=congrArg List.head? g;simp at this
 rw[d1,Q,Bo,FI]at g;obtain rfl|rfl:=hf
 ·rw[ee]at g;simp at g
 rw[eq]at g;have:=congrArg List.head? g;simp at this
theorem nodup_range{f:Nat->Str}{n:Nat}(h:∀i j,i<n->j<n->i≠j->f i≠f j):((Fc n).map f).Nodup:=by rw[ab4,ZO];refine List.Pairwise.imp_of_mem ?_ (ab4.mp List.nodup_range);intro i j hi q g;exact h i j (ZQ.mp hi) (ZQ.mp q) g
variable{ws:Γ}
def Im{i:Nat}{w:Str}(h:ws.Nodup)(hw:w ∉ ws):(ws.set i w).Nodup:=by
 induction ws generalizing i with
 |nil=>simp|cons a r K =>
  let(h1,h2):=wh.mp h;have q:w≠a:=λz=>hw (by simp[z]);have g:=λz=>hw (j6 _ z);cases i with
  |zero=>exact wh.mpr (g,h2)|succ i =>
   refine wh.mpr (λz=>?_,K h2 g);obtain z|z:=ZW z
   ·exact h1 z
   exact q z.symm
end L2
namespace L2
open PySem
variable{ws:Γ}
def Qs{w:Str}(h:inV (.str w) (ws.map V.str)=ϊ):w ∉ ws:=λhm=>by
 unfold inV at h;rw[List.any_eq_false]at h;exact h (.str w) (nR.mpr (w,hm,U)) (show(w==w)=O from beq_self_eq_true w)
def wordOf(kept:Γ)(c1 c2:Str)(turn k:Nat):Str:=dS c1 c2 turn k++(if inV (.str (dS c1 c2 turn k)) (kept.map V.str)=O then("q":Str)else Str.empty)
variable{c1:Str}{c2:Str}{turn:Nat}{j:Nat}
def Hw{kept:Γ}{k:Nat}(hk:k<52)(q:j<52)(g:k≠j):wordOf kept c1 c2 turn k≠wordOf kept c1 c2 turn j:=by
 refine zm hk q g ?_ ?_
 ·split
  ·exact .inr U
  exact .inl U
 split
 ·exact .inr U
 exact .inl U
def Dm{kept:Γ}{k:Nat}(h1:c1.length<=5)(h2:c2.length<=5)(hk:k<52):1 <=(wordOf kept c1 c2 turn k).length/\(wordOf kept c1 c2 turn k).length<=20:=by unfold wordOf;rw[Str.length_append,rP];have l0:Str.empty.length=0:=rfl;have g:(Str.ofString "q").length=1:=bn;split <;> lia
end L2
namespace L2
open PySem PySem.Spec PyProof.Rows
abbrev Mk1:=Str×Γ
abbrev Kd:=Str×List Mk1
abbrev ϕ:=List Kd
def ja(ks:List Kd)(k:Str):List Mk1:=match ks.find? (λx=>decide (x.1=k))with|some x=>x.2|none=>[]
variable{ks:List Kd}
def Gb{k:Str}{i:Nat}{x:Kd}(h:ks[i]?=Z x)(hx:x.1=k)(hn:∀(j:Nat)(y:Kd),j<i->ks[j]?=Z y->y.1≠k):ja ks k=x.2:=by induction ks generalizing i with|nil=>simp at h|cons a r g =>cases i with|zero =>simp at h;subst h;simp[ja,hx]|succ i =>have h0:=hn 0 a bd ba;have z:=g (h:) λj y K q=>hn (j+1) y bd (q:);unfold ja at z ⊢;rw[Fs,decide_eq_false h0];exact z
def P4{k:Str}(hn:∀(j:Nat)(y:Kd),ks[j]?=Z y->y.1≠k):ja ks k=[]:=by unfold ja;rw[List.find?_eq_none.mpr];intro x hx;let(j,g,U):=List.mem_iff_getElem.mp hx;have:=hn j ks[j] ba;simpa using this
variable{it:J}{items:Array B}{Q:Φ}{h':Ev}{tp:Bool}{l:J}{z:J}{i1:J}{i2:J}{l1:J}{l2:J}{t1:Bool}{t2:Bool}{k1:Nat}{k2:Nat}{xs:Array B}{ys:Array B}
section
variable{prog:Db}{w:Da}{A:Do}{E:Φ}{s:ϋ}
theorem xC{t:J}{i:Nat}{x:B}(hit:s.heap.IsTupleIter it t i)(z:s.heap.IsTuple t items)(hx:items[i]?=Z x)
  (P:∀h',h'.IsTupleIter it t (i+1)->ZT it s.heap h'->Q x {s with heap:=h'}):wpAny (model prog w) A (Builtin.SmallTypes.nextOf (.ref it)) Q E s:=by
 let(o,ho,K,hd):=id hit;let(ol,g,_,nl,q):=z;refine eB (wpAny_callSpecial?_slot hit.typeIs F.slot_tuple_iterator_next
(Js F.slot_tuple_iterator_next hit.typeIs F.entry_tuple_iterator_next ?_ (F.args_tuple_iterator_next_1 _)))
 show wpAny _ _ (field (.ref it) 0 >>= _) _ _ s;refine eB (wpAny_field ho hd U (eB (wpAny_field ho hd U (eB (wpAny_seqItems g q ?_)))));simp only[ab9,hx];refine eB (Z9 ho hd ba (nT (x,U,nT (P _ ?_ (Heap.SameBut.update ..)))));exact(_,wJ _ ho (ZM (YJ hd _)),(Obj.cls_mapFields ..).trans K,by
  rw[YJ hd];simp[rawInt])
theorem Ae{t:J}{i:Nat}(K:A.handled=Y)(hit:s.heap.IsTupleIter it t i)(z:s.heap.IsTuple t items)(hx:items[i]?=Y)
  (hE:∀h' e,af0 it s.heap h'->(∃o,h'.get? e=Z o/\o.cls=.type "StopIteration")->E (.ref e) {s with heap:=h'}):wpAny (model prog w) A (Builtin.SmallTypes.nextOf (.ref it)) Q E s:=by
 let(o,ho,P,hd):=id hit;let(ol,g,_,nl,q):=z;refine eB (wpAny_callSpecial?_slot hit.typeIs F.slot_tuple_iterator_next
(Js F.slot_tuple_iterator_next hit.typeIs F.entry_tuple_iterator_next ?_ (F.args_tuple_iterator_next_1 _)))
 show wpAny _ _ (field (.ref it) 0 >>= _) _ _ s;refine eB (wpAny_field ho hd U (eB (wpAny_field ho hd U (eB (wpAny_seqItems g q ?_)))));simp only[ab9,hx];refine eB (ZI (eB (Z9 ho hd ba (eB (eB (m:=firstArgMember _ _) (wpAny_of_eq be (ZP (eB (wpAny_handled ?_)) (by size_fits))))))));rw[K];exact eB (nT (wpAny_throw (hE _ _ (((Heap.SameBut.update ..).extBut.push _).push _) (_,px _ U,U))))
def aR(h:Ev)(tp:Bool)(it l:J)(k:Nat):Prop:=if tp=O then h.IsTupleIter it l k else h.IsListIter it l k
def bg(h:Ev)(tp:Bool)(l:J)(items:Array B):Prop:=if tp=O then h.IsTuple l items else h.IsList l items
def aR.at{h:Ev}{k:Nat}(x:aR h tp it l k)(e:∀o,h.get? it=Z o->h'.get? it=Z o):aR h' tp it l k:=by cases tp with|true=>let(o,ho,r):=(x);exact((o,e o ho,r))|false=>let(o,ho,r):=(x);exact((o,e o ho,r))
def bg.at{h:Ev}(x:bg h tp l items)(e:∀o,h.get? l=Z o->h'.get? l=Z o):bg h' tp l items:=by cases tp with|true=>let(o,ho,r):=(x);exact((o,e o ho,r))|false=>let(o,ho,r):=(x);exact((o,e o ho,r))
def aR.obj{h:Ev}{k:Nat}(x:aR h tp it l k):∃o,h.get? it=Z o/\∀v,o.data ≠ .cell v:=by cases tp with|true=>let(o,ho,_,hd):=(x);exact(o,ho,λv=>by rw[hd];simp)|false=>let(o,ho,_,hd):=(x);exact(o,ho,λv=>by rw[hd];simp)
def next_item{i:Nat}{x:B}(hit:aR s.heap tp it l i)(hl:bg s.heap tp l items)(hx:items[i]?=Z x)
  (g:∀h',aR h' tp it l (i+1)->ZT it s.heap h'->Q x {s with heap:=h'}):wpAny (model prog w) A (Builtin.SmallTypes.nextOf (.ref it)) Q E s:=by
 cases tp with|true=>exact xC hit hl hx g|false=>exact wpAny_nextOf_list_item hit hl hx g
def next_end{i:Nat}(g:A.handled=Y)(hit:aR s.heap tp it l i)(hl:bg s.heap tp l items)(hx:items[i]?=Y)
  (hE:∀h' e,af0 it s.heap h'->(∃o,h'.get? e=Z o/\o.cls=.type "StopIteration")->E (.ref e) {s with heap:=h'}):wpAny (model prog w) A (Builtin.SmallTypes.nextOf (.ref it)) Q E s:=by
 cases tp with|true=>exact Ae g hit hl hx hE|false=>exact wpAny_nextOf_list_end g hit hl hx hE
theorem A5{TI TO:J}{x y a b:B}{Q:Option B->ϋ->Prop}(D:ZipApart z TI TO i1 i2 l1 l2)
  (hz:IsZip s.heap z TI TO .none) (cx:IsPair s.heap TI (.ref i1) (.ref i2)) (cw:IsPair s.heap TO a b)
  (h1:aR s.heap t1 i1 l1 k1) (h2:aR s.heap t2 i2 l2 k2) (ct:bg s.heap t1 l1 xs) (cb:bg s.heap t2 l2 ys) (hx:xs[k1]?=Z x) (hy:ys[k2]?=Z y)
  (hQ:∀h',IsZip h' z TI TO (rawInt s.heap.objs.size)->IsPair h' TO x y->aR h' t1 i1 l1 (k1+1)->aR h' t2 i2 l2 (k2+1)->IsPair h' s.heap.objs.size x y->h'.objs.size=s.heap.objs.size+1 ->
(∀c o,c≠z->c≠TO->c≠i1->c≠i2->s.heap.get? c=Z o->h'.get? c=Z o)->Q (Z (.ref s.heap.objs.size)) {s with heap:=h'}):
  wpAny (model prog w) A (pyNext (.ref z)) Q E s:=by
 have hT:s.TypeIs (.ref z) "zip":=(_,hz,U);unfold pyNext;refine eB (ZX (wpAny_callSpecial?_slot hT F.slot_zip_next
(Js F.slot_zip_next hT F.entry_zip_next ?_ (F.args_zip_next_1 _))))
 show wpAny _ _ (field (.ref z) 2 >>= _) _ _ _;refine eB (wpAny_field hz U (x:=.bool ϊ) U ?_);refine eB (wpAny_field hz U (x:=.ref TI) U ?_);refine eB (wpAny_seqItems cx U ?_);refine eB ?_;refine eB (wpAny_field hz U (x:=.none) U (nT ?_));simp only[if_true];refine eB (ZI ?_);refine eB (wpAny_field hz U (x:=.ref TO) U ?_);refine eB (wpAny_setField_rec hz ba λh₁ a6 g=>?_);refine eB ?_;simp only[List.zipIdx_cons,List.zipIdx_nil,Z0,List.forIn_nil];refine eB (eB (wpAny_onRaise ?_));refine eB (next_item (h1.at λo e=>g.extBut _ o D.i1z e) (ct.at λo e=>g.extBut _ o D.l1z e) hx λbT bP P=>nT ?_);have Mv:IsPair bT TO a b:=P.extBut _ _ D.TOi1 (g.extBut _ _ D.TOz cw);refine eB (wpAny_seqItems Mv U ?_);refine eB (wpAny_updateSeq_pair Mv λcA XG K=>?_);refine eB (wpAny_letGo (nT ?_));refine eB (eB (wpAny_onRaise ?_));refine eB (next_item (h2.at λo e=>K.extBut _ o D.TOi2.symm (P.extBut _ o D.i12.symm (g.extBut _ o D.i2z e)))
(cb.at λo e=>K.extBut _ o D.l2TO (P.extBut _ o D.l2i1 (g.extBut _ o D.l2z e))) hy λbQ bA ak=>nT ?_)
 have XF:IsPair bQ TO x b:=ak.extBut _ _ D.TOi2 XG;refine eB (wpAny_seqItems XF U ?_);refine eB (wpAny_updateSeq_pair XF λq Qz V=>?_);replace Qz:IsPair q TO x y:=Qz;refine eB (wpAny_letGo (nT (nT ?_)));refine eB (wpAny_seqItems Qz U ?_);refine eB (wpAny_newTuple ?_);have hsz:q.objs.size=s.heap.objs.size:=by rw[V.1,ak.1,K.1,P.1,g.1]
 have a0:IsZip q z TI TO .ellipsis:=V.extBut _ _ D.TOz.symm (ak.extBut _ _ D.i2z.symm (K.extBut _ _ D.TOz.symm (P.extBut _ _ D.i1z.symm a6)));have a9:∀c o,c≠z->c≠TO->c≠i1->c≠i2->s.heap.get? c=Z o->q.get? c=Z o:=λc o c1 c2 c3 c4 e =>
  V.extBut _ _ c2 (ak.extBut _ _ c4 (K.extBut _ _ c2 (P.extBut _ _ c3 (g.extBut _ _ c1 e))))
 have bG:=bP.at λo e=>V.extBut _ o D.TOi1.symm (ak.extBut _ o D.i12 (K.extBut _ o D.TOi1.symm e));have bc:=bA.at λo e=>V.extBut _ o D.TOi2.symm e;have Xt:z<q.objs.size:=kf a0;refine eB ?_;have a5:IsZip (q.push {cls:=.type "tuple",data:=.seq #[x,y]}) z TI TO .ellipsis:=gi _ a0;refine eB (wpAny_setField_rec a5 ba λcy a4 aF=>?_);refine wpAny_setField_rec a4 ba λaK aW ar=>?_;have up:∀c o,c≠z->q.get? c=Z o->aK.get? c=Z o:=λc o c1 e=>ar.extBut _ _ c1 (aF.extBut _ _ c1 (gi _ e));have a3:IsPair aK q.objs.size x y:=ar.extBut _ _ (Fq Xt) (aF.extBut _ _ (Fq Xt) (px _ U));have b0:aK.objs.size=q.objs.size+1:=by rw[ar.1,aF.1,yg]
 rw[hsz]at aW a3 b0;refine nT (_,U,nT ?_);rw[hsz];exact hQ aK aW (up _ _ D.TOz Qz) (bG.at λo e=>up _ o D.i1z e) (bc.at λo e=>up _ o D.i2z e) a3 b0 λc o c1 c2 c3 c4 e=>up c o c1 (a9 c o c1 c2 c3 c4 e)
theorem Fo{TI TO:J}{a b:B}{Q:Option B->ϋ->Prop}(hh:A.handled=Y)(D:ZipApart z TI TO i1 i2 l1 l2)
  (hz:IsZip s.heap z TI TO .none) (bA:IsPair s.heap TI (.ref i1) (.ref i2)) (bc:IsPair s.heap TO a b)
  (h1:aR s.heap t1 i1 l1 k1) (h2:aR s.heap t2 i2 l2 k2) (a6:bg s.heap t1 l1 xs) (a9:bg s.heap t2 l2 ys) (vV:xs[k1]?=Y\/ys[k2]?=Y)
  (hQ:∀h',(∀c o,c≠z->c≠TO->c≠i1->c≠i2->s.heap.get? c=Z o->h'.get? c=Z o)->Q Y {s with heap:=h'}):wpAny (model prog w) A (pyNext (.ref z)) Q E s:=by
 have hT:s.TypeIs (.ref z) "zip":=(_,hz,U);have fin:∀h' e,(∀c o,c≠z->c≠TO->c≠i1->c≠i2->s.heap.get? c=Z o->h'.get? c=Z o)->(∃ o,h'.get? e=Z o/\o.cls=.type "StopIteration") ->
   wpAny (model prog w) A (do if <- isInstance (.ref e) (.type "StopIteration")then pure Y else throw (.ref e)) Q E {s with heap:=h'}:=λh' e hk he=>by
  let(o,ho,hc):=he;refine eB (ZV (o,ho,hc) isSubtype_stop ?_);exact nT (hQ _ hk)
 refine eB (ZX (wpAny_callSpecial?_slot hT F.slot_zip_next
(Js F.slot_zip_next hT F.entry_zip_next ?_ (F.args_zip_next_1 _))))
 show wpAny _ _ (field (.ref z) 2 >>= _) _ _ _;refine eB (wpAny_field hz U (x:=.bool ϊ) U (eB (wpAny_field hz U U (eB (wpAny_seqItems bA U (eB (eB (wpAny_field hz U U (nT (eB (ZI (eB (wpAny_field hz U (x:=.ref TO) U (eB (wpAny_setField_rec hz ba λh₁ ar g=>(eB ?_))))))))))))))));simp only[List.zipIdx_cons,List.zipIdx_nil,Z0,List.forIn_nil];refine eB (eB (wpAny_onRaise ?_));cases hx:xs[k1]? with
 |none =>
  refine eB (next_end hh (h1.at λo e=>g.extBut _ o D.i1z e) (a6.at λo e=>g.extBut _ o D.l1z e) hx λa5 e q he=>?_);let(oe,P,aW):=he;have ak:=q _ _ D.i1z.symm ar;have a3:e≠z:=λx=>by subst x;rw[ak]at P;cases P;simp at aW
  refine wpAny_setField_rec ak ba λa0 _ K=>fin a0 e (λc o c1 _ c3 _ x=>K.extBut _ _ c1 (q _ _ c3 (g.extBut _ _ c1 x))) (oe,K.extBut _ _ a3 P,aW)
 |some x =>
  have hy:ys[k2]?=none:=by obtain h|h:=vV;rw[hx]at h;cases h;exact h
  refine eB (next_item (h1.at λo e=>g.extBut _ o D.i1z e) (a6.at λo e=>g.extBut _ o D.l1z e) hx λa5 bG q=>nT ?_);have Mv:=q.extBut _ _ D.TOi1 (g.extBut _ _ D.TOz bc);refine eB (wpAny_seqItems Mv U (eB (wpAny_updateSeq_pair Mv λa0 XG K=>(eB (wpAny_letGo (nT (eB (eB (wpAny_onRaise ?_)))))))));refine eB (next_end hh (h2.at λo e=>K.extBut _ o D.TOi2.symm (q.extBut _ o D.i12.symm (g.extBut _ o D.i2z e)))
(a9.at λo e=>K.extBut _ o D.l2TO (q.extBut _ o D.l2i1 (g.extBut _ o D.l2z e))) hy λbP e aK he=>?_)
  let(oe,P,aW):=he;have V:=aK _ _ D.i2z.symm (K.extBut _ _ D.TOz.symm (q.extBut _ _ D.i1z.symm ar));have a3:e≠z:=λx=>by subst x;rw[V]at P;cases P;simp at aW
  refine wpAny_setField_rec V ba λa4 _ aF=>fin a4 e (λc o c1 c2 c3 c4 x=>aF.extBut _ _ c1 (aK _ _ c4 (K.extBut _ _ c2 (q.extBut _ _ c3 (g.extBut _ _ c1 x))))) (oe,aF.extBut _ _ a3 P,aW)
end
def nM(ks:List Kd):Γ:=ks.flatMap λk=>k.2.flatMap (·.2)
def Aw(ks:List Kd)(k:Str):Γ:=(ja ks k).flatMap (·.2)
inductive Reach(ks:List Kd)(a:Str):Str->Prop where
 |here:Reach ks a a|step{b c:Str}:Reach ks a b->c∈Aw ks b->Reach ks a c
variable{ws:Γ}
def fg{w:Str}:inV (.str w) (ws.map V.str)=O ↔ w∈ws:=by
 constructor
 ·intro h;by_cases hm:w∈ws
  ·exact hm
  exfalso;unfold inV at h;rw[Tf]at h;let(x,hx,e):=h;let(z,g,U):=nR.mp hx;have:=eq_of_beq (e);exact hm (this▸g)
 intro h;unfold inV;rw[Tf];exact(.str w,nR.mpr (w,h,U),beq_self_eq_true w)
def L3{k:Str}:ja ks k=[]\/∃x∈ks,ja ks k=x.2/\x.1=k:=by unfold ja;cases e:ks.find? (λx=>decide (x.1=k))with|none=>exact .inl U|some x=>exact .inr (x,List.mem_of_find?_eq_some e,U,by have z:=List.find?_some e;simpa using z)
def Cg{k f:Str}(h:f∈Aw ks k):f∈nM ks:=by
 unfold Aw at h;obtain e |⟨x,hx,e,_⟩:=L3
 ·rw[e]at h;simp at h
 rw[e]at h;exact ZC.mpr (x,hx,h)
def un(ϊ rs:Γ):Nat:=(ϊ.filter λu=>decide (u ∉ rs)).length
variable{rs:Γ}
def Wm{ϊ:Γ}:un ϊ rs<=ϊ.length:=List.length_filter_le _ _
theorem Gs{p q:Str->Bool}(g:∀x,q x=O->p x=O):∀ys:Γ,(ys.filter q).length <=(ys.filter p).length
 |[]=>mz _|u::ys=>by
  have z:=Gs g ys;cases hq:q u with|true =>rw[Mt hq,Mt (g u hq)];simp only[tZ];lia|false =>rw[V2 (by rw[hq];decide)];cases hp:p u with|true=>rw[Mt hp];simp only[tZ];lia|false=>rw[V2 (by rw[hp];decide)];exact z
theorem Gr{p q:Str->Bool}{f:Str}(K:∀x,q x=O->p x=O)(hp:p f=O)(hq:q f=ϊ):∀ys:Γ,f∈ys->(ys.filter q).length+1 <=(ys.filter p).length
 |[],h=>by simp at h|u::ys,h=>by
  by_cases e:u=f
  ·subst e;have z:=Gs K ys;rw[V2 (by rw[hq];decide),Mt hp];simp only[tZ];lia
  have z:=Gr K hp hq ys (by
   obtain h|h:=lb.mp h
   ·exact absurd h.symm e
   exact h)
  cases g:q u with|true =>rw[Mt g,Mt (K u g)];simp only[tZ];lia|false =>rw[V2 (by rw[g];decide)];cases P:p u with|true=>rw[Mt P];simp only[tZ];lia|false=>rw[V2 (by rw[P];decide)];exact z
def Fv{ϊ:Γ}{f:Str}(hf:f∈ϊ)(hn:f ∉ rs):un ϊ (rs++[f])+1<=un ϊ rs:=by refine Gr (λx hx=>?_) (decide_eq_true hn) (decide_eq_false ba) ϊ hf;have hx:=of_decide_eq_true hx;exact decide_eq_true λz=>hx (lN.mpr (.inl z))
def marks(rs:Γ):Ϗ:=rs.map λs=>(.inr s,.bl O)
structure RS(ks:List Kd)(k here:Str)(done rs W:Γ)(c:Nat):Prop where
 ki:k∈rs
 w:∀r∈W,r∈rs
 hi:here∈rs
 re:∀r∈rs,Reach ks k r
 cl:∀r∈rs,r ∉ W->r=here\/∀f∈Aw ks r,f∈rs
 dn:∀f∈done,f∈rs
 sz:rs.length+un (nM ks) rs <=(nM ks).length+1
 sw:W.length<=rs.length
 m:2*un (nM ks) rs+W.length<c
variable{here:Str}{done:Γ}
def RS.old{k f:Str}{W:Γ}{c:Nat}(R:RS ks k here done rs W c)(hf:f∈rs):RS ks k here (done++[f]) rs W c:=
 (R.ki,R.w,R.hi,R.re,R.cl,λg hg=>(lN.mp hg).elim (R.dn g) λh=>by rw[fy.mp h];exact hf,R.sz,R.sw,R.m)
def RS.new{k f:Str}{W:Γ}{c:Nat}(R:RS ks k here done rs W c)(hn:f ∉ rs)(hf:f∈Aw ks here):RS ks k here (done++[f]) (rs++[f]) (W++[f]) c where
 ki:=lN.mpr (.inl R.ki)
 w:=λr hr=>by
  obtain h|h:=lN.mp hr
  ·exact lN.mpr (.inl (R.w r h))
  exact lN.mpr (.inr h)
 hi:=lN.mpr (.inl R.hi)
 re:=λr hr=>by
  obtain h|h:=lN.mp hr
  ·exact R.re r h
  rw[fy.mp h];exact .step (R.re _ R.hi) hf
 cl:=λr hr hw=>by
  obtain h|h:=lN.mp hr
  ·obtain e|e:=R.cl r h (λz=>hw (lN.mpr (.inl z)))
   ·exact .inl e
   exact .inr λg hg=>lN.mpr (.inl (e g hg))
  exact absurd (lN.mpr (.inr h)) hw
 dn:=λg hg=>by
  obtain h|h:=lN.mp hg
  ·exact lN.mpr (.inl (R.dn g h))
  exact lN.mpr (.inr h)
 sz:=by have:=Fv (Cg hf) hn;have:=R.sz;simp only[g5,yd];lia
 sw:=by have:=R.sw;simp only[g5];lia
 m:=by have:=Fv (Cg hf) hn;have:=R.m;simp only[g5,yd];lia
structure RWt(ks:List Kd)(k:Str)(rs W:Γ):Prop where
 ki:k∈rs
 w:∀r∈W,r∈rs
 re:∀r∈rs,Reach ks k r
 cl:∀r∈rs,r ∉ W->∀f∈Aw ks r,f∈rs
 sz:rs.length+un (nM ks) rs <=(nM ks).length+1
 sw:W.length<=rs.length
def RWt.pop{k:Str}{W:Γ}(R:RWt ks k rs (W++[here])):RS ks k here [] rs W (2*un (nM ks) rs+(W++[here]).length) where
 ki:=R.ki
 w:=λr hr=>R.w r (lN.mpr (.inl hr))
 hi:=R.w _ ba
 re:=R.re
 cl:=λr hr hw=>by
  by_cases e:r=here
  ·exact .inl e
  exact .inr (R.cl r hr (by simp[hw,e]))
 dn:=λf hf=>by simp at hf
 sz:=R.sz
 sw:=by have:=R.sw;simp only[g5,yd]at this;lia
 m:=by simp
def RS.fin{k:Str}{W:Γ}{c:Nat}(R:RS ks k here done rs W c)(hd:done=Aw ks here):RWt ks k rs W where
 ki:=R.ki
 w:=R.w
 re:=R.re
 sz:=R.sz
 sw:=R.sw
 cl:=λr hr hw=>by
  obtain e|e:=R.cl r hr hw
  ·subst e;subst hd;exact R.dn
  exact e
def RWt.all{k:Str}(R:RWt ks k rs []){s:Str}:s∈rs ↔ Reach ks k s:=by refine(R.re s,λh=>?_);induction h with|here=>exact R.ki|step _ q g=>exact R.cl _ g ba _ q
def RWt.start{k:Str}:RWt ks k [k] [k] where
 ki:=by simp
 w:=λr h=>h
 re:=λr h=>by rw[fy.mp h];exact .here
 cl:=λr h n=>absurd h n
 sz:=by have:=Wm (ϊ:=nM ks) (rs:=[k]);simp;lia
 sw:=mz _
def qH{α:Type}{β:Type}{xs:List α}{f:α->List β}{i:Nat}{c:α}(h:xs[i]?=Z c):(xs.take i).flatMap f++f c=(xs.take (i+1)).flatMap f:=by rw[rr,h];simp
open Classical in
noncomputable def iR(ks:List Kd)(k:Str)(xs:List Kd):Γ:=xs.flatMap λx=>if Reach ks k x.1 then x.2.map (·.1)else []
def Jz{k:Str}{xs:List Kd}{i:Nat}{x:Kd}(h:xs[i]?=Z x)(hr:Reach ks k x.1):iR ks k (xs.take (i+1))=iR ks k (xs.take i)++x.2.map (·.1):=by unfold iR;rw[<- qH h,if_pos hr]
def NZ{k:Str}{xs:List Kd}{i:Nat}{x:Kd}(h:xs[i]?=Z x)(hr:¬ Reach ks k x.1):iR ks k (xs.take (i+1))=iR ks k (xs.take i):=by unfold iR;rw[<- qH h,if_neg hr,pq]
def Reach.trans{a b c:Str}(h1:Reach ks a b)(h2:Reach ks b c):Reach ks a c:=by induction h2 with|here=>exact h1|step _ h g=>exact .step g h
variable{X:Cx}{gd:Ξ}{H:Hp}{t':Nat}{fp:Θ}
def Inv.t6{σ:St}{s:ϋ}(I:Inv X gd σ H s)(k:∀b o,b ∉ fp->s.heap.get? b=Z o->h'.get? b=Z o)(hf:∀b∈fp,wL X gd H b):
  Inv X gd σ H {s with heap:=h',toks:=t'}:=by
 have K:∀b u,H b=Z u->b ∉ fp:=λb u e z=>by
  have:=(hf b z).1;rw[e]at this;cases this
 refine I.step (λb P=>?_) (λb o _ _ g e _=>k b o g e) (λb o _ _ g e _=>(o.slots,k b o g e)) (λ_ _ _ _ n=>n)
  (λb o g e=>(o,k b o g e)) (λ_ _ e=>e) (λ_ _ _ e=>e) (λb ps e=>(#[],by rw[e];simp)) (λm hm=>?_) (λb u e=>?_) I.bare
 ·let(f0,f1,f2,V,f4,Q):=hf b P;exact(V,f1,f4,Q)
 ·let(o,es,ep,ho,r):=hm;exact(o,es,ep,k _ o (λz=>(hf _ z).2.1 U) ho,r)
 refine(I.hok b u e).dO (λc v g q=>k c v ?_ q) (λ_ q=>q) λ_ _ q=>q;obtain z|z:=g
 ·rw[z];exact K b u e
 exact K c _ z
def SqB(K:Ch)(tp:Bool)(H:Hp)(a:J)(xs:Ω):Prop:=if tp=O then SqT K H a xs else SqL K H a xs
variable{a:J}
def Inv.uW{σ:St}{s:ϋ}{xs:Ω}(I:Inv X gd σ H s)(h:SqB X.K tp H a xs):∃its:Δ,Vals xs its/\bg s.heap tp a its.toArray/\xs.length<=lK:=by cases tp with|true =>let(its,r,p,z):=I.tuple (h);exact(its,r,(p),z)|false =>let(its,r,p,z):=I.list (h);exact(its,r,p.isList,z)
def Inv.uV{σ:St}{s:ϋ}{xs ys:Ω}(I:Inv X gd σ H s)(h:SqB X.K tp H a xs)(h2:SqB X.K tp H a ys):xs=ys:=by cases tp with|true=>exact I.yl (h) (h2)|false=>exact I.BY (h) (h2)
def Itz(K:Ch)(t1 t2:Bool)(l1 l2:J):It:=
 (λi H=>∃xs ys x y,SqB K t1 H l1 xs/\SqB K t2 H l2 ys/\xs[i]?=Z x/\ys[i]?=Z y,
λi H v H'=>∃(p:J)(x y:V),H p=Y/\v=.ref p/\H'=upd H p (.tup [x,y])/\(∀xs,SqB K t1 H l1 xs->xs[i]?=Z x)/\∀ys,SqB K t2 H l2 ys->ys[i]?=Z y,
λi H=>∃xs ys,SqB K t1 H l1 xs/\SqB K t2 H l2 ys/\(xs.length<=i\/ys.length<=i))
variable{P:Db}{elts:List EQ}
theorem JJ{w:Da}{K:Ch}{x1}{pos:Pos}(z TI TO i1 i2 l1 l2:J)(D:ZipApart z TI TO i1 i2 l1 l2):
  Turn P w K (.Tuple elts x1 pos) (Itz K t1 t2 l1 l2) [z,TI,TO,i1,i2] z (λi h=>IsZip h z TI TO .none/\IsPair h TI (.ref i1) (.ref i2)/\(∃a b,IsPair h TO a b)/\aR h t1 i1 l1 i/\aR h t2 i2 l2 i) where
 mem:=by simp
 obj:=by
  rintro i h ⟨h1,h2,⟨a,b,h3⟩,h4,h5⟩ c V;simp only[lb,xQ,or_false]at V;obtain rfl|rfl|rfl|rfl|rfl:=V
  ·exact(_,h1,λv e=>by cases e)
  ·exact(_,h2,λv e=>by cases e)
  ·exact(_,h3,λv e=>by cases e)
  ·exact h4.obj
  exact h5.obj
 keep:=by rintro i h h' ⟨h1,h2,⟨a,b,h3⟩,h4,h5⟩ k;exact(k z ba _ h1,k TI ba _ h2,(a,b,k TO ba _ h3),h4.at λo e=>k i1 ba o e,h5.at λo e=>k i2 ba o e)
 item:=by
  intro X hP hw hK V i gd s σ H E I hf st hg;subst hP hw hK;let(h1,h2,(a,b,h3),h4,h5):=st;let(xs,ys,x,y,q1,q2,e1,e2):=hg;let(Qo,Q,o1,z1):=I.uW q1;let(gh,q,o2,z2):=I.uW q2;let(u1,bc,aW):=Q.get e1;let(u2,a9,aK):=q.get e2;refine A5 D h1 h2 h3 h4 h5 o1 o2 (x:=u1) (y:=u2) (bc:) (a9:) λh' a6 XH YU YT bA YM ak=>(_,U,(wpAny_letOwnedTupleGo_zip a6 λaF YL Vv=>?_));have hn:=I.hok.fresh (mz s.heap.objs.size);have lz:=kf h1;have a5:=kf h2;have a4:=kf h3;let(bP,YZ,_):=h4.obj;let(bG,YY,_):=h5.obj;have a3:=kf YZ;have a0:=kf YY;have U2:∀b ∈ [z,TI,TO,i1,i2],b≠s.heap.objs.size:=λb g=>by
   simp only[lb,xQ,or_false]at g;obtain rfl|rfl|rfl|rfl|rfl:=g
   ·exact uj lz
   ·exact uj a5
   ·exact uj a4
   ·exact uj a3
   exact uj a0
  have up:∀c o,c≠z->h'.get? c=Z o->aF.get? c=Z o:=λc o V e=>Vv.extBut _ _ V e;have I1:Inv X gd σ (upd H s.heap.objs.size (.tup [x,y])) {s with heap:=s.heap.push {cls:=.type "tuple",data:=.seq #[u1,u2]}}:=
   I.laid (λb u e=>gi _ e) (mz _) (by show 2<=lK;decide,[u1,u2],.cons aW (.cons aK .nil),((_,px _ U,U,_,U),_,px _ U,U))
  have ar:∀b ∈ [z,TI,TO,i1,i2],wL X gd (upd H s.heap.objs.size (.tup [x,y])) b:=λb g=>by
   let(f0,r):=hf b g;exact(by rw[au (U2 b g)];exact f0,r)
  have I2:=by
   refine I1.t6 (h':=aF) (t':=s.toks) (λb o g e=>?_) ar;simp only[lb,xQ,or_false,not_or]at g;let(b1,b2,b3,b4,b5):=g;obtain⟨rfl,rfl⟩|e':=ad7 e
   ·exact up _ _ b1 bA
   exact up _ _ b1 (ak b o b1 b3 b4 b5 e')
  exact(.ref s.heap.objs.size,upd H s.heap.objs.size (.tup [x,y]),I2,U,(_,x,y,hn,U,U,λzs hz=>by rw[I.uV hz q1];exact e1,λzs hz=>by rw[I.uV hz q2];exact e2),((YL,up _ _ D.TIz (ak TI _ D.TIz D.TITO D.TIi1 D.TIi2 h2),(_,_,up _ _ D.TOz XH),YU.at λo e=>up _ _ D.i1z e,YT.at λo e=>up _ _ D.i2z e)),λb g=>(ar b g).1)
 done:=by
  intro X hP hw hK V i gd s σ H E I hf st hg;subst hP hw hK;let(h1,h2,(a,b,h3),h4,h5):=st;let(xs,ys,q1,q2,vV):=hg;let(Qo,Q,o1,z1):=I.uW q1;let(gh,q,o2,z2):=I.uW q2;have g1:=Q.length;have g2:=q.length;refine Fo (I.ok.hd V) D h1 h2 h3 h4 h5 o1 o2 ?_ λh' k=>(U,I.t6 (λb o g e=>?_) hf)
  ·obtain e|e:=vV
   ·simp;lia
   simp;lia
  simp only[lb,xQ,or_false,not_or]at g;exact k b o g.1 g.2.2.1 g.2.2.2.1 g.2.2.2.2 e
 self:=λ_ _ _ _ _ st h=>wpAny_pyIter_zip st.1 h
def itc(tp:Bool):String:=if tp=O then "tuple_iterator" else "list_iterator"
variable{prog:Db}{A:Do}{E:Φ}
def k7{w:Da}{s:ϋ}(h:bg s.heap tp l xs)
  (g:Q (.ref s.heap.objs.size) {s with heap:=s.heap.push {cls:=.type (itc tp),data:=.fields #[.ref l,.int 0 0]}}):wpAny (model prog w) A (pyIter (.ref l)) Q E s:=by
 cases tp with|true=>exact wpAny_pyIter_tuple (h) g|false=>exact wpAny_pyIter_list (h) g
abbrev zH1(t1:Bool)(h:Ev)(l1:J):Ev:=h.push {cls:=.type (itc t1),data:=.fields #[.ref l1,.int 0 0]}
abbrev zH2(t1 t2:Bool)(h:Ev)(l1 l2:J):Ev:=(zH1 t1 h l1).push {cls:=.type (itc t2),data:=.fields #[.ref l2,.int 0 0]}
abbrev zH3(t1 t2:Bool)(h:Ev)(l1 l2:J):Ev:=(zH2 t1 t2 h l1 l2).push {cls:=.type "tuple",data:=.seq #[.ref h.objs.size,.ref (zH1 t1 h l1).objs.size]}
abbrev zH4(t1 t2:Bool)(h:Ev)(l1 l2:J):Ev:=(zH3 t1 t2 h l1 l2).push {cls:=.type "tuple",data:=.seq #[.none,.none]}
abbrev zH5(t1 t2:Bool)(h:Ev)(l1 l2:J):Ev:=(zH4 t1 t2 h l1 l2).push {cls:=.type "zip",data:=.fields #[.none,.bool ϊ,.bool ϊ,.ref (zH2 t1 t2 h l1 l2).objs.size,.ref (zH3 t1 t2 h l1 l2).objs.size]}
def xF(t1 t2:Bool)(l1 l2:J)(xs ys:Array B):
  Meets (Builtin.«zip.__new__» ([.type "zip",.ref l1,.ref l2],[])) (λ_ R s=>bg s.heap t1 l1 xs/\bg s.heap t2 l2 ys /\
R (.ok (.ret (.ref (zH4 t1 t2 s.heap l1 l2).objs.size))) {s with heap:=zH5 t1 t2 s.heap l1 l2}):=
 .of_wp λprog w A R s h=>by
  let(hp,g,d,tk,os):=s;let(z,q,h):=h;have Q:=sub_zip;have P:=z;have K:bg (ϋ.heap (hp.push {cls:=.type (itc t1),data:=.fields #[.ref l1,.int 0 0]},g,d,tk,os)) t2 l2 ys:=q.at λo e=>gi _ e
  wp_walk using k7 P,k7 K
  exact(_,U,h)
def kG{h:Ev}(e:h.get? it=Z {cls:=.type (itc tp),data:=.fields #[.ref l,.int 0 0]}):aR h tp it l 0:=by cases tp with|true=>exact((_,e,U,U))|false=>exact((_,e,U,U))
theorem pR{prog:Db}{w:Da}{A:Do}{E:Φ}{s:ϋ}(P:bg s.heap t1 l1 xs)(K:bg s.heap t2 l2 ys)
  (h:∀h',IsZip h' (s.heap.objs.size+4) (s.heap.objs.size+2) (s.heap.objs.size+3) .none->IsPair h' (s.heap.objs.size+2) (.ref s.heap.objs.size) (.ref (s.heap.objs.size+1)) ->
IsPair h' (s.heap.objs.size+3) .none .none->aR h' t1 s.heap.objs.size l1 0->aR h' t2 (s.heap.objs.size+1) l2 0 ->
(∀c o,s.heap.get? c=Z o->h'.get? c=Z o)->Q (.ref (s.heap.objs.size+4)) {s with heap:=h'}):
  wpAny (model prog w) A (call (.type "zip") [.ref l1,.ref l2]) Q E s:=by
 refine callType_new F.called_zip ad (F.typeCall_zip_2 _ _) (F.newCall_zip_2 _ _) (λobj=>F.args_object_init_3 obj _ _) F.entry_zip_new
  (xF t1 t2 l1 l2 xs ys) (P,K,?_)
 have z:(zH1 t1 s.heap l1).objs.size=s.heap.objs.size+1:=yg ..;have q:(zH2 t1 t2 s.heap l1 l2).objs.size=s.heap.objs.size+2:=by rw[yg,z]
 have g:(zH3 t1 t2 s.heap l1 l2).objs.size=s.heap.objs.size+3:=by rw[yg,q]
 have z4:(zH4 t1 t2 s.heap l1 l2).objs.size=s.heap.objs.size+4:=by rw[yg,g]
 have V:(zH5 t1 t2 s.heap l1 l2).get? (zH4 t1 t2 s.heap l1 l2).objs.size=Z _:=px _ U;have g4:(zH5 t1 t2 s.heap l1 l2).get? (zH3 t1 t2 s.heap l1 l2).objs.size=Z _:=gi _ (px _ U);have g3:(zH5 t1 t2 s.heap l1 l2).get? (zH2 t1 t2 s.heap l1 l2).objs.size=Z _:=gi _ (gi _ (px _ U));have g2:(zH5 t1 t2 s.heap l1 l2).get? (zH1 t1 s.heap l1).objs.size=Z _:=gi _ (gi _ (gi _ (px _ U)));have g1:(zH5 t1 t2 s.heap l1 l2).get? s.heap.objs.size=Z _:=gi _ (gi _ (gi _ (gi _ (px _ U))));rw[q,g,z4]at V;rw[z,q]at g3;rw[g]at g4;rw[z]at g2;rw[z4];exact((_,V,U),h _ V g3 g4 (kG g1) (kG g2) λc o x =>
gi _ (gi _ (gi _ (gi _ (gi _ x)))))
def Vt(K:Ch)(t1 t2:Bool)(ta:TA):TI:=λσ H R=>ta σ H λvs H1=>∃l1 l2,vs=[.ref l1,.ref l2]/\(∃xs,SqB K t1 H1 l1 xs)/\(∃ys,SqB K t2 H1 l2 ys)/\R (Itz K t1 t2 l1 l2) H1
def bg.obj{h:Ev}(x:bg h tp l xs):∃o,h.get? l=Z o:=by cases tp with|true=>let(o,ho,_):=(x);exact(o,ho)|false=>let(o,ho,_):=(x);exact(o,ho)
variable{n:Nat}
def si{l1 l2:Nat}(h1:l1<n)(h2:l2<n):ZipApart (n+4) (n+2) (n+3) n (n+1) l1 l2:=by constructor <;>(lia)
variable{pos':Pos}{b:EQ}
def UG{x1}{a:EQ}{ta:TA}{p pos:Pos}(hg:Gl X "zip")(hm:X.mg "zip"=Y)(fW:bootBuiltins "zip"=Z (.type "zip"))(ha:PA X [a,b] ta)(hs:‹j7 [a,b] X.env=[(ϊ,eval a X.env),(ϊ,eval b X.env)]›)(g:‹AM X b›):
  PI X (.Tuple elts x1 pos') (.Call (.Name "zip" p) [a,b] [] pos) (Vt X.K t1 t2 ta):=by
 intro gd s σ H R I h;refine Call_ (gQ I hg hm fW (PyProof.Rows.callWith_type1 (thn (ha pos gd s σ H _ I h) λus s1 (vs,H1,P,r1,q1)=>?_) (by rw[hs,g]) (by rw[g];rfl)));let(l1,l2,e,(xs,q2),(ys,q3),q):=q1;subst e;let(u1,u2,U,V,Q):=vals2 r1;cases V;cases Q;let(Qo,a0,o1,z1):=P.uW q2;let(gh,aW,o2,z2):=P.uW q3;let(a4,e1):=o1.obj;let(a3,e2):=o2.obj;have g1:=kf e1;have g2:=kf e2;refine pR o1 o2 λh' hz aK aF ar ak hk=>wpAny_pyIter_zip hz ?_;refine(_,[s1.heap.objs.size+4,s1.heap.objs.size+2,s1.heap.objs.size+3,s1.heap.objs.size,s1.heap.objs.size+1],_,_,H1,U,P.kept hk,JJ _ _ _ _ _ l1 l2 ?_,(hz,aK,(_,_,aF),ar,ak),λc hc=>?_,q)
 ·exact si g1 g2
 have z:s1.heap.objs.size<=c:=by simp only[lb,xQ,or_false]at hc;obtain rfl|rfl|rfl|rfl|rfl:=hc <;> first|exact ac4 _ _|exact mz _
 exact P.MA z (P.hok.fresh z)
def HK{t:Nat}(h:ws.Nodup):(ws.drop t++ws.take t).Nodup:=
 (List.perm_append_comm).nodup_iff.mp (by rw[List.take_append_drop];exact h)
variable{d:J}
def qi.other{q:J}{o:HO}(D:qi H d l)(h1:q≠d)(h2:q≠l):qi (upd H q o) d l:=by let(s,n,ls,D):=D;exact(s,n,ls,by rw[au h1.symm];exact D.hd,by rw[au h2.symm];exact D.hl,D.s0,D.s1,D.n0,D.l0)
def names(ks:List Kd):Γ:=ks.flatMap λk=>k.2.map (·.1)
variable{x:Str}
def take_one{xs:Γ}{i:Nat}(h:xs[i]?=Z x):xs.take i++[x]=xs.take (i+1):=by rw[rr,h];rfl
variable{es:List EQ}
theorem oQ{K:Ch}{k:Nat}{pos:Pos}{t:TGs}(z:X.K=K)(q:X.calm=O)(h:PGs X es t)
  (hn:‹(assignEach es X.env).length=n›) (g:‹(assignEach es X.env).findIdx? (·.1)=none›):PG X (.Tuple es k pos) (QM K n t):=z▸UI q h hn g
abbrev rT(h:Ev)(z TI TO:J)(a:J)(f:Bool):Prop:=
 h.get? z=Z {cls:=.type "zip",dict:=Y,data:=.fields #[rawInt a,.bool f,.bool ϊ,.ref TI,.ref TO],slots:=#[]}
variable{oa:Obj}
section
variable{w:Da}{s:ϋ}
theorem BP{TI TO:J}{f:Bool}{Q:Bool->ϋ->Prop}(K:rT s.heap z TI TO a f)(ha:s.heap.get? a=Z oa)
  (V:∀h',rT h' z TI TO a O->ZT z s.heap h'->Q ϊ {s with heap:=h'}):wpAny (model prog w) A (Builtin.SmallTypes.ownedTupleIsFree (.ref z)) Q E s:=by
 refine eB (wpAny_field K U U ?_);refine eB (W.kdx_alive ha (eB (wpAny_field K U (x:=.bool f) U ?_)));cases f with|true =>exact nT (V _ K (Heap.SameBut.refl _ _))|false =>exact eB (wpAny_setField_rec K ba λP q g=>(nT (V _ q g)))
theorem NT{TI TO:J}{f:Bool}{x y:B}{Q:Option B->ϋ->Prop}(D:ZipApart z TI TO i1 i2 l1 l2)
  (hz:rT s.heap z TI TO a f) (ha:s.heap.get? a=Z oa) (aW:IsPair s.heap TI (.ref i1) (.ref i2))
  (h1:aR s.heap t1 i1 l1 k1) (h2:aR s.heap t2 i2 l2 k2) (aK:bg s.heap t1 l1 xs) (aF:bg s.heap t2 l2 ys) (hx:xs[k1]?=Z x) (hy:ys[k2]?=Z y)
  (hQ:∀h',rT h' z TI TO a O->aR h' t1 i1 l1 (k1+1)->aR h' t2 i2 l2 (k2+1)->IsPair h' s.heap.objs.size x y->h'.objs.size=s.heap.objs.size+1 ->
(∀c o,c≠z->c≠i1->c≠i2->s.heap.get? c=Z o->h'.get? c=Z o)->Q (Z (.ref s.heap.objs.size)) {s with heap:=h'}):
  wpAny (model prog w) A (pyNext (.ref z)) Q E s:=by
 have hT:s.TypeIs (.ref z) "zip":=(_,hz,U);refine eB (ZX (wpAny_callSpecial?_slot hT F.slot_zip_next
(Js F.slot_zip_next hT F.entry_zip_next ?_ (F.args_zip_next_1 _))))
 show wpAny _ _ (field (.ref z) 2 >>= _) _ _ _;refine eB (wpAny_field hz U (x:=.bool ϊ) U (eB (wpAny_field hz U U (eB (wpAny_seqItems aW U (eB (BP hz ha λh₁ V g=>?_)))))));simp only[ab5,if_false];rw[<- ae6];simp only[Z0];refine eB (eB (eB (Rw (eB (next_item (h1.at λo e=>g.extBut _ o D.i1z e) (aK.at λo e=>g.extBut _ o D.l1z e) hx λa0 ar q=>nT (nT (eB (eB (Rw (eB (next_item (h2.at λo e=>q.extBut _ o D.i12.symm (g.extBut _ o D.i2z e)) (aF.at λo e=>q.extBut _ o D.l2i1 (g.extBut _ o D.l2z e)) hy λP ak K=>nT (nT (nT ?_)))))))))))));show wpAny _ _ (newTuple [x,y] >>= _) _ _ _;refine eB (wpAny_newTuple ?_);have hsz:P.objs.size=s.heap.objs.size:=by rw[K.1,q.1,g.1]
 have up:∀c o,c≠z->c≠i1->c≠i2->s.heap.get? c=Z o->(P.push {cls:=.type "tuple",data:=.seq #[x,y]}).get? c=Z o:=λc o c1 c2 c3 e =>
  gi _ (K.extBut _ _ c3 (q.extBut _ _ c2 (g.extBut _ _ c1 e)))
 refine nT (_,U,nT ?_);rw[hsz];refine hQ _ (gi _ (K.extBut _ _ D.i2z.symm (q.extBut _ _ D.i1z.symm V))) ?_ ?_ ?_ ?_ up
 ·exact ar.at λo e=>gi _ (K.extBut _ o D.i12 e)
 ·exact ak.at λo e=>gi _ e
 ·rw[<- hsz];exact px _ U
 rw[yg,hsz]
theorem A3{TI TO:J}{f:Bool}{Q:Option B->ϋ->Prop}(hh:A.handled=Y)(D:ZipApart z TI TO i1 i2 l1 l2)
  (hz:rT s.heap z TI TO a f) (ha:s.heap.get? a=Z oa) (aK:IsPair s.heap TI (.ref i1) (.ref i2))
  (h1:aR s.heap t1 i1 l1 k1) (h2:aR s.heap t2 i2 l2 k2) (ak:bg s.heap t1 l1 xs) (aF:bg s.heap t2 l2 ys) (vV:xs[k1]?=Y\/ys[k2]?=Y)
  (hQ:∀h',(∀c o,c≠z->c≠i1->c≠i2->s.heap.get? c=Z o->h'.get? c=Z o)->Q Y {s with heap:=h'}):
  wpAny (model prog w) A (pyNext (.ref z)) Q E s:=by
 have hT:s.TypeIs (.ref z) "zip":=(_,hz,U);have fin:∀h' e,(∀c o,c≠z->c≠i1->c≠i2->s.heap.get? c=Z o->h'.get? c=Z o)->(∃ o,h'.get? e=Z o/\o.cls=.type "StopIteration") ->
   wpAny (model prog w) A (do if <- isInstance (.ref e) (.type "StopIteration")then pure Y else throw (.ref e)) Q E {s with heap:=h'}:=λh' e hk he=>by
  let(o,ho,hc):=he;exact eB (ZV (o,ho,hc) isSubtype_stop (nT (hQ _ hk)))
 refine eB (ZX (wpAny_callSpecial?_slot hT F.slot_zip_next
(Js F.slot_zip_next hT F.entry_zip_next ?_ (F.args_zip_next_1 _))))
 show wpAny _ _ (field (.ref z) 2 >>= _) _ _ _;refine eB (wpAny_field hz U (x:=.bool ϊ) U (eB (wpAny_field hz U U (eB (wpAny_seqItems aK U (eB (BP hz ha λh₁ ar g=>?_)))))));simp only[ab5,if_false];rw[<- ae6];simp only[Z0];refine eB (eB (eB (Rw ?_)));cases hx:xs[k1]? with
 |none =>exact eB (next_end hh (h1.at λo e=>g.extBut _ o D.i1z e) (ak.at λo e=>g.extBut _ o D.l1z e) hx λK e q he=>(fin K e (λc o c1 c2 _ x=>q _ _ c2 (g.extBut _ _ c1 x)) he))|some x =>
  have hy:ys[k2]?=none:=by obtain h|h:=vV;rw[hx]at h;cases h;exact h
  exact eB (next_item (h1.at λo e=>g.extBut _ o D.i1z e) (ak.at λo e=>g.extBut _ o D.l1z e) hx λK aW q=>nT (nT (eB (eB (Rw (eB (next_end hh (h2.at λo e=>q.extBut _ o D.i12.symm (g.extBut _ o D.i2z e)) (aF.at λo e=>q.extBut _ o D.l2i1 (g.extBut _ o D.l2z e)) hy λV e P he=>(fin V e (λc o c1 c2 c3 x=>P _ _ c3 (q.extBut _ _ c2 (g.extBut _ _ c1 x))) he))))))))
end
structure ZSt(h:Ev)(z TI TO i1 i2 l1 l2 S:J)(t1 t2:Bool)(i:Nat):Prop where
 ti:IsPair h TI (.ref i1) (.ref i2)
 s1:aR h t1 i1 l1 i
 s2:aR h t2 i2 l2 i
 st:(IsZip h z TI TO .none/\∃a b,IsPair h TO a b)\/∃(a:J)(f:Bool)(oa:Obj),rT h z TI TO a f/\h.get? a=Z oa/\a≠z/\a≠S/\a≠i1/\a≠i2
variable{S:J}
def ZSt.keep{h:Ev}{TI TO:J}{i:Nat}(x:ZSt h z TI TO i1 i2 l1 l2 S t1 t2 i)(k:∀b o,b≠S->h.get? b=Z o->h'.get? b=Z o)(Q:z≠S)(q:TI≠S)(g:TO≠S)(h1:i1≠S)(h2:i2≠S):ZSt h' z TI TO i1 i2 l1 l2 S t1 t2 i:=
 (k _ _ q x.ti,x.s1.at λo e=>k _ o h1 e,x.s2.at λo e=>k _ o h2 e,by
  obtain⟨e,a,b,K⟩|⟨a,f,oa,e,K,n1,P,V⟩:=x.st
  ·exact .inl (k _ _ Q e,a,b,k _ _ g K)
  exact .inr (a,f,oa,k _ _ Q e,k _ _ P K,n1,P,V))
structure ZG(xs ys:Array B)(lo:Nat)(h:Ev)(as:Θ):Prop where
 rise:as.Pairwise (· < ·)
 above:∀a∈as,lo<=a
 pairs:∀(j:Nat)(a:J),as[j]?=Z a->∃x y,xs[j]?=Z x/\ys[j]?=Z y/\IsPair h a x y
def ZG.there{lo:Nat}{h:Ev}{as:Θ}(g:ZG xs ys lo h as)(z:a∈as):a<h.objs.size:=by let(j,q):=List.mem_iff_getElem?.mp z;let(_,_,_,_,e):=g.pairs j a q;exact kf e
section
variable{w:Da}{s:ϋ}
def NN{E:Φ}{TI TO:J}{k:Nat}{x y:B}{Q:Option B->ϋ->Prop}(D:ZipApart z TI TO i1 i2 l1 l2)
  (st:ZSt s.heap z TI TO i1 i2 l1 l2 S t1 t2 k) (hS:S<s.heap.objs.size) (K:bg s.heap t1 l1 xs) (q:bg s.heap t2 l2 ys) (hx:xs[k]?=Z x) (hy:ys[k]?=Z y)
  (hQ:∀h',ZSt h' z TI TO i1 i2 l1 l2 S t1 t2 (k+1)->IsPair h' s.heap.objs.size x y->h'.objs.size=s.heap.objs.size+1 ->
(∀c o,c≠z->c≠TO->c≠i1->c≠i2->s.heap.get? c=Z o->h'.get? c=Z o)->Q (Z (.ref s.heap.objs.size)) {s with heap:=h'}):
  wpAny (model prog w) A (pyNext (.ref z)) Q E s:=by
 let(o1,g1,_):=st.s1.obj;let(o2,g2,_):=st.s2.obj;obtain⟨P,a,b,V⟩|⟨a,f,oa,P,ha,n1,n2,n3,n4⟩:=st.st
 ·refine A5 D P st.ti V st.s1 st.s2 K q hx hy λh' g XH e1 e2 hp hsz hk=>hQ h' (hk _ _ D.TIz D.TITO D.TIi1 D.TIi2 st.ti,e1,e2,.inr (s.heap.objs.size,ϊ,_,g,hp,?_,?_,?_,?_)) hp hsz hk
  ·exact Fq (kf P)
  ·exact Fq hS
  ·exact Fq (kf g1)
  exact Fq (kf g2)
 exact NT D P ha st.ti st.s1 st.s2 K q hx hy λh' g e1 e2 hp hsz hk=>hQ h' (hk _ _ D.TIz D.TIi1 D.TIi2 st.ti,e1,e2,.inr (a,O,oa,g,hk a oa n1 n3 n4 ha,n1,n2,n3,n4)) hp hsz λc o c1 _ c3 c4 e=>hk c o c1 c3 c4 e
def NO{TI TO:J}{k:Nat}{Q:Option B->ϋ->Prop}(hh:A.handled=Y)(D:ZipApart z TI TO i1 i2 l1 l2)
  (st:ZSt s.heap z TI TO i1 i2 l1 l2 S t1 t2 k) (q:bg s.heap t1 l1 xs) (g:bg s.heap t2 l2 ys) (V:xs[k]?=Y\/ys[k]?=Y)
  (hQ:∀h',(∀c o,c≠z->c≠TO->c≠i1->c≠i2->s.heap.get? c=Z o->h'.get? c=Z o)->Q Y {s with heap:=h'}):wpAny (model prog w) A (pyNext (.ref z)) Q E s:=by
 obtain⟨K,a,b,P⟩|⟨a,f,oa,K,ha,n1,n2,n3,n4⟩:=st.st
 ·exact Fo hh D K st.ti P st.s1 st.s2 q g V hQ
 exact A3 hh D K ha st.ti st.s1 st.s2 q g V λh' hk=>hQ h' λc o c1 _ c3 c4 e=>hk c o c1 c3 c4 e
def NP{R:Result->ϋ->Prop}{TI TO:J}{t1 t2:Bool}{lo:Nat}(hh:A.handled=Y)(D:ZipApart z TI TO i1 i2 l1 l2)(ar:z≠S)(EM:TI≠S)(Au:TO≠S)(a0:i1≠S)(aW:i2≠S)(EK:l1≠S)(EJ:l2≠S)
  (oS:S<lo) (oz:z<lo) (a3:TO<lo) (o1:i1<lo) (o2:i2<lo) (en:n=min xs.size ys.size) (hn:n<=lK) (res:B) {h₁:Ev}
  (hR:∀h' tk acc c as,(∀b o,b≠S->b≠z->b≠TO->b≠i1->b≠i2->h₁.get? b=Z o->h'.get? b=Z o)->h'.get? S=Z {cls:=.type "list",dict:=Y,data:=.seq acc c,slots:=#[]}->as.length=n->ZG xs ys lo h' as ->
acc.toList=as.map B.ref->R (.ok (.ret res)) {s with heap:=h',toks:=tk}):
  ∀(k i:Nat)(h:Ev)(tk c:Nat)(acc:Array B)(as:Θ),n-i=k->i<=n->ZSt h z TI TO i1 i2 l1 l2 S t1 t2 i->bg h t1 l1 xs->bg h t2 l2 ys->(∀b o,b≠S->b≠z->b≠TO->b≠i1->b≠i2->h₁.get? b=Z o->h.get? b=Z o) ->
   h.get? S=Z {cls:=.type "list",dict:=Y,data:=.seq acc c,slots:=#[]}->acc.toList=as.map B.ref->as.length=i->ZG xs ys lo h as->lo<=h.objs.size ->
   codeAny (model prog w) A (.builtin "list.extend.loop" ([.ref S,.ref z,res],[])) R {s with heap:=h,toks:=tk}:=by
 have ne:∀{a b:Nat},a<lo->lo<=b->b≠a:=λh1 h2=>bd;intro k;induction k with
 |zero =>
  intro i h tk c acc as hk hi aF ak V Mq hS kB K P aK;refine Z1 PySem.F.entry_extend_loop ?_;refine eB (NO (A:=A.in1) hh D aF ak V ?_ λh' he=>?_)
  ·by_cases q:xs.size<=i
   ·exact .inl (Z6 q)
   exact .inr (Z6 bd)
  refine nT (hR h' tk acc c as (λb o b1 b2 b3 b4 b5 e=>he b o b2 b3 b4 b5 (Mq b o b1 b2 b3 b4 b5 e)) (he S _ ar.symm Au.symm a0.symm aW.symm hS) bd (P.rise,P.above,λj a Q=>?_) kB);let(x,y,e1,e2,e3):=P.pairs j a Q;have ab:=P.above a (jk Q);exact(x,y,e1,e2,he a _ (ne oz ab) (ne a3 ab) (ne o1 ab) (ne o2 ab) e3)
 |succ k ih =>
  intro i h tk c acc as hk hi aF ak V Mq hS kB K P aK;have a4:=ad3 hk;have hm:=Nat.lt_min.mp (en▸a4);have hx:=ab6 hm.1;have hy:=ab6 hm.2;have hsz:acc.size=i:=by rw[<- Zz,kB,dN,K]
  refine Z1 PySem.F.entry_extend_loop ?_;refine eB (NN (S:=S) D aF (kf hS) ak V hx hy λh' Vu ht hz g=>?_);have a6:=g S _ ar.symm Au.symm a0.symm aW.symm hS;have up:∀b o,b≠S->h'.get? b=Z o->(h'.update S (Nj (·.push (B.ref h.objs.size)))).get? b=Z o:=λb o hb e=>(vr _ _ (Ne.symm hb)).trans e;have a5:=kf hS;refine eB ?_;refine Zu a6 U (nT (ZY PySem.F.plain_extend_loop _,ih (i+1) _ tk _ (acc.push (B.ref h.objs.size)) (as++[h.objs.size]) (by rw[Nat.sub_succ,hk];rfl) a4 (Vu.keep up ar EM Au a0 aW)
(ak.at λo e=>up _ o EK (g _ o D.l1z D.l1TO D.l1i1 D.l1i2 e)) (V.at λo e=>up _ o EJ (g _ o D.l2z D.l2TO D.l2i1 D.l2i2 e))
(λb o b1 b2 b3 b4 b5 e=>up b o b1 (g b o b2 b3 b4 b5 (Mq b o b1 b2 b3 b4 b5 e))) (wJ _ a6 U) (by rw[Array.toList_push,kB,mu];rfl) (by rw[g5,K];rfl) (?_,?_,?_) ?_)) (by rw[hsz];lia) (by rw[Array.size_push,hsz];lia)
  ·refine List.pairwise_append.mpr (P.rise,List.pairwise_singleton _ _,λa ha b hb=>?_);rw[fy.mp hb];exact P.there ha
  ·intro a ha;obtain ha|ha:=lN.mp ha
   ·exact P.above a ha
   rw[fy.mp ha];exact aK
  ·intro j b Q;obtain h1|h1|h1:=Nat.lt_trichotomy j as.length
   ·rw[u4 h1]at Q;let(x',y',e1,e2,e3):=P.pairs j b Q;have ab:=P.above b (jk Q);exact(x',y',e1,e2,up b _ (ne oS ab) (g b _ (ne oz ab) (ne a3 ab) (ne o1 ab) (ne o2 ab) e3))
   ·subst h1;have hb:=(Q:);subst hb;exact(_,_,by rw[K];exact hx,by rw[K];exact hy,up _ _ (Fq a5) ht)
   have Xv:(as++[h.objs.size])[j]?=none:=RF (by rw[g5,yd];lia);rw[Xv]at Q;cases Q
  have e:=up _ _ (Fq a5) ht;have:=kf e;have YW:=aK;exact tY YW (v5 this)
end
def C0:typeLookup (.type "zip") "__len__"=pure none:=bv
def A4:typeLookup (.type "zip") "__length_hint__"=pure none:=bv
section
variable{w:Da}{s:ϋ}
theorem Hg{R:Result->ϋ->Prop}{TI TO:J}(hh:A.handled=Y)(D:ZipApart z TI TO i1 i2 l1 l2)(q:z≠S)(EM:TI≠S)(Au:TO≠S)(ar:i1≠S)(ak:i2≠S)(EK:l1≠S)(EJ:l2≠S)
  (hz:IsZip s.heap z TI TO .none) {ta tb:B} (V:IsPair s.heap TO ta tb) (aF:IsPair s.heap TI (.ref i1) (.ref i2)) (Q:aR s.heap t1 i1 l1 0) (P:aR s.heap t2 i2 l2 0) (aW:bg s.heap t1 l1 xs) (aK:bg s.heap t2 l2 ys)
  (en:n=min xs.size ys.size) (hn:n<=lK) (res:B) (c₀:Nat) (hS:s.heap.get? S=Z (#[]^^^c₀))
  (hR:∀h' tk acc c as,(∀b o,b≠S->b≠z->b≠TO->b≠i1->b≠i2->s.heap.get? b=Z o->h'.get? b=Z o)->h'.get? S=Z {cls:=.type "list",dict:=Y,data:=.seq acc c,slots:=#[]}->as.length=n->ZG xs ys s.heap.objs.size h' as ->
acc.toList=as.map B.ref->R (.ok (.ret res)) {s with heap:=h',toks:=tk}):
  wpAny (model prog w) A.in1 (Builtin.List.listExtendWith (.ref S) (.ref z) res)
   (λfin s'=>match fin with|.done f=>R (.ok f) s' |.again c'=>c'.quiet=O/\codeAny (model prog w) A c' R s') (λe s'=>R (.error e) s') s:=by
 have hT:s.TypeIs (.ref z) "zip":=(_,hz,U);let(a3,g1,_):=Q.obj;let(a0,g2,_):=P.obj;refine eB (Yc hT ?_);have e1:Builtin.List.listSameRef (.ref S) (.ref z)=false:=by simp[Builtin.List.listSameRef,q.symm]
 have e2:(B.type "zip" == B.type "list")=false:=ad;have e3:(B.type "zip" == B.type "tuple")=false:=ad;simp only[e1,e2,e3,if_false];refine eB (wpAny_pyIter_zip hz (eB (Rw ?_)));refine eB (ZL hT C0 ?_);refine eB (ZL hT A4 (nT ?_));refine eB (ZI (eB ?_));refine eB (Zu hS U ?_);have g:=wJ (Nj (·.push B.none)) hS U;refine Zu g U ?_;have K:=wJ (Nj (·.pop)) g U;have oth:∀b o,b≠S->s.heap.get? b=Z o->((s.heap.update S (Nj (·.push B.none))).update S (Nj (·.pop))).get? b=Z o:=
  λb o hb e=>(vr _ _ (Ne.symm hb)).trans ((vr _ _ (Ne.symm hb)).trans e)
 have hsz:((s.heap.update S (Nj (·.push B.none))).update S (Nj (·.pop))).objs.size=s.heap.objs.size:=by rw[(Heap.SameBut.update (a:=S) ..).1,(Heap.SameBut.update (a:=S) ..).1]
 refine nT (ZY F.plain_extend_loop _,NP (s:=s) (n:=n) hh D q EM Au ar ak EK EJ (kf hS) (kf hz) (kf V) (kf g1) (kf g2) en hn res hR n 0 _ _ _ _ [] bd (AY _)
(oth _ _ EM aF,Q.at λo e=>oth _ o ar e,P.at λo e=>oth _ o ak e,.inl (oth _ _ q hz,ta,tb,oth _ _ Au V)) (aW.at λo e=>oth _ o EK e) (aK.at λo e=>oth _ o EJ e) (λb o b1 _ _ _ _ e=>oth b o b1 e) K U U (List.Pairwise.nil,λ_ z=>(nomatch z),λj a hj=>by simp at hj) (by rw[hsz];exact mz _))
def NQ{R:Result->ϋ->Prop}{TI TO:J}(hh:A.handled=Y)(D:ZipApart z TI TO i1 i2 l1 l2)(q:z≠S)(EM:TI≠S)(Au:TO≠S)(P:i1≠S)(K:i2≠S)(EK:l1≠S)(EJ:l2≠S)
  (hz:IsZip s.heap z TI TO .none) {ta tb:B} (ak:IsPair s.heap TO ta tb) (ar:IsPair s.heap TI (.ref i1) (.ref i2)) (V:aR s.heap t1 i1 l1 0) (Q:aR s.heap t2 i2 l2 0) (aW:bg s.heap t1 l1 xs) (aK:bg s.heap t2 l2 ys)
  (en:n=min xs.size ys.size) (hn:n<=lK) (hS:s.heap.get? S=Z (~~~#[]))
  (hR:∀h' tk acc c as,(∀b o,b≠S->b≠z->b≠TO->b≠i1->b≠i2->s.heap.get? b=Z o->h'.get? b=Z o)->h'.get? S=Z {cls:=.type "list",dict:=Y,data:=.seq acc c,slots:=#[]}->as.length=n->ZG xs ys s.heap.objs.size h' as ->
acc.toList=as.map B.ref->R (.ok (.ret .none)) {s with heap:=h',toks:=tk}):
  wpAny (model prog w) A.in1 (Builtin.«list.__init__» ([.ref S,.ref z],[]))
   (λfin s'=>match fin with|.done f=>R (.ok f) s' |.again c'=>c'.quiet=O/\codeAny (model prog w) A c' R s') (λe s'=>R (.error e) s') s:=by
 refine eB ?_;refine eB (wpAny_seqItems hS U (nT ?_));refine eB (Zu hS U ?_);have g:=wJ (Nj (λ_=>(#[]))) hS U;have oth:∀b o,b≠S->s.heap.get? b=Z o->(s.heap.update S (Nj (λ_=>(#[])))).get? b=Z o:=
  λb o hb e=>(vr _ _ (Ne.symm hb)).trans e
 have hsz:(s.heap.update S (Nj (λ_=>(#[])))).objs.size=s.heap.objs.size:=(Heap.SameBut.update (a:=S) ..).1;refine Hg (xs:=xs) (ys:=ys) (n:=n) hh D q EM Au P K EK EJ (oth _ _ q hz) (oth _ _ Au ak) (oth _ _ EM ar) (V.at λo e=>oth _ o P e) (Q.at λo e=>oth _ o K e) (aW.at λo e=>oth _ o EK e) (aK.at λo e=>oth _ o EJ e) en hn .none _ g (λh' tk acc c as hk aF hl hG kB=>?_);rw[hsz]at hG;exact hR h' tk acc c as (λb o b1 b2 b3 b4 b5 e=>hk b o b1 b2 b3 b4 b5 (oth b o b1 e)) aF hl hG kB
def NS{E:Φ}{Q:Φ}{TI TO:J}(hh:A.handled=Y)(D:ZipApart z TI TO i1 i2 l1 l2)
  (hz:IsZip s.heap z TI TO .none) {ta tb:B} (P:IsPair s.heap TO ta tb) (V:IsPair s.heap TI (.ref i1) (.ref i2)) (K:aR s.heap t1 i1 l1 0) (q:aR s.heap t2 i2 l2 0) (ar:bg s.heap t1 l1 xs) (ak:bg s.heap t2 l2 ys)
  (en:n=min xs.size ys.size) (hn:n<=lK)
  (hQ:∀h' tk acc c as,(∀b o,b≠z->b≠TO->b≠i1->b≠i2->s.heap.get? b=Z o->h'.get? b=Z o)->h'.get? s.heap.objs.size=Z {cls:=.type "list",dict:=Y,data:=.seq acc c,slots:=#[]}->as.length=n->ZG xs ys (s.heap.objs.size+1) h' as ->
acc.toList=as.map B.ref->Q (.ref s.heap.objs.size) {s with heap:=h',toks:=tk}):
  wpAny (model prog w) A (call (.type "list") [.ref z]) Q E s:=by
 refine callType_codes (Q₁:=λobj g=>obj=.ref s.heap.objs.size/\g={s with heap:=s.heap.push (~~~#[])}) PySem.F.called_list (PySem.F.typeCall_list_1 _) PySem.F.entry_list_init
  (code_list_new _ (U,U)) λobj g h₁=>?_
 let(U,U):=h₁;have hS:(s.heap.push (~~~#[])).get? s.heap.objs.size=Z (~~~#[]):=px _ U;let(a3,g1,_):=K.obj;let(a0,g2,_):=q.obj;let(aW,g3):=ar.obj;let(aK,g4):=ak.obj;have up:∀b o,s.heap.get? b=Z o->(s.heap.push (~~~#[])).get? b=Z o:=λb o e=>gi _ e;refine((_,hS,U),PySem.F.args_list_init_2 _ _,NQ hh D (uj (kf hz)) (uj (kf V)) (uj (kf P)) (uj (kf g1)) (uj (kf g2)) (uj (kf g3)) (uj (kf g4))
(up _ _ hz) (up _ _ P) (up _ _ V) (K.at λo e=>up _ o e) (q.at λo e=>up _ o e) (ar.at λo e=>up _ o e) (ak.at λo e=>up _ o e) en hn hS (λh' tk acc c as hk aF hl hG kB=>?_))
 rw[yg]at hG;exact(U,hQ h' tk acc c as (λb o b2 b3 b4 b5 e=>hk b o (uj (kf e)) b2 b3 b4 b5 (up b o e)) aF hl hG kB)
end
def IZ(h:Ev)(m:Nat):Ev:={h with objs:=h.objs.extract 0 m}
def pN{h:Ev}{m b:Nat}(g:b<m):(IZ h m).get? b=h.get? b:=by
 unfold IZ Heap.get?;have e:(h.objs.extract 0 m)[b]?=h.objs[b]?:=by
  rw[Array.getElem?_extract];by_cases q:b<h.objs.size
  ·rw[if_pos bd,RC]
  rw[if_neg bd,Z6 bd]
 simp only[e]
def wo{h:Ev}{m:Nat}(hm:m<=h.objs.size):(IZ h m).objs.size=m:=by unfold IZ;rw[Array.size_extract];lia
def Q0{h:Ev}{m:Nat}{b:J}{u:Obj}(hm:m<=h.objs.size)(e:(IZ h m).get? b=Z u):h.get? b=Z u:=by have:=kf e;rw[wo hm]at this;rw[<- pN this];exact e
def qE(H:Hp):List (J×HO)->Hp
 |[]=>H|p::r=>qE (upd H p.1 p.2) r
theorem qz:∀{os:List (J×HO)}{H:Hp}{c:J},c ∉ os.map (·.1)->qE H os c=H c
 |[],_,_,_=>rfl|p::r,H,c,h=>by
  show qE (upd H p.1 p.2) r c=H c;rw[qz (λz=>h (j6 _ z)),au λz=>h (by rw[z];exact j4)]
theorem qD:∀{os:List (J×HO)}{H:Hp}{p:J×HO},(os.map (·.1)).Nodup->p∈os->qE H os p.1=Z p.2
 |q::r,H,p,hn,hp=>by
  have h':=wh.mp hn;show qE (upd H q.1 q.2) r p.1=Z p.2;obtain rfl|hp:=lb.mp hp
  ·rw[qz h'.1,ax]
  exact qD h'.2 hp
theorem A8:∀as:Θ,Vals (as.map V.ref) (as.map B.ref)
 |[]=>.nil|a::r=>.cons U (A8 r)
theorem Inv.L8{X:Cx}{gd:Ξ}{σ:St}{s:ϋ}{h':Ev}:∀{os:List (J×HO)}{H:Hp}{m:Nat},Inv X gd σ H {s with heap:=IZ h' m}->m<=h'.objs.size->(os.map (·.1)).Pairwise (· < ·)->(∀p∈os,m<=p.1/\p.1<h'.objs.size) ->
  (∀p∈os,∀(H2:Hp)(P:Ev),P.get? p.1=h'.get? p.1->cz X.prog X.w H2 P p.1 p.2)->Inv X gd σ (qE H os) {s with heap:=h'}
 |[],H,m,I,hm,_,_,_=>I.kept λb u e=>Q0 hm e|p::r,H,m,I,hm,hp,Q,ho=>by
  have g:=List.pairwise_cons.mp hp;let(b1,b2):=Q p j4;have K:=b2;have V:=by
   refine I.laid (t':=s.toks) (λb u e=>?_) ?_ (ho p j4 _ _ (pN (ZU _)))
   ·have lt:=kf e;rw[wo hm]at lt;have z:=rz lt (tY b1 (Nat.le_succ _));rw[pN z,<- pN lt];exact e
   rw[wo hm];exact b1
  exact Inv.L8 (os:=r) V K g.2 (λq hq=>(g.1 q.1 (nR.mpr (q,hq,U)),(Q q (j6 _ hq)).2)) λq hq=>ho q (j6 _ hq)
def uO(K:Ch)(tl:TA):TE:=λσ H R=>tl σ H λvs H1=>Ea4 λl1 l2 xs ys=>vs=[.ref l1,.ref l2]/\SqT K H1 l1 xs/\SqT K H1 l2 ys/\∀(H2:Hp)(L:J)(ps:Θ),H1 L=Y->ps.length=min xs.length ys.length->ps.Nodup->(∀p∈ps,H1 p=Y/\p≠L)->(∀c,c ∉ ps->c≠L->H2 c=H1 c)->H2 L=Z (.lst (ps.map V.ref))->(∀(j:Nat) p x y,ps[j]?=Z p->xs[j]?=Z x->ys[j]?=Z y->H2 p=Z (.tup [x,y]))->R (.ref L) H2
section
variable{a:EQ}{tl:TA}{pos p fJ p2:Pos}
def D3(hg:Gl X "list")(hm:X.mg "list"=Y)(bP:Gl X "zip")(a9:X.mg "zip"=Y)(ha:PA X [a,b] tl)(hs:j7 [a,b] X.env=[(ϊ,eval a X.env),(ϊ,eval b X.env)])(aW:AM X b)
  (aK:j7 [.Call (.Name "zip" p2) [a,b] [] fJ] X.env=(ϊ,eval (.Call (.Name "zip" p2) [a,b] [] fJ) X.env)::j7 [] X.env) (hc:X.calm=O):
  PE X (.Call (.Name "list" p) [.Call (.Name "zip" p2) [a,b] [] fJ] [] pos) (uO X.K tl):=by
 intro gd s σ H R I h;refine Call_ (gQ I hg hm bv (PyProof.Rows.callWith_type1 (T:="list") ?_ aK be));rw[aK];refine Calls.spliced_cons ?_;refine Call_ (gQ I bP a9 bv (PyProof.Rows.callWith_type1 (T:="zip") (thn (ha fJ gd s σ H _ I h) λus s1 (vs,H1,P,r1,q1)=>?_) (by rw[hs,aW]) (by rw[aW];rfl)));let(l1,l2,xs,ys,e,q2,q3,q):=q1;subst e;let(u1,u2,U,a4,a0):=vals2 r1;cases a4;cases a0;let(Qo,ak,o1,z1):=P.uW (tp:=O) q2;let(gh,Q,o2,z2):=P.uW (tp:=O) q3;let(cb,e1):=o1.obj;let(b0,e2):=o2.obj;have g1:l1<s1.heap.objs.size:=kf e1;have g2:l2<s1.heap.objs.size:=kf e2;refine pR o1 o2 λh1 hz bT bQ bG bA hk=>?_;refine Calls.spliced_nil ?_;have nz:s1.heap.objs.size+4<h1.objs.size:=kf hz;have a6:=ak.length;have a5:=Q.length;refine NS (t1:=O) (t2:=O) (xs:=Qo.toArray) (ys:=gh.toArray) (n:=min xs.length ys.length) (P.ok.hd hc) (si g1 g2) hz bQ bT bG bA (o1.at λo e=>hk _ o e) (o2.at λo e=>hk _ o e) (by simp[a6,a5]) bd λh' tk acc c as bc hS hl g kB=>?_;have fr:∀b u,s1.heap.get? b=Z u->h'.get? b=Z u:=λb u e=>by
  have lt:b<s1.heap.objs.size:=kf e;have ne:∀m:Nat,s1.heap.objs.size<=m->b≠m:=λm hm z=>absurd (z▸lt:m<s1.heap.objs.size) bd;exact bc b u (ne _ bd) (ne _ bd) (ne _ (mz _)) (ne _ bd) (hk b u e)
 have I2:=P.kept (t':=tk) λb u e=>by rw[pN (kf e)];exact fr b u e
 have lS:h1.objs.size<h'.objs.size:=kf hS;have keys:(((Prod.mk h1.objs.size (HO.lst (as.map V.ref))) ::(as.zip (xs.zip ys)).map λp=>(Prod.mk p.1 (HO.tup [p.2.1,p.2.2]))).map (·.1))=h1.objs.size::as:=by rw[AZ,wH];congr 1;have:((λx:J×HO=>x.1) ∘ λp:J×V×V=>(p.1,HO.tup [p.2.1,p.2.2]))=Prod.fst:=rfl;rw[this,aa0 (by rw[Zt];lia)]
 have pw:(h1.objs.size::as).Pairwise (· < ·):=List.pairwise_cons.mpr (λa ha=>g.above a ha,g.rise);have at':∀(j:Nat)(p:J×V×V),(as.zip (xs.zip ys))[j]?=Z p->as[j]?=Z p.1/\xs[j]?=Z p.2.1/\ys[j]?=Z p.2.2:=λj p hp=>by
  have h1:=Rz.mp hp;have h2:=Rz.mp h1.2;exact(h1.1,h2.1,h2.2)
 have I3:=Inv.L8 (X:=X) (s:={s1 with toks:=tk}) (m:=s1.heap.objs.size) (h':=h') I2 bd (by rw[keys];exact pw) (λp hp=>?_) (λp hp H2 hh e=>?_)
 ·have nd:(h1.objs.size::as).Nodup:=pw.imp λh=>uj h;have aF:=wh.mp nd;refine(.ref h1.objs.size,_,I3,U,q _ h1.objs.size as (P.hok.fresh bd) hl aF.2 (λp hp=>(P.hok.fresh ?_,λz=>aF.1 (z▸hp))) (λc c1 c2=>?_) ?_ (λj p x y hp hx hy=>?_))
  ·have:=g.above p hp;exact tY (show s1.heap.objs.size<=h1.objs.size+1 by lia) this
  ·exact qz (by rw[keys];exact λz=>(lb.mp z).elim c2 c1)
  ·exact qD (by rw[keys];exact nd) j4
  have hz:(as.zip (xs.zip ys))[j]?=Z (p,x,y):=Rz.mpr (hp,Rz.mpr (hx,hy));exact qD (p:=(p,HO.tup [x,y])) (by rw[keys];exact nd) (j6 _ (nR.mpr (_,jk hz,U)))
 ·have:p.1∈h1.objs.size::as:=by rw[<- keys];exact nR.mpr (p,hp,U)
  obtain z|z:=lb.mp this
  ·rw[z];exact(bd,lS)
  have ab:=g.above p.1 z;exact(tY (show s1.heap.objs.size<=h1.objs.size+1 by lia) ab,g.there z)
 obtain rfl|hp:=lb.mp hp
 ·refine(by rw[dN];lia,acc.toList,c,by rw[kB];exact A8 as,?_);rw[e];exact hS
 let(t,ht,U):=nR.mp hp;let(j,hj):=List.getElem?_of_mem ht;let(a1,a2,a3):=at' j t hj;let(x,y,x1,y1,pr):=g.pairs j t.1 a1;let(u1,w1,r1):=ak.get a2;let(u2,w2,r2):=Q.get a3;rw[ad4,w1]at x1;cases x1;rw[ad4,w2]at y1;cases y1;have ar:hh.get? t.1=_:=e.trans pr;exact(by show 2<=lK;decide,[x,y],.cons r1 (.cons r2 .nil),((_,ar,U,_,U),_,ar,U))
end
section
variable{w:Da}{s:ϋ}
theorem IQ{e:J}{i:Nat}{x old:B}{Q:Option B->ϋ->Prop}
  (he:IsEnum s.heap e it i old) (hit:aR s.heap tp it l i) (hl:bg s.heap tp l items) (hx:items[i]?=Z x) (K:e≠it)
  (hQ:∀h',IsEnumOut h' e it ((i:Int)+1) x s.heap.objs.size->aR h' tp it l (i+1)->h'.get? s.heap.objs.size=Z {cls:=.type "tuple",data:=.seq #[.int i s.toks,x]}->h'.objs.size=s.heap.objs.size+1 ->
(∀b o,b≠e->b≠it->s.heap.get? b=Z o->h'.get? b=Z o)->Q (Z (.ref s.heap.objs.size)) {s with heap:=h',toks:=s.toks+1}):wpAny (model prog w) A (pyNext (.ref e)) Q E s:=by
 have hT:s.TypeIs (.ref e) "enumerate":=(_,he,U);let(hp,g,d,tk,os):=s;refine eB (ZX (wpAny_callSpecial?_slot hT F.slot_enumerate_next (Js F.slot_enumerate_next hT F.entry_enumerate_next ?_ (F.args_enumerate_next_1 _))));show wpAny _ _ (field (.ref e) 2 >>= _) _ _ _;refine eB (wpAny_field he U U ?_);refine eB (next_item hit hl hx λh1 YS ar=>?_);have aF:=(ar.2 e K).trans he;refine eB (wpAny_field aF U U (eB (wpAny_field aF U U (eB (wpAny_mkInt (eB (wpAny_setField_rec aF ba λh2 bQ ak=>(eB (wpAny_setField_rec bQ ba λh3 bP V=>?_)))))))));show wpAny _ _ (newTuple [.int i tk,x] >>= _) _ _ (h3,g,d,tk+1,os);refine eB (wpAny_newTuple ?_);have P:IsEnum (h3.push {cls:=.type "tuple",data:=.seq #[.int i tk,x]}) e it ((i)+1) old:=gi _ bP;have hsz:h3.objs.size=hp.objs.size:=by rw[V.1,ak.1,ar.1]
 have a9:=kf he;have a0:(h3.push {cls:=.type "tuple",data:=.seq #[.int i tk,x]}).get? hp.objs.size=Z {cls:=.type "tuple",data:=.seq #[.int i tk,x]}:=by rw[<- hsz];exact px _ U
 have aW:(h3.push {cls:=.type "tuple",data:=.seq #[.int i tk,x]}).objs.size=hp.objs.size+1:=by rw[yg,hsz]
 have a6:∀b o,b≠e->b≠it->hp.get? b=Z o->(h3.push {cls:=.type "tuple",data:=.seq #[.int i tk,x]}).get? b=Z o:=λb o q aK hb=>gi _ (V.extBut b o q (ak.extBut b o q (ar.extBut b o aK hb)));have Xw:aR (h3.push {cls:=.type "tuple",data:=.seq #[.int i tk,x]}) tp it l (i+1):=YS.at λo eo=>gi _ (V.extBut _ o K.symm (ak.extBut _ o K.symm eo));generalize h3.push {cls:=.type "tuple",data:=.seq #[.int i tk,x]}=h4 at P a0 aW a6 Xw;rw[hsz];refine eB (eB (wpAny_field P U U (nT (eB (ZI (eB (wpAny_field P U (x:=old) U (eB (wpAny_setField_rec P ba λh5 bG a5=>(eB (eB (wpAny_setField_rec bG ba λh6 bA a4=>(wpAny_setField_rec bA ba λh7 bc a3=>?_)))))))))))));have up:∀c o,c≠e->h4.get? c=Z o->h7.get? c=Z o:=λc o hc z=>a3.extBut _ _ hc (a4.extBut _ _ hc (a5.extBut _ _ hc z));refine eB (wpAny_letGo (nT (_,U,nT (hQ h7 bc (Xw.at λo eo=>up _ o K.symm eo) (up _ _ (Fq a9) a0) ?_ λb o q aK hb=>up b o q (a6 b o q aK hb)))));rw[a3.1,a4.1,a5.1,aW]
theorem MF{e:J}{i:Nat}{old:B}{Q:Option B->ϋ->Prop}(z:A.handled=Y)
  (he:IsEnum s.heap e it i old) (hit:aR s.heap tp it l i) (hl:bg s.heap tp l items) (hx:items[i]?=Y) (P:∀h',af0 it s.heap h'->Q Y {s with heap:=h'}):wpAny (model prog w) A (pyNext (.ref e)) Q E s:=by
 have hT:s.TypeIs (.ref e) "enumerate":=(_,he,U);refine eB (ZX (wpAny_callSpecial?_slot hT F.slot_enumerate_next (Js F.slot_enumerate_next hT F.entry_enumerate_next ?_ (F.args_enumerate_next_1 _))));show wpAny _ _ (field (.ref e) 2 >>= _) _ _ _;refine eB (wpAny_field he U U (eB (next_end z hit hl hx λh' x q g=>?_)));let(o,ho,K):=g;exact eB (ZV (o,ho,K) isSubtype_stop (nT (P _ q)))
abbrev eH1(tp:Bool)(h:Ev)(l:J):Ev:=h.push {cls:=.type (itc tp),data:=.fields #[.ref l,.int 0 0]}
abbrev eH2(tp:Bool)(h:Ev)(l:J):Ev:=(eH1 tp h l).push {cls:=.type "enumerate",data:=.fields #[.none,.bool ϊ,.ref h.objs.size,rawInt 0,.none,.none]}
def vJ(tp:Bool)(l:J)(xs:Array B):
  Meets (Builtin.«enumerate.__new__» ([.type "enumerate",.ref l],[])) (λ_ R s=>bg s.heap tp l xs/\R (.ok (.ret (.ref (eH1 tp s.heap l).objs.size))) {s with heap:=eH2 tp s.heap l}):=
 .of_wp λprog w A R s h=>by
  let(hl,h):=h;have g:=sub_enumerate;have hL:=hl
  wp_walk
  refine wpAny_stack_any λst=>nT ?_;split
  ·rename_i c _ _ _ _ _;cases(c==B.type "enumerate")
   ·wp_walk using k7 hL
    exact(_,U,h)
   wp_walk using k7 hL
   exact(_,U,h)
  wp_walk using k7 hL
  exact(_,U,h)
theorem xY(hl:bg s.heap tp l xs)
  (h:∀h',IsEnum h' (s.heap.objs.size+1) s.heap.objs.size 0 .none->aR h' tp s.heap.objs.size l 0->(∀b o,s.heap.get? b=Z o->h'.get? b=Z o)->Q (.ref (s.heap.objs.size+1)) {s with heap:=h'}):
  wpAny (model prog w) A (call (.type "enumerate") [.ref l]) Q E s:=by
 refine callType_new F.called_enumerate ad (F.typeCall_enumerate_1 _) (F.newCall_enumerate_1 _) (λobj=>F.args_object_init_2 obj _) F.entry_enumerate_new (vJ tp l xs) (hl,?_);have g:(eH1 tp s.heap l).objs.size=s.heap.objs.size+1:=yg ..;have g2:(eH2 tp s.heap l).get? (eH1 tp s.heap l).objs.size=Z _:=px _ U;have g1:(eH2 tp s.heap l).get? s.heap.objs.size=Z _:=gi _ (px _ U);rw[g]at g2 ⊢;exact((_,g2,U),h _ g2 (kG g1) λc o x=>gi _ (gi _ x))
end
def Ite(K:Ch)(tp:Bool)(l:J):It:=
 (λi H=>∃xs x,SqB K tp H l xs/\xs[i]?=Z x,
λi H v H'=>∃(p:J)(x:V),H p=Y/\v=.ref p/\H'=upd H p (.tup [.int i,x])/\∀xs,SqB K tp H l xs->xs[i]?=Z x,
λi H=>∃xs,SqB K tp H l xs/\xs.length<=i)
theorem HC{w:Da}{K:Ch}{x1}{pos:Pos}(e it l:J)(Q:e≠it):
  Turn P w K (.Tuple elts x1 pos) (Ite K tp l) [e,it] e (λi h=>(∃old,IsEnum h e it i old)/\aR h tp it l i) where
 mem:=by simp
 obj:=by
  rintro i h ⟨⟨old,h1⟩,h2⟩ c q;simp only[lb,xQ,or_false]at q;obtain rfl|rfl:=q
  ·exact(_,h1,λv e=>by cases e)
  exact h2.obj
 keep:=by rintro i h h' ⟨⟨old,h1⟩,h2⟩ k;exact((old,k e ba _ h1),h2.at λo z=>k it ba o z)
 item:=by
  intro X hP hw hK q i gd s σ H E I hf st hg;subst hP hw hK;let((old,h1),h2):=st;let(xs,x,q1,e1):=hg;let(its,rv,o1,z1):=I.uW q1;let(u1,aF,ar):=rv.get e1;refine IQ h1 h2 o1 (x:=u1) (aF:) Q λh' aK a0 a3 YM aW=>(_,U,(wpAny_letOwnedTupleGo_enum aK λak YV Vv=>?_));have hn:=I.hok.fresh (mz s.heap.objs.size);have le:=kf h1;let(oi,a4,_):=h2.obj;have li:=kf a4;have U2:∀b ∈ [e,it],b≠s.heap.objs.size:=λb g=>by
   simp only[lb,xQ,or_false]at g;obtain rfl|rfl:=g
   ·exact uj le
   exact uj li
  have up:∀c o,c≠e->h'.get? c=Z o->ak.get? c=Z o:=λc o q z=>Vv.extBut _ _ q z;have I1:Inv X gd σ (upd H s.heap.objs.size (.tup [.int i,x])) {s with heap:=s.heap.push {cls:=.type "tuple",data:=.seq #[.int i s.toks,u1]},toks:=s.toks+1}:=
   I.laid (λb u z=>gi _ z) (mz _) (by show 2<=lK;decide,[.int i s.toks,u1],.cons (_,U) (.cons ar .nil),((_,px _ U,U,_,U),_,px _ U,U))
  have V:∀b ∈ [e,it],wL X gd (upd H s.heap.objs.size (.tup [.int i,x])) b:=λb g=>by
   let(f0,r):=hf b g;exact(by rw[au (U2 b g)];exact f0,r)
  have I2:=by
   refine I1.t6 (h':=ak) (t':=s.toks+1) (λb o g z=>?_) V;simp only[lb,xQ,or_false,not_or]at g;let(b1,b2):=g;obtain⟨rfl,rfl⟩|z':=ad7 z
   ·exact up _ _ b1 a3
   exact up _ _ b1 (aW b o b1 b2 z')
  exact(.ref s.heap.objs.size,upd H s.heap.objs.size (.tup [.int i,x]),I2,U,(_,x,hn,U,U,λzs hz=>by rw[I.uV hz q1];exact e1),(((_,(YV:)),a0.at λo z=>up _ _ Q.symm z)),λb g=>(V b g).1)
 done:=by intro X hP hw hK q i gd s σ H E I hf st hg;subst hP hw hK;let((old,h1),h2):=st;let(xs,q1,vV):=hg;let(its,rv,o1,z1):=I.uW q1;have g1:=rv.length;refine MF (I.ok.hd q) h1 h2 o1 (by simp;lia) λh' k=>(U,I.t6 (λb o g z=>?_) hf);simp only[lb,xQ,or_false,not_or]at g;exact k b o g.2 z
 self:=λ_ _ _ _ _ st h=>let((_,z),_):=st;wpAny_pyIter_enum z h
def vT(K:Ch)(tp:Bool)(ta:TA):TI:=λσ H R=>ta σ H λvs H1=>∃l,vs=[.ref l]/\(∃xs,SqB K tp H1 l xs)/\R (Ite K tp l) H1
def Pl{x1}{a:EQ}{ta:TA}{p pos:Pos}(hg:Gl X "enumerate")(hm:X.mg "enumerate"=Y)(fW:bootBuiltins "enumerate"=Z (.type "enumerate"))(ha:PA X [a] ta)(hs:‹AM X a›):
  PI X (.Tuple elts x1 pos') (.Call (.Name "enumerate" p) [a] [] pos) (vT X.K tp ta):=by
 intro gd s σ H R I h;refine Call_ (gQ I hg hm fW (PyProof.Rows.callWith_type1 (thn (ha pos gd s σ H _ I h) λus s1 (vs,H1,P,r1,q1)=>?_) hs U));let(l,e,(xs,q2),q):=q1;subst e;let(u1,U,Q):=vals1 r1;cases Q;let(its,rv,o1,z1):=P.uW q2;refine xY o1 λh' he hi hk=>wpAny_pyIter_enum he ?_;refine(_,[s1.heap.objs.size+1,s1.heap.objs.size],_,_,H1,U,P.kept hk,HC _ _ l (λz=>absurd (z) bd),((_,he),hi),λc V=>?_,q);have g:s1.heap.objs.size<=c:=by simp only[lb,xQ,or_false]at V;obtain rfl|rfl:=V <;> first|exact ac4 _ _|exact mz _
 exact P.MA g (P.hok.fresh g)
end L2
namespace L2
open PySem PySem.Spec PyProof.Rows
variable{kvs:Ϗ}
section
variable{X:Cx}{gd:Ξ}{σ:St}{H:Hp}{s:ϋ}{a:J}{u u':HO}
def Inv.FJ(I:Inv X gd σ H s)(g:H a=Z u)(h1:∀xs,u ≠ .tup xs)(h2:∀c,u ≠ .own c)(h3:∀ps,u ≠ .tbl ps)(P:∀o v,X.bi a≠Z (.frz o v))(new:cz X.prog X.w (upd H a u') s.heap a u'):Inv X gd σ (upd H a u') s:=by
 have ne:∀{b:J},H b=Y->b≠a:=λ{b} e z=>by rw[z,g]at e;cases e
 refine(I.ok,I.os,I.bare,(I.base.keep,I.base.slot,λb o e n hx=>?_,I.base.there,λb xs e=>?_,λb o v e=>?_,λb ps e=>?_),I.loc,I.cell,?_,λx c e=>?_,λp hp=>?_,λb o e=>?_,I.len)
 ·have:=I.base.free b o e n hx;rw[au (ne this)];exact this
 ·have:=I.base.n8 b xs e;rw[au λz=>by rw[z,g]at this;exact h1 xs (Option.some.inj this)];exact this
 ·have:=I.base.kC b o v e;rw[au λz=>by rw[z]at e;exact P o v e];exact this
 ·let(more,this):=I.base.og b ps e;refine(more,?_);rw[au λz=>by rw[z,g]at this;exact h3 _ (Option.some.inj this)];exact this
 ·rw[au (ne I.free)];exact I.free
 ·rw[au (ne (I.eJ x c e))];exact I.eJ x c e
 ·let(p1,p2,p3):=I.pin p hp;exact(p1,by rw[au (ne p2)];exact p2,p3)
 by_cases K:b=a
 ·subst K;rw[ax]at e;cases e;exact new
 rw[au K]at e;refine(I.hok b o e).dO (λ_ _ _ q=>q) (λc q=>?_) λc xs q=>?_
 ·rw[au λz=>by rw[z,g]at q;exact h2 _ (Option.some.inj q)];exact q
 rw[au λz=>by rw[z,g]at q;exact h1 _ (Option.some.inj q)];exact q
def Inv.freeze(I:Inv X gd σ H s)(g:H a=Z (.dK kvs)):(∀o v,X.bi a≠Z (.frz o v))/\∃o,Inv X gd σ (upd H a (.frz o (.dK kvs))) s:=by
 have q:∀o v,X.bi a≠Z (.frz o v):=λo v e=>by
  have:=I.base.kC a o v e;rw[g]at this;cases this
 let(z,hs,vs,r,o,es,K,e,c):=(I.hok a _ g);exact(q,o,I.FJ g nofun nofun nofun q (e,z,hs,vs,r,o,es,K,e,c))
end
end L2
namespace PySem
open Sem (wp)
open Builtin Builtin.ObjectAttr
inductive eR(h:Ev)(S:Γ)(bmB:Δ):Δ->Prop
 |base:eR h S bmB bmB|own{A:J}{c0:B}{dd:Option J}{cd:ClassData}{sl:Array (Option B)}{mA:Υ}{tl:Δ} :
   h.get? A=Z {cls:=c0,dict:=dd,data:=.cls cd,slots:=sl}->h.Ns cd.ns mA->(∀n∈S,mA n=Y)->eR h S bmB tl->eR h S bmB (.ref A::tl)
def eR.tail{h:Ev}{S:Γ}{bmB tl:Δ}(q:("__init__":Str)∈S)(T:eR h S bmB tl):OwnTail h bmB tl:=by induction T with|base=>exact .base|own K z hn _ g=>exact .own K z (hn _ q) g
def eR.hasType{h:Ev}{S:Γ}{bmB tl:Δ}(T:eR h S bmB tl){X:String}{b:Bool}(q:bmB.contains (.type X)=b):tl.contains (.type X)=b:=by induction T with|base=>exact q|own _ _ _ _ g=>rw[x2,g];rfl
section
variable{M:Model}{A:Do}{E:Φ}{h:Ev}{g:Array GenState}{d:Drawn}{t:Nat}{os:OsState}
variable{nm q:Str}{C N x:J}{bs bm bmB:Δ}{sn:Γ}{sub:Δ}{ab rH:Bool}{col:Option Bool}{dd:Option J}{k0 k1 k2 k3 k5:Option B}{ύ newId sa owner:String}
 {mN mA:Υ} {name:Str} {v:B} {S:Γ}
def CC{y:Option B}{Q:Option B->ϋ->Prop}(hs:name∈S)(T:eR h S bmB bm)(P:lookupAlong bmB name=pure y)(hq:Q y (h,g,d,t,os)):wpAny M A (lookupAlong bm name) Q E (h,g,d,t,os):=by induction T with|base=>rw[P];exact nT hq|own K z hn _ q =>rw[lookupAlong_cons];refine eB (wpAny_classOwn_cls K z ?_);rw[hn _ hs];exact q
def jK{y:Option B}{Q:Option B->ϋ->Prop}(hs:name∈S)(K:h.get? C=Z (excClassObj nm q C N bs bm rH sn sub ab col dd k0 k1 k2 k3 k5 newId))(hn:h.Ns N mN)(T:eR h S bmB bm)(z:mroOf (.type ύ)=pure bmB)
  (P:typeLookup (.type ύ) name=pure y) (hq:Q (match mN name with|some v=>Z v|none=>y) (h,g,d,t,os)):wpAny M A (typeLookup (.ref C) name) Q E (h,g,d,t,os):=by
 have V:lookupAlong bmB name=pure y:=by rw[typeLookup_eq,z]at P;exact P
 rw[typeLookup_eq];refine eB (wpAny_mroOf_exc K ?_);rw[lookupAlong_cons];refine eB (wpAny_classOwn_exc K hn ?_);cases hv:mN name with|some v=>rw[hv]at hq;exact nT hq|none=>rw[hv]at hq;exact CC hs T V hq
end
section
variable{prog:Db}{w:Da}{A:Do}{E:Φ}{h:Ev}{g:Array GenState}{d:Drawn}{t:Nat}{os:OsState}
variable{nm q:Str}{C N x:J}{bs bm bmB:Δ}{sn:Γ}{sub:Δ}{ab rH:Bool}{col:Option Bool}{dd:Option J}{k0 k1 k2 k3 k5:Option B}{ύ newId:String}
 {mN mA:Υ} {name:Str} {v:B} {S:Γ} {o:Obj}
theorem Jc{M:Model}{z:B}{Q:Unit->ϋ->Prop}(FB:ExcAttrBase ύ bmB)(T:eR h S bmB bm)(P:h.get? C=Z (excClassObj nm q C N bs bm rH sn sub ab col dd k0 k1 k2 k3 k5 newId))
  (hx:h.get? x=Z o) (K:o.cls=.ref C) (hq:Q () (h,g,d,t,os)):wpAny M A (checkBuiltinCall "BaseException.__getattribute__" ([.ref x,z],[])) Q E (h,g,d,t,os):=by
 have e1:builtinKind "BaseException.__getattribute__"=Z .slot:=bn;have e2:splitId "BaseException.__getattribute__"=Z ("BaseException","__getattribute__"):=bn;have V:(B.ref C::bm).contains (.type "BaseException")=true:=by rw[x2,T.hasType FB.hasBase,ab2]
 have ha:=F.args_bexc_ga (.ref x) z;simp only[checkBuiltinCall,e1,e2];refine eB ?_;unfold isInstance;repeat (first|(with_reducible refine wpAny_loadPart_at hx ?_;rw[K])|(with_reducible refine wpAny_isSubtype_exc P ?_;rw[V])|wp_step)
 exact hq
theorem EX{R:Result->ϋ->Prop}(z:bmB.contains (.type "object")=O)(T:eR h S bmB bm)(Q:h.get? C=Z (excClassObj nm q C N bs bm rH sn sub ab col dd k0 k1 k2 k3 k5 newId))
  (hx:h.get? x=Z o) (P:o.cls=.ref C) (hq:R (.ok (.ret (.ref C))) (h,g,d,t,os)):
  codeAny (model prog w) A (.call (.builtin "getset_descriptor.__get__") ([.builtin "object.__class__",.ref x,.ref C],[])) R (h,g,d,t,os):=by
 have K:((h,g,d,t,os):ϋ).TypeIs (.builtin "object.__class__") "getset_descriptor":=F.typeOf_object_class;have V:(B.ref C::bm).contains (.type (".".intercalate ("object.__class__".cutAt '.').dropLast))=true:=by rw[F.owner_object_class,x2,T.hasType z,ab2]
 refine codeAny_call_builtin F.slot_gs_get.plain F.entry_gs_get (F.slot_gs_get.check _ _ _ _ _ _ _ _ K (F.args_gs_get _ _ _) ?_);repeat (any_goals (first|assumption|(with_reducible refine wpAny_loadPart_at hx ?_;rw[P])|(with_reducible refine wpAny_isSubtype_exc Q ?_;rw[V])|wp_step))
 refine(Code.quiet_builtin _ bn,Z1 F.entry_object_class ?_);repeat (any_goals (first|assumption|(with_reducible refine wpAny_loadPart_at hx ?_;rw[P])|wp_step))
theorem Cu{tk:Tok}{Q:Fin->ϋ->Prop}(P:typeLookup (.type ύ) "__class__"=pure (Z (.builtin "object.__class__")))(z:bmB.contains (.type "object")=O)(hs:("__class__":Str)∈S)(FB:ExcAttrBase ύ bmB)(T:eR h S bmB bm)
  (hC:h.get? C=Z (excClassObj nm q C N bs bm rH sn sub ab col dd k0 k1 k2 k3 k5 newId)) (hn:h.Ns N mN) (K:∀n∈S,mN n=Y) (hx:h.get? x=Z o) (V:o.cls=.ref C) (hq:Q (.done (.ret (.ref C))) (h,g,d,t,os)):
  wpAny (model prog w) A (Builtin.«object.__getattribute__» ([.ref x,.str "__class__" tk],[])) Q E (h,g,d,t,os):=by
 have ak:((h,g,d,t,os):ϋ).TypeIs (.builtin "object.__class__") "getset_descriptor":=F.typeOf_object_class;have f5:=F.typeOf_object_class;have f6:=F.slot_gs_get.lookup;have f7:=F.slot_gs_set.lookup;have n1:=K _ hs;repeat (any_goals (first|assumption|(with_reducible refine wpAny_loadPart_at hx ?_;rw[V])|(with_reducible refine jK hs hC hn T FB.mro P ?_;rw[n1])|wp_step))
 refine EX z T hC hx V ?_;repeat (any_goals (first|assumption|wp_step))
theorem Jb{tk:Tok}{Q:Φ}(ar:typeLookup (.type ύ) "__class__"=pure (Z (.builtin "object.__class__")))(ak:bmB.contains (.type "object")=O)(hs:("__class__":Str)∈S)(P:("__getattribute__":Str)∈S)(K:("__getattr__":Str)∈S)(FB:ExcAttrBase ύ bmB)(T:eR h S bmB bm)
  (V:h.get? C=Z (excClassObj nm q C N bs bm rH sn sub ab col dd k0 k1 k2 k3 k5 newId)) (hn:h.Ns N mN) (z:∀n∈S,mN n=Y) (hx:h.get? x=Z o) (hc:o.cls=.ref C) (hq:Q (.ref C) (h,g,d,t,os)):
  wpAny (model prog w) A (getAttrBy (.ref x) (.str "__class__" tk) ϊ) Q E (h,g,d,t,os):=by
 have f3:=FB.ga.bind (.ref x);have b2:(B.builtin "BaseException.__getattribute__" == B.builtin "object.__getattribute__")=false:=bn;have b1:(onTheHeap (B.ref C)&&B.builtin "BaseException.__getattribute__" == B.builtin "object.__getattribute__")=false:=by rw[b2];rfl
 have n1:=z _ P;have n2:=z _ K;repeat (any_goals (first|assumption|(with_reducible refine wpAny_loadPart_at hx ?_;rw[hc])|(with_reducible refine jK P V hn T FB.mro FB.ga.lookup ?_;rw[n1])|(with_reducible refine jK K V hn T FB.mro FB.noGetattr ?_;rw[n2])|wp_step))
 refine codeAny_call_builtin FB.ga.plain F.entry_bexc_ga (Jc FB T V hx hc (Cu ar ak hs FB T V hn z hx hc ?_));repeat (any_goals (first|assumption|wp_step))
def Cv{Q:Option B->ϋ->Prop}(ak:typeLookup (.type ύ) "__class__"=pure (Z (.builtin "object.__class__")))(P:bmB.contains (.type "object")=O)(hs:("__class__":Str)∈S)(K:("__getattribute__":Str)∈S)(z:("__getattr__":Str)∈S)(FB:ExcAttrBase ύ bmB)(T:eR h S bmB bm)
  (hC:h.get? C=Z (excClassObj nm q C N bs bm rH sn sub ab col dd k0 k1 k2 k3 k5 newId)) (hn:h.Ns N mN) (V:∀n∈S,mN n=Y) (hx:h.get? x=Z o) (hc:o.cls=.ref C) (hq:Q (Z (.ref C)) (h,g,d,t+1,os)):
  wpAny (model prog w) A (getAttr? (.ref x) "__class__") Q E (h,g,d,t,os):=by
 unfold getAttr? getAttrBy?;repeat (any_goals (first|assumption|with_reducible apply Jb ak P hs K z FB T hC hn V hx hc|wp_step))
end
end PySem
namespace PySem
open Sem (wp)
def wX(h:Ev)(e:J)(cls:B)(dx:Option J)(y:B):Prop:=
 ∃o vs g,h.get? e=Z o/\o.cls=cls/\o.dict=dx/\o.data=.fields vs/\vs[0]?=Z g/\vs[1]?=Z y
def iu(h:Ev)(e:J)(cls:B)(dx:Option J)(T:J)(fl:B):Prop:=
 T≠e/\wX h e cls dx (.ref T)/\∃g ts,h.get? T=Z g/\g.data=.fields ts/\ts[3]?=Z fl
structure eT(fr ex:Θ)(h h':Ev):Prop where
 keep:∀b o,h.get? b=Z o->b ∉ fr->b ∉ ex->h'.get? b=Z o
 slot:∀b o,h.get? b=Z o->b ∉ ex->∃sl,h'.get? b=Z {o with slots:=sl}
 there:∀b o,h.get? b=Z o->∃o',h'.get? b=Z o'
def eT.trans{fr ex g:Θ}{h h1 h2:Ev}(a:eT fr ex h h1)(b:eT fr g h1 h2)(hs:∀b o,h.get? b=Z o->b∈g->b∈ex):eT fr ex h h2 where
 keep:=λc o e hf hx=>b.keep c o (a.keep c o e hf hx) hf λz=>hx (hs c o e z)
 slot:=λc o e hx=>by
  let(sl,e1):=a.slot c o e hx;let(q,K):=b.slot c _ e1 λz=>hx (hs c o e z);exact(q,K)
 there:=λc o e=>let(o',e1):=a.there c o e;b.there c o' e1
def eT.mono{fr fr' ex ex':Θ}{h h1:Ev}(a:eT fr ex h h1)(hf:∀b∈fr,b∈fr')(hx:∀b∈ex,b∈ex'):eT fr' ex' h h1:=
 (λb o e n m=>a.keep b o e (λz=>n (hf b z)) λz=>m (hx b z),λb o e m=>a.slot b o e λz=>m (hx b z),a.there)
def eT.mx{fr ex:Θ}{h h1 base:Ev}{l:List Env}(a:eT fr ex h h1)(hx:∀b o,b∈ex->h.get? b=Z o->∃vs,o.data=.fields vs)(hl:h.FunFrames base l):h1.FunFrames base l:=
 hl.of_keeps λb o e hn=>by
  let(sl,q):=a.slot b o e λz=>by let(vs,q):=hx b o z e;exact hn vs q
  exact(_,q,U)
def kF{h:Ev}{T i:Nat}{x:B}{K:Obj}{ts:Array B}(hT:h.get? T=Z K)(hd:K.data=.fields ts):eT [] [T] h (h.update T (aa4 (·.setIfInBounds i x))):=by
 have q:∀b,b≠T->(h.update T (aa4 (·.setIfInBounds i x))).get? b=h.get? b:=λb g=>vr _ _ (Ne.symm g);refine(λb o e _ n=>(q b λz=>n (by simp[z])).trans e,λb o e n=>(o.slots,(q b λz=>n (by simp[z])).trans e),λb o e=>?_);by_cases g:b=T
 ·rw[g];exact(_,wJ _ hT (ZM (YJ hd _)))
 exact(o,(q b g).trans e)
section
variable{M:Model}{A:Do}{E:Φ}{s:ϋ}
variable{base:Ev}{env:Env}{outer:List Env}{L e T:J}{cls:B}{dx:Option J}{Q:Unit->ϋ->Prop}
def MG{y head:B}{Qy:Bool}(aF:A.frames=Z (env::outer))(hl:s.heap.FunFrames base (env::outer))(hf:env.frame=Z L)(hx:wX s.heap e cls dx y)
  (hq:∀h' T',s.heap.objs.size<=T'->iu h' e cls dx T' (rawInt L)->eT ((env::outer).filterMap (·.frame)) [e] s.heap h'->Q () {s with heap:=h'}):
  wpAny M A (do let a <- frameOf env;let K <- entryPlaceOf L Qy;let b <- EntryCells.newEntry head a .none (rawInt L) .none K;setField (.ref e) 1 b) Q E s:=by
 let(o,vs,a0,ho,hc,aK,hd,h0,h1):=hx;have hsz:1<vs.size:=(ZR.mp h1).1;have ar:e ∉ (env::outer).filterMap (·.frame):=λz=>by
  let(_,o',V,hn):=hl.mem z;rw[ho]at V;cases V;exact hn vs hd
 refine eB (wpAny_frameOf_fun aF hl hf λg hg=>?_);refine eB (wpAny_entryPlaceOf λK P=>?_);unfold EntryCells.newEntry newFields;refine eB (ZP ?_ (P.sizeOk5 _ _ _ _ _));have e1:g.get? e=Z o:=(hg.2.1 e ar).trans ho;have e2:=gi (h:=g) {cls:=.type "traceback",dict:=Y,data:=.fields ([head,.ref L,.none,rawInt L,.none]++(if K.isEmpty then rY 6 B.none else K)).toArray} e1;have ak:g.objs.size≠e:=Fq (kf e1);have d3:=YJ hd (·.setIfInBounds 1 (B.ref g.objs.size));have e3:=wJ (aa4 (·.setIfInBounds 1 (B.ref g.objs.size))) e2 (ZM d3);refine Z9 e2 hd hsz (hq _ g.objs.size (ac9 hg.1.symm) (ak,(_,_,a0,e3,(Obj.cls_mapFields _ _).trans hc,?_,d3,by rw[Array.getElem?_setIfInBounds_ne ad];exact h0,by simp[hsz]),?_) ?_)
 ·rw[<- aK];let(_,_,dt,_):=o;cases dt <;> rfl
 ·exact(_,_,(vr _ _ (Ne.symm ak)).trans (px g U),U,by first|(simp;done)|(obtain rfl |⟨_,_,_,_,_,_,_,rfl⟩:=P <;> simp))
 have kp:∀b ob,b≠e->g.get? b=Z ob->((g.push {cls:=.type "traceback",dict:=Y,data:=.fields ([head,.ref L,.none,rawInt L,.none]++(if K.isEmpty then rY 6 B.none else K)).toArray}).update e (aa4 (·.setIfInBounds 1 (B.ref g.objs.size)))).get? b=Z ob:=
  λb ob hb q=>(vr _ _ (Ne.symm hb)).trans (gi _ q)
 refine(λb ob q n m=>kp b ob (λz=>m (by simp[z])) ((hg.2.1 b n).trans q),λb ob q m=>?_,λb ob q=>?_)
 ·let(sl,q2):=hg.2.2 b ob q;exact(sl,kp b _ (λz=>m (by simp[z])) q2)
 by_cases hb:b=e
 ·rw[hb];exact(_,e3)
 let(sl,q2):=hg.2.2 b ob q;exact(_,kp b _ hb q2)
def gI{fl:B}(hx:iu s.heap e cls dx T fl)(hq:∀h',iu h' e cls dx T .none->eT [] [T] s.heap h'->Q () {s with heap:=h'}):wpAny M A (setFlight (.ref e) Y) Q E s:=by let(z,(o,vs,V,ho,P,K,hd,h0,h1),oT,ts,hT,g,h3):=hx;have q:3<ts.size:=(ZR.mp h3).1;unfold setFlight;refine eB (wpAny_field ho hd h1 ?_);rw[if_pos (show(B.ref T != B.none)=O from by simp)];refine Z9 hT g q (hq _ (z,(o,vs,V,(vr _ _ z).trans ho,P,K,hd,h0,h1),_,_,wJ _ hT (ZM (YJ g _)),YJ g _,by simp[q]) (kF hT g))
def sG(g:A.frames=Z (env::outer))(hl:s.heap.FunFrames base (env::outer))(hf:env.frame=Z L)(hx:wX s.heap e cls dx .none)
  (hq:∀h' q,s.heap.objs.size<=q->iu h' e cls dx q (rawInt L)->eT ((env::outer).filterMap (·.frame)) [e] s.heap h'->Q () {s with heap:=h'}):wpAny M A (noteFrame (.ref e) env) Q E s:=by
 let(o,vs,P,ho,K,z,hd,h0,h1):=id hx;unfold noteFrame;simp only[hf];refine eB (wpAny_field ho hd h1 ?_);rw[if_neg ad];exact MG g hl hf hx hq
def vE(V:A.frames=Z (env::outer))(hl:s.heap.FunFrames base (env::outer))(hf:env.frame=Z L)(hx:iu s.heap e cls dx T .none)
  (hq:∀h' K,s.heap.objs.size<=K->iu h' e cls dx K (rawInt L)->eT ((env::outer).filterMap (·.frame)) [e,T] s.heap h'->Q () {s with heap:=h'}):wpAny M A (noteFrame (.ref e) env) Q E s:=by
 let(aF,(o,vs,a0,ho,hc,ak,hd,h0,h1),oT,ts,hT,g,h3):=hx;unfold noteFrame;simp only[hf];refine eB (wpAny_field ho hd h1 ?_);rw[if_pos (show(B.ref T != B.none)=O from by simp)];refine eB (wpAny_field hT g h3 ?_);rw[if_neg (show ¬((B.none==rawInt L)=O)from by simp[rawInt])];refine eB (Z9 hT g (ZR.mp h3).1 ?_);have k1:=kF (i:=3) (x:=B.none) hT g;have P:∀b ob,b ∈ [T]->s.heap.get? b=Z ob->∃ws,ob.data=.fields ws:=λb ob hb q=>by
  have ar:b=T:=(hb:);subst ar;rw[hT]at q;cases q;exact(ts,g)
 refine MG (y:=.ref T) V (k1.mx P hl) hf (o,vs,a0,(vr _ _ aF).trans ho,hc,ak,hd,h0,h1) λh' K sz al k2=>hq h' K ?_ al ?_
 ·have:(s.heap.update T (aa4 (·.setIfInBounds 3 B.none))).objs.size=s.heap.objs.size:=by simp[Heap.update]
  exact tY (ac9 this.symm) sz
 exact(k1.mono (fr':=(env::outer).filterMap (·.frame)) (ex':=[e,T]) nofun (λb z=>by simp at z;simp[z])).trans k2 λb ob _ z=>by simp at z;simp[z]
def vK(g:A.frames=Z (env::outer))(hl:s.heap.FunFrames base (env::outer))(hf:env.frame=Z L)(hx:wX s.heap e cls dx .none)
  (hq:∀h' T',s.heap.objs.size<=T'->iu h' e cls dx T' .none->eT ((env::outer).filterMap (·.frame)) [e] s.heap h'->Q () {s with heap:=h'}):wpAny M A (leaving env (.ref e)) Q E s:=by
 unfold leaving;refine eB (sG g hl hf hx λh1 V sz al k1=>gI al λh2 P k2=>hq h2 V sz P ?_);exact k1.trans (k2.mono nofun λb z=>z) λb ob q z=>by
  have K:b=V:=(z:);subst K;exact absurd (rz (kf q) sz) (E3 _)
def xG(g:A.frames=Z (env::outer))(hl:s.heap.FunFrames base (env::outer))(hf:env.frame=Z L)(hx:iu s.heap e cls dx T .none)
  (hq:∀h' T',s.heap.objs.size<=T'->iu h' e cls dx T' .none->eT ((env::outer).filterMap (·.frame)) [e,T] s.heap h'->Q () {s with heap:=h'}):wpAny M A (leaving env (.ref e)) Q E s:=by
 unfold leaving;refine eB (vE g hl hf hx λh1 V sz al k1=>gI al λh2 P k2=>hq h2 V sz P ?_);exact k1.trans (k2.mono nofun λb z=>z) λb ob q z=>by
  have K:b=V:=(z:);subst K;exact absurd (rz (kf q) sz) (E3 _)
end
end PySem
namespace L2
open PySem PySem.Spec PyProof.Rows
abbrev bmV:List Value:=[.type "ValueError",.type "Exception",.type "BaseException",.type "object"]
abbrev xS(fn:Γ):Γ:="__setattr__" :: "__getattribute__" :: "__getattr__" :: "__class__" :: fn
structure di(K:Ch)(fn:Γ)(C:J)(bm:Δ)(ini:Option J):Prop where
 all:∀h:Ev,K.In h->∃nm q N bs sn sub ab col dd k0 k1 k2 k3 k5 mN,h.get? C=Z (excClassObj nm q C N bs bm O sn sub ab col dd k0 k1 k2 k3 k5 "ValueError.__new__")/\h.Ns N mN /\
  (∀n∈xS fn,mN n=Y)/\mN "__init__"=ini.map B.ref/\eR h ("__init__" :: xS fn) bmV bm
 cl:∃cd,W.clsIn K C=Z cd/\cd.mro=.ref C::bm
 ty:W.typeIn K (.ref C)=Z (.type "type")
def t7(K:Ch)(S:Γ)(bmB:Δ):Δ->Bool
 |[]=>bmB == []|v::r=>(v::r)==bmB||match v with
  |.ref A=>(match K.lookup A with
|some (_,_,.cls cd,_)=>W.nsOkIn K cd.ns&&S.all (λn=>W.nsIn K cd.ns n==Z Y)&&t7 K S bmB r
|_=>ϊ)
  |_=>ϊ
theorem Bc{K:Ch}{h:Ev}{S:Γ}{bmB:Δ}(X:K.In h):∀{l:Δ},t7 K S bmB l=O->eR h S bmB l
 |[],e=>by rw[<- beq_iff_eq.mp e];exact .base|v::r,e=>by
  unfold t7 at e;obtain q|q:=ab0.mp e
  ·rw[beq_iff_eq.mp q];exact .base
  split at q
  ·split at q
   ·rename_i ho;rw[rX,rX]at q;exact .own (X _ _ ho) (.of_isNs (W.isNs_of_in X q.1.1)) (λn hn=>W.nsMap_none_of_in X q.1.1 (beq_iff_eq.mp (RB.mp q.1.2 n hn))) (Bc X q.2)
   cases q
  cases q
def XU:Data->Option ClassData
 |.cls cd=>Z cd|_=>Y
def Ja{d:Data}{cd:ClassData}(h:XU d=Z cd):d=.cls cd:=by cases d <;> first|exact congrArg Data.cls (Option.some.inj h)|cases h
def Jw(K:Ch)(fn:Γ)(C:J)(bm:Δ)(ini:Option J)(sl:Array (Option B))(cd:ClassData):Bool:=
 cd.mro == .ref C::bm&&sl.size==6&&sl[4]? == Z (Z (.builtin "ValueError.__new__")) && !cd.hasDel&&cd.hasDict&&t7 K ("__init__" :: xS fn) bmV bm&&W.nsOkIn K cd.ns &&
  (xS fn).all (λn=>W.nsIn K cd.ns n==Z Y)&&W.nsIn K cd.ns "__init__" == Z (ini.map B.ref)
def iw(K:Ch)(fn:Γ)(C:J)(bm:Δ)(ini:Option J):Bool:=(K.lookup C).any λo=>o.cls == .type "type" && (XU o.data).any (Jw K fn C bm ini o.slots)
def any_some{α:Type}{o:Option α}{f:α->Bool}(h:o.any f=O):∃a,o=Z a/\f a=true:=by
 cases o with
 |none=>cases h
 |some a=>exact(a,U,h)
def six{α:Type}{l:List α}(h:l.length=6):∃a b c d e f,l=[a,b,c,d,e,f]:=by
 cases l with
 |nil=>cases h
 |cons a l=>cases l with
  |nil=>cases h
  |cons b l=>cases l with
   |nil=>cases h
   |cons c l=>cases l with
    |nil=>cases h
    |cons d l=>cases l with
     |nil=>cases h
     |cons e l=>cases l with
      |nil=>cases h
      |cons f l=>exact(a,b,c,d,e,f,by rw[uG.mp (show l.length=0 by simpa using h)])
variable{mg:Υ}
theorem Eb{K:Ch}{h:Ev}{N:J}{n:Str}{v:B}(X:K.In h)(G:h.Ns N mg)(e:W.nsIn K N n=Z (Z v)):mg n=Z v:=by
 let(o,es,P,ho,hd,_,hf):=G;unfold W.nsIn at e;split at e
 ·rename_i c d g z sl q;have:=X _ _ q;rw[ho]at this;cases this;cases hd;split at e
  ·rename_i e1 he;cases e;rw[<- hf];unfold nsFind findBy;rw[<- ae4,he];rfl
  split at e <;> cases e
 cases e
variable{C:J}{bm:Δ}{ini:Option J}
theorem g6{K:Ch}{fn:Γ}(q:iw K fn C bm ini=O):di K fn C bm ini:=by unfold iw at q;let((cl,dd,da,sl),ho,q):=any_some q;rw[rX]at q;let(q0,q):=q;let(cd,z,q):=any_some q;have e0:cl=.type "type":=eq_of_beq q0;have e1:da=.cls cd:=Ja z;subst e0 e1;unfold Jw at q;simp only[rX,beq_iff_eq,Zx]at q;let((((((((hm,h6),h4),Q),V),ht),hok),P),g):=q;let(nm,bs,mro,ns,qn,hd,sn,sub,ab,col,del):=cd;dsimp only at hm Q hok g V P;subst hm Q V;let⟨l⟩:=sl;let(k0,k1,k2,k3,k4,k5,U):=six (l:=l) h6;obtain rfl:k4=Z (.builtin "ValueError.__new__"):=Option.some.inj h4;refine(λh X=>?_,(_,by unfold W.clsIn;rw[ho],U),by show(K.lookup _).map (·.cls)=_;rw[ho];rfl);refine(nm,qn,ns,bs,sn,sub,ab,col,dd,k0,k1,k2,k3,k5,_,X _ _ ho,.of_isNs (W.isNs_of_in X hok),λn hn=>W.nsMap_none_of_in X hok (RB.mp P n hn:),?_,Bc X ht);cases ini with|none=>exact W.nsMap_none_of_in X hok g|some f=>exact Eb X (.of_isNs (W.isNs_of_in X hok)) g
def _root_.PySem.eR.sub{h:Ev}{S S':Γ}{bmB tl:Δ}(T:eR h S bmB tl)(hs:∀n∈S',n∈S):eR h S' bmB tl:=by induction T with|base=>exact .base|own a b c _ g=>exact .own a b (λn hn=>c n (hs n hn)) g
def XAt(a C:J)(dx:Option J)(b:Bool)(h:Ev):Prop:=∃y,wX h a (.ref C) dx y/\(b=O->y=.none)
def XD(dx:J)(fs:List (Str×V))(h:Ev):Prop:=∃mA,h.Ns1 dx mA/\(∀f,my (fs.lookup f) (mA f))/\PySem.Within mA (fs.map (·.1))
def ExH(H:Hp)(a C:J)(b:Bool)(fs:List (Str×V)):Prop:=(fs=[]/\H a=Z (.ext (XAt a C Y b)))\/∃dx,dx≠a/\H a=Z (.ext (XAt a C (Z dx) b))/\H dx=Z (.ext (XD dx fs))
variable{ex:Θ}
section
variable{P:Db}{w:Da}{H:Hp}{h h':Ev}{a d:J}{dx:Option J}{b:Bool}{fs:List (Str×V)}
def XAt.ok(x:XAt a C dx b h):cz P w H h a (.ext (XAt a C dx b)):=by refine(x,?_,λh1 h2 (y,(o,vs,g,e,r),z) k=>(y,(o,vs,g,k o e,r),z));let(y,(o,vs,g,e,r),z):=x;exact(o,e)
def XD.ok(x:XD d fs h):cz P w H h d (.ext (XD d fs)):=by refine(x,?_,λh1 h2 (mA,(o,es,g,e,r),z) k=>(mA,(o,es,g,k o e,r),z));let(mA,(o,es,g,e,r),z):=x;exact(o,e)
def cz.at{o:HO}(x:cz P w H h a o):∃u,h.get? a=Z u:=by cases o with|lst xs=>let(_,_,_,_,e):=x;exact(_,e)|tup xs=>let(_,_,_,p):=x;let(o,e,_):=p.1;exact(o,e)|dK kvs=>let(_,_,_,_,o,_,_,e,_):=x;exact(o,e)|dT kvs=>let(_,_,_,_,o,_,_,e,_):=x;exact(o,e)|set S n=>let(o,_,_,_,e,_):=x;exact(o,e)|ins C dx fs=>let(_,_,_,e,_):=x;exact(_,e)|own y=>exact x|xd fs=>let(_,(o,_,_,e,_),_):=x;exact(o,e)|room g=>let(_,_,_,e):=x;exact(_,e)|rng lo hi=>let(_,_,_,e):=x;exact(_,e)|frz ob u=>let(e,_):=x;exact(_,e)|tbl ps=>exact(_,(show h.get? a=Z _ from x))|met f y=>exact(_,(show h.get? a=Z _ from x))|ext φ=>exact x.2.1
def HOk.no(x:HOk P w H h)(e:h.get? a=Y):H a=none:=by cases q:H a with|none=>rfl|some u =>let(v,z):=(x a u q).at;rw[e]at z;cases z
def HOk.BZ{o:HO}(x:HOk P w H h)(k:∀b u,h.get? b=Z u->h'.get? b=Z u)(hp:h.get? a=Y)(new:cz P w (upd H a o) h' a o):HOk P w (upd H a o) h':=λb u e=>by
 have hn:=x.no hp;by_cases g:b=a
 ·subst g;rw[ax]at e;cases e;exact new
 rw[au g]at e;exact(x b u e).dO (λc v _ q=>k c v q) (λc q=>by rw[au (aX q hn)];exact q) λc xs q=>by rw[au (aX q hn)];exact q
def Un.BZ{fs:Θ}{o:HO}(k:∀b u,h.get? b=Z u->h'.get? b=Z u)(hp:h.get? a=Y)(hn:H a=Y):Un fs ex H (upd H a o) h h' where
 keep:=λb u q _ _ _=>k b u q
 slot:=λb u q _ _ _=>(u.slots,k b u q)
 free:=λb u q n _=>by rw[au (λz=>by rw[z,hp]at q;cases q)];exact n
 there:=λb u q _=>(u,k b u q)
 n8:=λb xs q=>by rw[au (aX q hn)];exact q
 kC:=λb u xs q=>by rw[au (aX q hn)];exact q
 og:=λb ps q=>(#[],by rw[au (aX q hn),q];simp)
theorem Inv.BZ{X:Cx}{gd:Ξ}{σ:St}{s:ϋ}{o:HO}{t':Nat}(I:Inv X gd σ H s)(k:∀b u,s.heap.get? b=Z u->h'.get? b=Z u)(hp:s.heap.get? a=Y)(new:cz X.prog X.w (upd H a o) h' a o):
  Inv X gd σ (upd H a o) {s with heap:=h',toks:=t'}:=I.un (Un.BZ k hp (I.hok.no hp)) (I.hok.BZ k hp new)
end
def Fz(C:J):TE:=λ_ H Q=>∀a,H a=Y->Q (.ref a) (upd H a (.ext (XAt a C Y O)))
variable{h':Ev}
section
variable{X:Cx}{gd:Ξ}{σ:St}{H:Hp}{s:ϋ}{fn:Γ}{x:Str}{p pos:Pos}{e:EQ}{t:TA}
def P6{args:Δ}{h:Ev}{e:J}(m:Heap.MadeExcOf h h' e (.ref C) args):XAt e C Y O h':=by let(t,he,_,_):=m.there;exact(.none,(_,_,_,he,U,U,U,U,U),λ_=>rfl)
theorem Ib(M:di X.K fn C bm Y)(kp:W.keepIn X.K (.ref C)=O)(hg:Gl X x)(hm:X.mg x=Z (.ref C))(z:autoParam (AT x) zdc._auto_1):PE X (.Call (.Name x p) [] [] pos) (Fz C):=by left;refine RA (l9 I hg hm ?_ z);refine W.callWith_K0 I.kIn kp ?_;let(nm,q,N,bs,sn,sub,ab,col,dd,k0,k1,k2,k3,k5,mN,V,P,hS,hi,T):=M.all s.heap I.kIn;have mk:∀h' e,Heap.MadeExcOf s.heap h' e (.ref C) []->EP X gd σ Q (.ref e) {s with heap:=h'}:=λh' e m=>(.ref e,_,I.BZ (t':=s.toks) m.keeps m.new (P6 m).ok,U,h e (I.hok.no m.new));let(hh,g,dr,tk,os):=s;exact wpAny_call_exc_subT PySem.F.excBase_ValueError (eR.tail ba T) V P hi (λh' e m=>mk h' e m)
end
section
variable{X:Cx}{gd:Ξ}{σ:St}{H:Hp}{s:ϋ}{a C':J}{fn:Γ}{bm':Δ}{Ar:Option J}{fs:List (Str×V)}{b:Bool}{A:Do}{E:Φ}{Q:Φ}
def IJ:typeLookup (.type "ValueError") "__class__"=pure (Z (.builtin "object.__class__")):=by rw[typeLookup_type,builtinLookup_eq_fast];kernel_rfl
theorem B7{K:Ch}(c:di K fn C bm ini):W.KitX K (.ref a) (.ref C) (λh=>∃o,h.get? a=Z o/\o.cls=.ref C) where
 ty:=λM h X (o,e,V)=>by
  intro A' Q' E' s' k q;unfold typeOf;refine eB (wpAny_loadPart (k _ _ e) (nT ?_));first
   | (rw[V];exact q)| (show Q' o.cls s';rw[V];exact q)
 it:=λM h X _=>by
  let(nm,q,N,bs,sn,sub,ab,col,dd,k0,k1,k2,k3,k5,mN,P,_):=c.all h X;intro A' Q' E' s' k q;unfold isType loadHead;exact eB (wpAny_loadPart (k _ _ P) (nT q))
 ne:=λh tp dd its n sl X ak=>by
  let(nm,q,N,bs,sn,sub,ab,col,dd',k0,k1,k2,k3,k5,mN,P,_):=c.all h X;refine Z5.mpr λq=>?_;have e:C=tp:=B.ref.inj (beq_iff_eq.mp q);subst e;have z:B.type "type"=B.type "tuple":=congrArg Obj.cls (Option.some.inj (P.symm.trans ak));exact absurd z ad
 ca:=λ{prog w A E Q s} X (o,e,V) hq=>by
  let(nm,q,N,bs,sn,sub,ab,col,dd,k0,k1,k2,k3,k5,mN,P,hN,hS,hi,T):=c.all s.heap X;let(hh,g,dr,tk,os):=s;have mem:∀n∈xS fn,n∈("__init__":Str)::xS fn:=λn hn=>j6 _ hn;exact Cv IJ ad ba ba ba F.attrBase_ValueError (T.sub mem) P hN hS e V hq
theorem Ge{K:Ch}(c:di K fn C bm ini)(q:di K fn C' bm' Ar):W.kitOne K (.ref C) (.ref C')=Z ((B.ref C::bm).contains (.ref C')):=by
 unfold W.kitOne;let(cd,h1,h2):=c.cl;let(P,g,_):=q.cl;split
 ·rename_i z;rw[beq_iff_eq.mp z];simp
 unfold W.kitCls W.subIn W.mroIn;simp[h1,g,q.ty,h2]
theorem Mf{K:Ch}{T:String}(c:di K fn C bm ini)(hT:W.kitMeta T=O):W.kitOne K (.ref C) (.type T)=Z (bm.contains (.type T)):=by unfold W.kitOne;let(cd,h1,h2):=c.cl;rw[if_neg (by intro z;exact nomatch(beq_iff_eq.mp z))];unfold W.kitCls W.subIn W.mroIn;simp only[hT,if_true,h1,Option.bind_some,h2,List.isEmpty_cons,ab5,if_false,x2];rfl
theorem ExH.cls{h:Ev}{P:Db}{w:Da}(e:ExH H a C b fs)(ok:HOk P w H h):∃o,h.get? a=Z o/\o.cls=.ref C:=by
 have go:∀dx,H a=Z (.ext (XAt a C dx b))->∃o,h.get? a=Z o/\o.cls=.ref C:=λdx e=>by
  let(y,(o,vs,q,e1,g,_),_):=(ok a _ e).1;exact(o,e1,g)
 obtain⟨_,e⟩|⟨d,_,e,_⟩:=e
 ·exact go _ e
 exact go _ e
theorem Vj{c:B}{r:Bool}(I:Inv X gd σ H s)(e:ExH H a C b fs)(g:di X.K fn C bm ini)(ek:W.kitOne X.K (.ref C) c=Z r)(h:∀tk,Q (.bool r) {s with toks:=tk}):wpAny (model X.prog X.w) A (call (.builtin "isinstance") [.ref a,c]) Q E s:=
 W.kia_one (B7 g) I.kIn (e.cls I.hok) ek (λz=>nomatch z) h
end
end L2
namespace PySem
open Sem (wp)
section
variable{M:Model}{A:Do}{E:Φ}{env:Env}
variable{nm q nm' q':Str}{C N C' N':J}{bs bm bs' bm':Δ}{rH Xz:Bool}{sn sn':Γ}{sub Oc:Δ}{ab ab':Bool}{col XS:Option Bool}{dd dd':Option J}{k0 k1 k2 k3 k5 j0 j1 j2 j3 j5:Option B}{newId UY:String}
def TR{s:ϋ}{x:Sem B}{Q:Flow->ϋ->Prop}(hh:A.handled=Y)
  (h:wpAny M A x (λv z=>∃e K C nm q N bs bm rH sn sub ab col dd k0 k1 k2 k3 k5 newId,v=.ref e/\z.heap.get? C=Z (excClassObj nm q C N bs bm rH sn sub ab col dd k0 k1 k2 k3 k5 newId)/\bm.contains (.type "BaseException")=O /\
z.heap.get? e=Z K/\K.cls=.ref C/\(∃vs,K.data=.fields vs/\vs[1]?=Z .none)/\E (.ref e) z) E s):wpAny M A (raiseStmt env (Z x) Y) Q E s:=by
 unfold raiseStmt;refine eB (QG h (λv z h₁=>?_) λ_ _ x=>x);let(e,K,C,nm,q,N,bs,bm,rH,sn,sub,ab,col,dd,k0,k1,k2,k3,k5,newId,U,V,hb,he,Ce,(vs,hd,h1),hE):=h₁;have P:(B.ref C::bm).contains (.type "BaseException")=true:=by rw[x2,hb,ab2]
 let(hp,g,d,tk,os):=z;let(c0,d0,da,sl):=K;dsimp only at Ce hd;subst Ce hd;repeat (first|with_reducible refine wpAny_loadPart_at he ?_|with_reducible refine wpAny_loadPart_at V ?_|(with_reducible refine wpAny_isSubtype_exc V ?_;rw[P])|wp_step)
 rw[h1];repeat (first|with_reducible refine wpAny_raiseNew_none hh hE|wp_step)
def UZ{h:Ev}{g:Array GenState}{d:Drawn}{t:Nat}{os:OsState}{e:J}{V:Obj}{Q:Bool->ϋ->Prop}
  (hC:h.get? C=Z (excClassObj nm q C N bs bm rH sn sub ab col dd k0 k1 k2 k3 k5 newId)) (z:h.get? C'=Z (excClassObj nm' q' C' N' bs' bm' Xz sn' Oc ab' XS dd' j0 j1 j2 j3 j5 UY)) (he:h.get? e=Z V) (Ce:V.cls=.ref C)
  (hb:bm'.contains (.type "BaseException")=O) (hq:Q ((B.ref C::bm).contains (.ref C')) (h,g,d,t,os)):wpAny M A (excMatches (.ref e) (.ref C')) Q E (h,g,d,t,os):=by
 have P:(B.ref C'::bm').contains (.type "BaseException")=true:=by rw[x2,hb,ab2]
 have f:=tc_notTuple;unfold excMatches;repeat (first|(with_reducible refine wpAny_loadPart_at he ?_;rw[Ce])|with_reducible refine wpAny_loadPart_at z ?_|(with_reducible refine wpAny_isSubtype_exc z ?_;rw[P])|wp_step)
 all_goals(cases K:(B.ref C::bm).contains (.ref C') <;>(rw[K]at hq;first|exact wpAny_isSubtype_exc hC (by rw[K];exact hq)|(refine wpAny_isSubtype_exc hC ?_;rw[K];repeat (first|exact hq|wp_step))))
end
end PySem
namespace L2
open PySem PySem.Spec PyProof.Rows
def CX1(P:Db)(w:Da):CXT:=λouter H s E e s'=>∃a C dx T H',e=.ref a/\s'.os=s.os/\AllBare s'.gens/\Un (frs outer) [] H H' s.heap s'.heap/\HOk P w H' s'.heap /\
 H' a=Z (.ext (XAt a C dx ϊ))/\iu s'.heap a (.ref C) dx T .none/\H' T=Y/\s.heap.get? T=Y/\E (.ref C) (Z a) H'
section
variable{P:Db}{w:Da}{bi H H':Hp}{h₀ h h':Ev}{fs fr ex:Θ}{a C T:J}{dx:Option J}{fl:B}
def Un.pe(u:Un fs [] bi H h₀ h)(k:eT fr ex h h')(hex:∀b∈ex,(∃φ,H b=Z (.ext φ))\/h₀.get? b=Y)(P:∀b∈fr,b∈fs\/h₀.get? b=Y)(V:∀b,H' b=H b\/∃φ q,H b=Z (.ext φ)/\H' b=Z (.ext q)):Un fs [] bi H' h₀ h':=by
 have nx:∀b o,h₀.get? b=Z o->H b=Y->b ∉ ex:=λb o e n z=>by
  obtain⟨φ,y⟩|y:=hex b z
  ·rw[n]at y;cases y
  rw[e]at y;cases y
 have st:∀b o,H b=Z o->(∀φ,o ≠ .ext φ)->H' b=Z o:=λb o e n=>by
  obtain z |⟨φ,q,z,_⟩:=V b
  ·rw[z];exact e
  rw[e]at z;cases z;exact absurd U (n φ)
 refine(λb o e n g hx=>?_,λb o e n g hx=>?_,λb o e n hx=>?_,λb o e hx=>?_,λb xs e=>st b _ (u.n8 b xs e) nofun,λb o xs e=>st b _ (u.kC b o xs e) nofun,λb ps e=>?_)
 ·refine k.keep b o (u.keep b o e n g hx) (λz=>?_) (nx b o e (u.free b o e n hx));obtain y|y:=P b z
  ·exact g y
  rw[e]at y;cases y
 ·let(sl,e1):=u.slot b o e n g hx;let(K,e2):=k.slot b _ e1 (nx b o e (u.free b o e n hx));exact(K,e2)
 ·have Q:=u.free b o e n hx;obtain z |⟨φ,q,z,_⟩:=V b
  ·rw[z];exact Q
  rw[Q]at z;cases z
 ·let(o',e1):=u.there b o e hx;exact k.there b o' e1
 let(more,e1):=u.og b ps e;exact(more,st b _ e1 nofun)
def HOk.pe{φ:Ev->Prop}(ok:HOk P w H h)(k:eT fr ex h h')(g:∀b∈fr,H b=Y)(hex:∀b∈ex,b=a\/H b=Y)(Q:H a=Z (.ext φ))(V:∀b,b≠a->H' b=H b)(new:∀o,H' a=Z o->cz P w H' h' a o)
  (ak:∃ψ,H' a=Z (.ext ψ)):HOk P w H' h':=λc o e=>by
 by_cases K:c=a
 ·subst K;exact new o e
 rw[V c K]at e;have st:∀b v,H b=Z v->(∀φ,v ≠ .ext φ)->H' b=Z v:=λb v q n=>by
  rw[V b (λz=>by rw[z,Q]at q;cases q;exact n φ U)];exact q
 have go:∀b u v,H b=Z v->b≠a->h.get? b=Z u->h'.get? b=Z u:=λb u v q na r=>k.keep b u r (λz=>by rw[g b z]at q;cases q) λz=>by
  obtain y|y:=hex b z
  ·exact na y
  rw[y]at q;cases q
 refine(ok c o e).dO (λb u hb r=>?_) (λb q=>st b _ q nofun) λb xs q=>st b _ q nofun;obtain y|y:=hb
 ·rw[y]at r ⊢;exact go c u o e K r
 exact go b u _ y (kS y Q λz=>nomatch z) r
def _root_.PySem.iu.at(x:iu h a (.ref C) dx T fl):XAt a C dx ϊ h:=(_,x.2.1,λz=>nomatch z)
end
variable{P:Db}{mg:Υ}{base:Ev}{N:Γ}{qual:Str}{scope:Scope}{cd:B}{A:Do}{outer:List Env}{bi:Hp}{e:EQ}{te:TE}
section
variable{X:Cx}{gd:Ξ}{σ:St}{H:Hp}{s:ϋ}{a C T:J}{dx:Option J}{E:XK}{fn:Γ}
def pV(X:Cx)(Es:St->XK):Prop:=∀(gd:Ξ)(σ:St)(H:Hp)(s:ϋ)(a C:J)(dx:Option J),Inv X gd σ H s->H a=Z (.ext (XAt a C dx O))->Es σ (.ref C) (Z a) (upd H a (.ext (XAt a C dx ϊ)))->X.xe (.ref a) s
def jY(CX:CXT)(X:Cx)(Es:St->XK):Prop:=∀(gd:Ξ)(σ:St)(H:Hp)(s:ϋ)(e:B)(s':ϋ),Inv X gd σ H s->CX X.stack H s (Es σ) e s'->X.xe e s'
def JF{φ q:Ev->Prop}(e:H a=Z (.ext φ))(b:J):upd H a (.ext q) b=H b\/∃φ g,H b=Z (.ext φ)/\upd H a (.ext q) b=Z (.ext g):=by
 by_cases z:b=a
 ·rw[z];exact .inr (φ,q,e,ax)
 exact .inl (au z)
theorem DP{w:Da}{K:Ch}{f:J}{s₀:ϋ}:pV (rM (CX1 P w) P w K mg base N qual scope f cd A outer s₀ bi E) (λ_=>E):=by
 intro gd σ H s a C dx I e hE;obtain⟨y,hx,V⟩:XAt a C dx O s.heap:=(I.hok a _ e).1;rw[V rfl]at hx;refine vK (A:=A.deeper (envOfC qual scope s₀.heap.objs.size f cd)) (env:=envOfC qual scope s₀.heap.objs.size f cd) (outer:=outer) (base:=base) I.ok.frames I.stack U hx λh' T sz al Q=>?_;have lt:∀b o,s₀.heap.get? b=Z o->b<s₀.heap.objs.size:=λb o q=>kf q;refine(a,C,dx,T,upd H a (.ext (XAt a C dx ϊ)),U,I.os,I.bare,?_,?_,ax,al,?_,Zv (tY I.sz sz),hE)
 ·refine Un.pe (fr:=frs (envOfC qual scope s₀.heap.objs.size f cd::outer)) I.base Q (λb g=>?_) (λb g=>?_) (JF e)
  ·rw[fy.mp g];exact .inl (_,e)
  obtain z|z:=lb.mp (I.qI b g)
  ·exact .inr (by rw[z];exact Zv (mz _))
  exact .inl z
 ·exact HOk.pe (a:=a) I.hok Q (λb g=>I.lT b g) (λb g=>.inl (fy.mp g)) e (λb g=>au g) (λo q=>by rw[ax]at q;cases q;exact al.at.ok) (_,ax)
 rw[au al.1];exact I.hok.fresh sz
theorem D4{w:Da}{K:Ch}{f:J}{s₀:ϋ}:jY (CX1 P w) (rM (CX1 P w) P w K mg base N qual scope f cd A outer s₀ bi E) (λ_=>E):=by
 intro gd σ H s e s' I hx;let(a,C,dx,T,H',U,ar,hg,un,hok,V,al,hT,aF,hE):=hx;have g:=I.Cz (ch:=[]) ar un hok hg (λb z=>nomatch z);refine xG (A:=A.deeper (envOfC qual scope s₀.heap.objs.size f cd)) (env:=envOfC qual scope s₀.heap.objs.size f cd) (outer:=outer) (base:=base) g.ok.frames g.stack U al λh' T' sz ak kx=>?_;have aK:s₀.heap.get? T=none:=by cases q:s₀.heap.get? T with|none=>rfl|some o =>let(o',z):=I.base.there T o q (λz=>nomatch z);rw[aF]at z;cases z
 refine(a,C,dx,T',H',U,g.os,g.bare,?_,?_,V,ak,g.hok.fresh sz,Zv (tY g.sz sz),hE)
 ·refine Un.pe (fr:=frs (envOfC qual scope s₀.heap.objs.size f cd::outer)) g.base kx (λb Q=>?_) (λb Q=>?_) (λb=>.inl U)
  ·obtain z|z:=lb.mp Q
   ·rw[z];exact .inl (_,V)
   rw[fy.mp z];exact .inr aK
  obtain z|z:=lb.mp (g.qI b Q)
  ·exact .inr (by rw[z];exact Zv (mz _))
  exact .inl z
 refine HOk.pe (a:=a) g.hok kx (λb Q=>g.lT b Q) (λb Q=>?_) V (λb Q=>rfl) (λo q=>by rw[V]at q;cases q;exact ak.at.ok) (_,V);obtain z|z:=lb.mp Q
 ·exact .inl z
 rw[fy.mp z];exact .inr hT
def JN(K:Ch)(fn:Γ)(Es:St->XK)(te:TE):TS:=λ_ σ H=>te σ H λv H1=>∃a C bm ini dx,v=.ref a/\di K fn C bm ini/\H1 a=Z (.ext (XAt a C dx O))/\Es σ (.ref C) (Z a) (upd H1 a (.ext (XAt a C dx ϊ)))
def Le{Es:St->XK}{pos:Pos}(hc:X.calm=O)(hx:pV X Es)(he:PE X e te):PS X (.Raise (Z e) Y pos) (JN X.K fn Es te):=by right;rw[arm_exec_Raise];refine eB (wpAny_standAt (TR (I.ok.hd hc) (eB (thn (he gd s σ H _ I h) λv s1 Q=>?_))));let(x,H1,V,rx,a,C,bm,ini,dx,ex,c,ea,q):=Q;refine eB (wpAny_standAt (nT ?_));subst ex;obtain rfl:v=B.ref a:=rx;let(nm,q',N,bs,sn,sub,ab,col,dd,k0,k1,k2,k3,k5,mN,hC,hN,hS,hi,T):=c.all s1.heap V.kIn;let(y,(o,vs,a0,e1,P,ak,z,_,hy),g):=(V.hok a _ ea).1;rw[g rfl]at hy;exact(a,o,C,nm,q',N,bs,bm,O,sn,sub,ab,col,dd,k0,k1,k2,k3,k5,_,U,hC,T.hasType ad,e1,P,(vs,z,hy),hx gd σ H1 s1 a C dx V ea q)
end
abbrev Cx.inX(X:Cx)(a:J):Cx:={X with A:=X.A.mark (Z (.ref a)),calm:=ϊ,xe:=λ_ _=>False}
theorem Cx.Ok.inX{X:Cx}(ok:X.Ok)(a:J):(X.inX a).Ok:=
 (ok.mod,ok.kind,ok.glob,ok.blt,ok.above,ok.inj,ok.has,ok.cab,(λz=>nomatch z),ok.frames,ok.stk,ok.exf,ok.bs,ok.bsz,ok.Ec,ok.IP,ok.mx,ok.frf)
variable{M:Model}{E:Φ}{x:Str}
section
variable{X:Cx}{gd:Ξ}{σ:St}{H:Hp}{s:ϋ}{a:J}
theorem Inv.inX(I:Inv X gd σ H s)(a:J):Inv (X.inX a) gd σ H s:=(I.ok.inX a,I.os,I.bare,I.base,I.loc,I.cell,I.free,I.eJ,I.pin,I.hok,I.len)
def Inv.Ie(ok:X.Ok)(I:Inv (X.inX a) gd σ H s):Inv X gd σ H s:=(ok,I.os,I.bare,I.base,I.loc,I.cell,I.free,I.eJ,I.pin,I.hok,I.len)
theorem SP.Ie(ok:X.Ok){D:Ends}{f:Flow}{s':ϋ}(h:SP (X.inX a) gd D f s'):SP X gd D f s':=by cases f with|next=>let(g,H',I,q):=h;exact(g,H',I.Ie ok,q)|brk=>let(g,H',I,q):=h;exact(g,H',I.Ie ok,q)|cont=>let(g,H',I,q):=h;exact(g,H',I.Ie ok,q)|ret u=>let(v,g,H',I,r,q):=h;exact(v,g,H',I.Ie ok,r,q)
abbrev Cx.sZ(X:Cx)(pn:Ξ)(xe:Φ):Cx:={X with pn:=pn,xe:=xe}
theorem Cx.Ok.sZ{X:Cx}(ok:X.Ok)(pn:Ξ)(xe:Φ):(X.sZ pn xe).Ok:=
 (ok.mod,ok.kind,ok.glob,ok.blt,ok.above,ok.inj,ok.has,ok.cab,ok.hd,ok.frames,ok.stk,ok.exf,ok.bs,ok.bsz,ok.Ec,ok.IP,ok.mx,ok.frf)
theorem Inv.sZ(I:Inv X gd σ H s)(xe:Φ):Inv (X.sZ (X.pn++gd) xe) [] σ H s:=(I.ok.sZ _ _,I.os,I.bare,I.base,I.loc,I.cell,I.free,I.eJ,λp hp=>I.pin p (by rw[pq]at hp;exact hp),I.hok,I.len)
def Inv.sj{xe:Φ}{pins':Ξ}(ok:X.Ok)(I:Inv (X.sZ (X.pn++gd) xe) pins' σ H s):Inv X gd σ H s:=(ok,I.os,I.bare,I.base,I.loc,I.cell,I.free,I.eJ,λp hp=>I.pin p (ui _ hp),I.hok,I.len)
theorem SP.sj{xe:Φ}(ok:X.Ok){D:Ends}{f:Flow}{s':ϋ}(h:SP (X.sZ (X.pn++gd) xe) [] D f s'):SP X gd D f s':=by cases f with|next=>let(g,H',I,q):=h;exact(g,H',I.sj ok,q)|brk=>let(g,H',I,q):=h;exact(g,H',I.sj ok,q)|cont=>let(g,H',I,q):=h;exact(g,H',I.sj ok,q)|ret u=>let(v,g,H',I,r,q):=h;exact(v,g,H',I.sj ok,r,q)
structure Tb(X:Cx)(gd:Ξ)(H:Hp)(T:J):Prop where
 n:H T=Y
 l:T≠X.env.locals
 z:X.s₀.heap.objs.size<=T
 c:∀x c,X.env.cells.lookup x=Z c->c≠T
 p:∀p∈X.pn++gd,p.1≠T
def Tb.of{T:J}(I:Inv X gd σ H s)(h:s.heap.objs.size<=T):Tb X gd H T where
 n:=I.hok.fresh h
 l:=Fq (rz I.lt h)
 z:=tY I.sz h
 c:=λx c e z=>by
  let(v,o,ho,_):=I.cell x c e;rw[z]at ho;exact absurd (rz (kf ho) h) (E3 _)
 p:=λp hp z=>by
  have e:=(I.pin p hp).1;rw[z]at e;exact absurd (rz (kf e) h) (E3 _)
def l7{i:Nat}{pos:Pos}{Q:Unit->ϋ->Prop}(I:Inv X gd σ H s)(hN:X.N.Nodup)(hi:X.N[i]?=Z x)(hk:BT X x)
  (h:∀s',Inv X gd (σ.set i Y) H s'->Q () s'):wpAny M A (do bindName X.env x .none;unbindBehindTheSuite X.env x pos) Q E s:=by
 let(m,hn,hl):=id I.loc;have Ce:(X.env.scope.kind == .class ||(X.env.scope.kind == .module&&X.env.locals != X.env.globals))=false:=by rw[I.ok.kind];rfl
 have cne:=I.cne;refine wpAny_nameGoes_keeps hk hn Ce λh' v K hs=>?_;have sb:∀b o,X.s₀.heap.get? b=Z o->h'.get? b=s.heap.get? b:=λb o e=>hs.2 b (uj (rz (kf e) I.ok.above));let(oL,_,_,ak,_):=id hn;refine h _ (I.ok,I.os,I.bare,(λb o e n V hx=>(sb b o e).trans (I.base.keep b o e n V hx),λb o e n V hx=>?_,I.base.free,λb o e hx=>?_,I.base.n8,I.base.kC,I.base.og),(_,K,λj y v' e1 g e3=>?_),λy c e=>?_,I.free,I.eJ,λp hp=>?_,λb ob e=>?_,(I.len:))
 ·let(sl,e1):=I.base.slot b o e n V hx;exact(sl,(sb b o e).trans e1)
 ·let(o',e1):=I.base.there b o e hx;exact(o',(sb b o e).trans e1)
 ·by_cases P:j=i
  ·subst P;rw[List.getElem?_set]at g;split at g
   ·split at g <;> cases g
   rename_i z;exact absurd U z
  rw[Fe (Ne.symm P)]at g;let(u',r',q):=hl j y v' e1 g e3;refine(u',r',?_);obtain⟨k,e⟩|⟨k,c,e,z⟩:=q
  ·refine .inl (k,?_);have:y≠x:=λe=>P (vF hN e1 (e▸hi));simp[this,e]
  exact .inr (k,c,e,z.sameBut hs (cne y c e))
 ·let(w',z):=I.cell y c e;exact(w',z.sameBut hs (cne y c e))
 ·let(e,n,ne,nf,d):=I.pin p hp;exact((hs.2 p.1 ne).trans e,n,ne,nf,d)
 refine(I.hok b ob e).dO (λc w' hc q=>(hs.2 c ?_).trans q) (λ_ q=>q) λ_ _ q=>q;intro z;obtain y|y:=hc
 ·rw[<- y,z,I.free]at e;cases e
 rw[z,I.free]at y;cases y
end
abbrev TH:=J->J->TS
def PH(X:Cx)(hs:List ExceptHandler)(th:TH):Prop:=∀(gd:Ξ)(s:ϋ)(σ:St)(H:Hp)(D:Ends)(a C T:J)(dx:Option J),Inv X gd σ H s->H a=Z (.ext (XAt a C dx ϊ))->iu s.heap a (.ref C) dx T .none->Tb X gd H T ->
 th a C D σ H->XV X (handleBy (.ref a) X.env hs) (SP X gd D) X.xe s
def Mw:TH:=λ_ _ _ _ _=>False
def Ends.go(D:Ends)(i:Nat):Ends:={nx:=λσ H=>D.nx (σ.set i Y) H,rt:=D.rt,bk:=λσ H=>D.bk (σ.set i Y) H,ct:=λσ H=>D.ct (σ.set i Y) H}
def hAs(K:Ch)(fn:Γ)(C':J)(i:Nat)(ts:TS)(tr:TH):TH:=λa C D σ H=>∃bm ini,di K fn C bm ini/\((B.ref C::bm).contains (.ref C')=O->ts (D.go i) (σ.set i (Z (.ref a))) H)/\((B.ref C::bm).contains (.ref C')=ϊ->tr a C D σ H)
variable{hs:List ExceptHandler}{gd:Ξ}{H:Hp}{a:J}{C:J}{dx:Option J}{bm:Δ}{ini:Option J}{R:Result->ϋ->Prop}{body:List Fa}
section
variable{X:Cx}{fn:Γ}{C':J}{bm':Δ}{Ar:Option J}{n:Str}{p pos:Pos}{b0:Fa}{Be:List Fa}{rest:List ExceptHandler}{ts:TS}{tr:TH}{i:Nat}
def Ls:PH X hs Mw:=λ_ _ _ _ _ _ _ _ _ _ _ _ _ h=>h.elim
def Pm{s:ϋ}{σ:St}(hg:Gl X x)(hm:X.mg x=Z (.ref C'))(c':di X.K fn C' bm' Ar)(z:AT x)
  (I:Inv X gd σ H s) (ea:H a=Z (.ext (XAt a C dx ϊ))) (c:di X.K fn C bm ini) (h:R (.ok (if(B.ref C::bm).contains (.ref C')then .brk else .next)) s):
  codeAny (model X.prog X.w) (X.A.mark (Z (.ref a))) (.handlers (.ref a) [.ExceptHandler (Z (.Name x p)) Y [] pos] X.env) R s:=by
 refine codeAny_handlers_test (l9 (X:=X.inX a) (I.inX a) hg hm ?_ z);let(nm,q,N,bs,sn,sub,ab,col,dd,k0,k1,k2,k3,k5,mN,hC,_):=c.all s.heap I.kIn;let(nm',q',N',bs',sn',Oc,ab',XS,dd',j0,j1,j2,j3,j5,V,Q,_,_,_,T'):=c'.all s.heap I.kIn;let(y,(o,vs,a0,e1,P,_),_):=(I.hok a _ ea).1;let(hh,g,dr,tk,os):=s;exact UZ hC Q e1 P (T'.hasType ad) h
def IM{s:ϋ}{σ:St}{T:J}{Q:Unit->ϋ->Prop}(I:Inv X gd σ H s)(q:H a=Z (.ext (XAt a C dx ϊ)))(al:iu s.heap a (.ref C) dx T .none)(tb:Tb X gd H T)
  (h:∀s',Inv X gd σ H s'->Q () s'):wpAny M A (setFlight (.ref a) Y) Q E s:=
 gI al λh' _ k=>h _ (I.turned (it:=T) (t':=s.toks) (λb o g e=>k.keep b o e (λz=>nomatch z) (λz=>g (fy.mp z))) tb.n tb.l (.inr tb.z) tb.c tb.p)
def W5(Q:X.N.Nodup)(hi:X.N[i]?=Z n)(hk:BT X n)(hg:Gl X x)(hm:X.mg x=Z (.ref C'))(c':di X.K fn C' bm' Ar)(V:∀a,PSs (X.inX a) (b0::Be) ts)(hr:PH X rest tr)(ak:autoParam (AT x) zdc._auto_1):
  PH X (.ExceptHandler (Z (.Name x p)) (Z n) (b0::Be) pos::rest) (hAs X.K fn C' i ts tr):=by
 intro gd s σ H D a C T dx I ea al tb h;let(bm,ini,c,h1,h2):=h;refine wpAny_handleBy_cons (Pm hg hm c' ak I ea c ?_) (by intro q;cases q);cases hz:(B.ref C::bm).contains (.ref C')with
 |true =>
  show codeAny _ _ _ _ _;refine codeAny_handlers_suite_as (IM I ea al tb λs1 I1=>?_);refine iT I1 Q hi (.inl hk) (show RelV (.ref a) (B.ref a)from U) (λs2 I2=>?_) (.inr hk);refine QG (V a gd s2 _ H (D.go i) (I2.inX a) (h1 hz)) (λf s3 q=>?_) λ_ _ z=>False.elim z;have q:=q.Ie I.ok;cases f with|next=>let(g,H',ώ,q):=q;exact l7 ώ Q hi hk λs4 P=>(_,H',P,q)|brk=>let(g,H',ώ,q):=q;exact l7 ώ Q hi hk λs4 P=>(_,H',P,q)|cont=>let(g,H',ώ,q):=q;exact l7 ώ Q hi hk λs4 P=>(_,H',P,q)|ret u=>let(v,g,H',ώ,r,q):=q;exact l7 ώ Q hi hk λs4 P=>(v,_,H',P,r,q)
 |false=>exact hr gd s σ H D a C T dx I ea al tb (h2 hz)
def Wq(th:TH)(tb:(St->XK)->TS):TS:=λD σ H=>tb (λg cls oa H'=>∃a C,cls=.ref C/\oa=Z a/\th a C D g H') D σ H
def Ut{th:TH}{tb:(St->XK)->TS}{h0:ExceptHandler}(K:X.stack=X.env::X.outer)(hf:X.env.frame=Z X.env.locals)
  (g:∀(Es:St->XK)(pn:Ξ)(xe:Φ),jY (CX1 X.prog X.w) (X.sZ pn xe) Es->pV (X.sZ pn xe) Es->PSs (X.sZ pn xe) body (tb Es)) (hh:PH X (h0::hs) th):PS X (.Try body (h0::hs) [] [] pos) (Wq th tb):=by
 right;refine wpAny_Try_except (QG (g _ (X.pn++gd) (λe a0=>XV X (noteFrame e X.env) (λ_ s₂=>XV X (setFlight e Y) (λ_ aW=>XV X (handleBy e X.env (h0::hs)) (SP X gd D) X.xe aW) X.xe s₂) X.xe a0) ?_ ?_ [] s σ H D (I.sZ _) h) (λf s1 q=>?_) λe s1 q=>q)
 ·intro pins' P H1 s1 e s2 I1 hx;let(a,C,dx,T,H',U,a4,hg,un,hok,ea,al,hT,a5,a',C',ec,eo,hE):=hx;cases ec;cases eo;have ώ:=I1.sj I.ok;have J2:=ώ.Cz (ch:=[]) a4 un hok hg (λb z=>nomatch z);have V:=J2.stack;rw[K]at V;refine vE (base:=X.base) (L:=X.env.locals) (by rw[<- K];exact J2.ok.frames) V hf al λh3 T3 Q ar k3=>?_;refine gI ar λh4 ak k4=>?_;have kx:eT ((X.env::X.outer).filterMap (·.frame)) [a,T] s2.heap h4:=k3.trans (k4.mono nofun λb z=>z) λb ob q z=>by
   rw[fy.mp z]at q;exact absurd (rz (kf q) Q) (E3 _)
  have aF:Un (frs X.stack) [] H1 H' s1.heap h4:=Un.pe un kx (λb g=>by
   obtain z|z:=lb.mp g
   ·rw[z];exact .inl (_,ea)
   rw[fy.mp z];exact .inr a5) (λb g=>.inl (by rw[K];exact g)) (λb=>.inl U)
  have aK:HOk X.prog X.w H' h4:=by
   refine HOk.pe (a:=a) J2.hok kx (λb g=>J2.lT b (by rw[K];exact g)) (λb g=>?_) ea (λb g=>rfl) (λo q=>by rw[ea]at q;cases q;exact ak.at.ok) (_,ea);obtain z|z:=lb.mp g
   ·exact .inl z
   rw[fy.mp z];exact .inr hT
  have J4:Inv X gd P H' {s2 with heap:=h4}:=ώ.Cz (s':={s2 with heap:=h4}) (ch:=[]) a4 aF aK hg (λb z=>nomatch z);exact hh gd _ P H' D a C T3 dx J4 ea ak (Tb.of J2 Q) hE
 ·intro pins' P H1 s1 a C dx I1 ea hx;let(a',C',ec,eo,hE):=hx;cases ec;cases eo;have ώ:=I1.sj I.ok;obtain⟨y,a3,hy⟩:XAt a C dx O s1.heap:=(ώ.hok a _ ea).1;rw[hy rfl]at a3;have V:=ώ.stack;rw[K]at V;refine sG (base:=X.base) (L:=X.env.locals) (by rw[<- K];exact ώ.ok.frames) V hf a3 λh3 T3 Q ar k3=>?_;refine gI ar λh4 ak k4=>?_;have kx:eT ((X.env::X.outer).filterMap (·.frame)) [a] s1.heap h4:=k3.trans (k4.mono nofun λb z=>z) λb ob q z=>by
   rw[fy.mp z]at q;exact absurd (rz (kf q) Q) (E3 _)
  have aF:Un (frs X.stack) [] H1 (upd H1 a (.ext (XAt a C dx ϊ))) s1.heap h4:=Un.pe Un.refl kx (λb g=>by rw[fy.mp g];exact .inl (_,ea)) (λb g=>.inl (by rw[K];exact g)) (JF ea);have aK:HOk X.prog X.w (upd H1 a (.ext (XAt a C dx ϊ))) h4:=HOk.pe (a:=a) ώ.hok kx (λb g=>ώ.lT b (by rw[K];exact g)) (λb g=>.inl (fy.mp g)) ea (λb g=>au g) (λo q=>by rw[ax]at q;cases q;exact ak.at.ok) (_,ax);have J4:Inv X gd P (upd H1 a (.ext (XAt a C dx ϊ))) {s1 with heap:=h4}:=ώ.Cz (s':={s1 with heap:=h4}) (ch:=[]) U aF aK ώ.bare (λb z=>nomatch z);have tb:=Tb.of ώ Q;exact hh gd _ P _ D a C T3 dx J4 ax ak (by rw[au ar.1];exact tb.n,tb.l,tb.z,tb.c,tb.p) hE
 have q:=q.sj I.ok;cases f with|next=>exact wpAny_execs_nil q|brk=>exact q|cont=>exact q|ret u=>exact q
end
def Dv(sp:Sp)(Es:St->XK)(t:TA):TE:=λσ H Q=>t σ H λvs H1=>sp vs H1 Q (Es σ)
section
variable{X:Cx}{CX:CXT}{k:Nat}{f:J}{fd:Cl}{ps:Γ}{sp:Sp}{Es:St->XK}{p pos:Pos}{es:List EQ}{t:TA}
theorem Lz(F:aP X.prog X.w X.K X.mg X.base CX k f fd ps sp)(hr:dI k X.A)(hg:Gl X x)(hm:X.mg x=Z (.ref f))(hk:W.keepIn X.K (.ref f)=O)(hb:Binds X.K fd ps [])(hx:jY CX X Es)
  (ha:PA X (e::es) t) (V:autoParam (AT x) zdc._auto_1) (he:‹AD X e es›) (P:‹AS X pos es›):
  PE X (.Call (.Name x p) (e::es) [] pos) (Dv sp Es t):=by
 left;refine RA (l9 I hg hm ?_ V);refine W.callWith_K (h₀:=X.base) I.ok.mod.kin hk (thn (ha pos gd s σ H _ I h) λus s1 (vs,H1,z,r,q)=>(z.kIn,?_)) he P;have hl:(us++[]).length=ps.length:=by rw[pq,<- r.length];exact F.len _ _ _ _ q
 have g:=hb s1 us z.kIn hl;rw[pq]at g;refine wpAny_call (codeAny_mono (F.run X.A X.stack s1 H1 (us,[]) us vs Q (Es σ) hr z.VF g r q) λr s' hq=>?_);cases r with|error e=>exact hx gd σ H1 s1 e s' z hq|ok fl =>cases fl with|ret u=>exact z.after hq|next=>exact False.elim hq|brk=>exact False.elim hq|cont=>exact False.elim hq
theorem Fun.okX{w:Da}{K:Ch}{st:Fa}{f:J}{k:Nat}(F:Fun K x qual st f fd)(S:aD N ps (av st))(len:∀vs H Q E,sp vs H Q E->vs.length=ps.length)
  (z:∀(cdv:B)(A:Do)(outer:List Env)(s:ϋ)(H:Hp)(vs:Ω)(Q:VK)(E:XK),dI k (A.deeper (envOfC qual (av st) s.heap.objs.size f cdv))->sp vs H Q E ->
∃t,PSs (rM (CX1 P w) P w K mg base N qual (av st) f cdv A outer s H E) (bZ st) t/\t {nx:=λ_ H'=>Q .non H',rt:=Q} (start N vs) H):aP P w K mg base (CX1 P w) (k+1) f fd ps sp:=by
 let(oc,od,kV,doc,pm,an,cdv,ct,osl,U,lk,q):=F.ex;exact SD lk q S len λA outer s H vs Q E hr g=>z cdv A outer s H vs Q E hr g
end
def len0{P:Δ->Prop}(h:P [])(us:Δ)(e:us.length=0):P us:=by rw[uG.mp e];exact h
def Xk{P:Δ->Prop}(h:∀a,P [a])(us:Δ)(e:us.length=1):P us:=by
 cases us with
 |nil=>cases e
 |cons a r=>exact len0 (P:=λr=>P (a::r)) (h a) r (Nat.succ.inj e)
def Xj{P:Δ->Prop}(h:∀a b,P [a,b])(us:Δ)(e:us.length=2):P us:=by
 cases us with
 |nil=>cases e
 |cons a r=>exact Xk (P:=λr=>P (a::r)) (h a) r (Nat.succ.inj e)
def Xi{P:Δ->Prop}(h:∀a b c,P [a,b,c])(us:Δ)(e:us.length=3):P us:=by
 cases us with
 |nil=>cases e
 |cons a r=>exact Xj (P:=λr=>P (a::r)) (h a) r (Nat.succ.inj e)
def Xh{P:Δ->Prop}(h:∀a b c d,P [a,b,c,d])(us:Δ)(e:us.length=4):P us:=by
 cases us with
 |nil=>cases e
 |cons a r=>exact Xi (P:=λr=>P (a::r)) (h a) r (Nat.succ.inj e)
def Xg{P:Δ->Prop}(h:∀a b c d e,P [a,b,c,d,e])(us:Δ)(e:us.length=5):P us:=by
 cases us with
 |nil=>cases e
 |cons a r=>exact Xh (P:=λr=>P (a::r)) (h a) r (Nat.succ.inj e)
set_option genInjectivity true in
inductive T where
 |n|b (x:Bool)|i (x:Int)|s (x:Str)|t (xs:List T)|l (xs:List T)|d (ks:List (Key×T))|dE|z (ns:Ψ)|ty (x:String)|k (ws:Γ)|q|fd (o:Obj) (vs:Ϗ) (ks:List (Key×T))|xc (C:J) (ns:Γ) (ts:List T)|rm (u:Int)|ob (C:J) (ns:Γ) (ts:List T)|dp (a:J) (ks:List (Key×T))|lp (a:J) (xs:List T)|zl (xs:List T)|rf (a:J)|om (a C:J) (ns:Γ) (ts:List T)|fz (u:HO)
abbrev ϑ:=List T
abbrev ϓ:=List (Key×T)
abbrev ϔ:=L2.T->Prop
abbrev Dl:=List (J×J)
def FzL(K:Ch)(H:Hp)(a:J)(xs:Ω):Prop:=(∃o,H a=Z (.frz o (.lst xs))) \/
  ∃(o:Obj)(its:Array B)(n:Nat),K.lookup a=Z o/\o.cls=.type "list" /\ o.dict=Y/\o.data=.seq its n/\its.size<=lK/\Vals xs its.toList
theorem FzL.sq{K:Ch}{xs:Ω}(h:FzL K H a xs):SqL K H a xs:=by
 obtain h|h:=h
 ·exact .inl (.inr h)
 exact .inr h
def AW(a C dx:J)(h:Ev):Prop:=h.get? a=Z (W.instObj C dx)
inductive ObH(H:Hp)(a C:J)(fs:List (Str×V)):Prop
 |mk(dx:_)(h1:dx≠a)(h2:H a=Z (.ext (AW a C dx)))(h3:H dx=Z (.ext (XD dx fs)))
mutual
inductive aJ(K:Ch)(dl:Dl)(H:Hp):V->T->Θ->Prop where
 |n:aJ K dl H .non .n []|b(x:Bool):aJ K dl H (.bl x) (.b x) []|i(x:Int):aJ K dl H (.int x) (.i x) []|s(x:Str):aJ K dl H (.str x) (.s x) []|ty(x:String):aJ K dl H (.ty x) (.ty x) []|t{a:J}{vs:Ω}{ts:ϑ}{F:Θ}:H a=Z (.tup vs)->aB K dl H vs ts F->aJ K dl H (.ref a) (.t ts) F|l{a:J}{vs:Ω}{ts:ϑ}{F:Θ}:H a=Z (.lst vs)->aB K dl H vs ts F->aJ K dl H (.ref a) (.l ts) (a::F)|d{a:J}{vs:Ϗ}{ts:ϓ}{F:Θ}:H a=Z (.dK vs)->bo K dl H vs ts F->aJ K dl H (.ref a) (.d ts) (a::F)|x{a l:J}:(a,l)∈dl->aJ K dl H (.ref a) .dE []|z{a:J}{ns:Ψ}:FzL K H a (ns.map V.int)->aJ K dl H (.ref a) (.z ns) []|q{a:J}{xs:Ω}:H a=Z (.lst xs)->aJ K dl H (.ref a) .q []|fd{a:J}{o:Obj}{vs:Ϗ}{ts:ϓ}:H a=Z (.frz o (.dK vs))->bo K dl H vs ts []->aJ K dl H (.ref a) (.fd o vs ts) []|k{a:J}{ws:Γ}:(∀H':Hp,SqT K H' a (ws.map V.str))->aJ K dl H (.ref a) (.k ws) []|e{a C:J}{b:Bool}{ns:Γ}{vs:Ω}{ts:ϑ}:ExH H a C b (ns.zip vs)->aB K dl H vs ts []->aJ K dl H (.ref a) (.xc C ns ts) []|rm{a:J}{x u:Int}:H a=Z (.room x)->x<=u->aJ K dl H (.ref a) (.rm u) []|ob{a C:J}{ns:Γ}{vs:Ω}{ts:ϑ}:ObH H a C (ns.zip vs)->aB K dl H vs ts []->aJ K dl H (.ref a) (.ob C ns ts) []|dp{a:J}{vs:Ϗ}{ts:ϓ}{F:Θ}:H a=Z (.dK vs)->bo K dl H vs ts F->aJ K dl H (.ref a) (.dp a ts) (a::F)|lp{a:J}{vs:Ω}{ts:ϑ}{F:Θ}:H a=Z (.lst vs)->aB K dl H vs ts F->aJ K dl H (.ref a) (.lp a ts) (a::F)|zl{a:J}{o:Obj}{vs:Ω}{ts:ϑ}:H a=Z (.frz o (.lst vs))->aB K dl H vs ts []->aJ K dl H (.ref a) (.zl ts) []|rf(a:J):aJ K dl H (.ref a) (.rf a) []|om{a C dx:J}{ns:Γ}{vs:Ω}{ts:ϑ}{F:Θ}:H a=Z (.ins C dx (ns.zip vs))->H dx=Z (.own a)->ns.length=ts.length->aB K dl H vs ts F->aJ K dl H (.ref a) (.om a C ns ts) (a::dx::F)|fz{a:J}{o:Obj}{u:HO}:H a=Z (.frz o u)->aJ K dl H (.ref a) (.fz u) []
inductive aB(K:Ch)(dl:Dl)(H:Hp):Ω->ϑ->Θ->Prop where
 |nil:aB K dl H [] [] []|cons{v:V}{x:T}{vs:Ω}{ts:ϑ}{F G:Θ}:aJ K dl H v x F->aB K dl H vs ts G->aB K dl H (v::vs) (x::ts) (F++G)
inductive bo(K:Ch)(dl:Dl)(H:Hp):Ϗ->ϓ->Θ->Prop where
 |nil:bo K dl H [] [] []|cons{k:Key}{v:V}{x:T}{vs:Ϗ}{ts:ϓ}{F G:Θ}:aJ K dl H v x F->bo K dl H vs ts G->bo K dl H ((k,v)::vs) ((k,x)::ts) (F++G)
end
def HO.mt:HO->Bool
 |.lst _=>O|.dK _=>O|.ins _ _ _=>O|.own _=>O|_=>ϊ
inductive ik(H:Hp)(b:J):Prop
 |mk(o:_)(h1:H b=Z o)(h2:o.mt=O)
def ik.no{H:Hp}{b:J}(h:ik H b)(e:H b=Y):False:=by let(_,h,_):=h;rw[e]at h;cases h
structure TF(H H':Hp):Prop where
 t:∀a vs,H a=Z (.tup vs)->H' a=Z (.tup vs)
 f:∀a o u,H a=Z (.frz o u)->H' a=Z (.frz o u)
 x:∀a φ,H a=Z (.ext φ)->H' a=Z (.ext φ)
 q:∀a xs,H a=Z (.lst xs)->∃ys,H' a=Z (.lst ys)
 r:∀a x,H a=Z (.room x)->∃y,y<=x/\H' a=Z (.room y)
variable{H':Hp}
def ObH.tf{fs:List (Str×V)}(h:ObH H a C fs)(k:TF H H'):ObH H' a C fs:=by let(d,h1,h2,h3):=h;exact(d,h1,k.x _ _ h2,k.x _ _ h3)
def ExH.tf{b:Bool}{fs:List (Str×V)}(h:ExH H a C b fs)(k:TF H H'):ExH H' a C b fs:=by
 obtain⟨h1,h2⟩|⟨d,h1,h2,h3⟩:=h
 ·exact .inl (h1,k.x _ _ h2)
 exact .inr (d,h1,k.x _ _ h2,k.x _ _ h3)
theorem FzL.tf{K:Ch}{vs:Ω}(h:FzL K H a vs)(k:TF H H'):FzL K H' a vs:=by
 obtain⟨o,h⟩|h:=h
 ·exact .inl (o,k.f _ _ _ h)
 exact .inr h
def bX{α:Type}{p:α->Prop}:∀b∈([]:List α),p b:=λ_ h=>absurd h xQ
variable{dl:Dl}{dl':Dl}
theorem aJ.dO{K:Ch}(k:TF H H')(hd:∀p∈dl,p∈dl'){v:V}{t:T}{F:Θ}(h:aJ K dl H v t F):(∀b∈F,∀o,H b=Z o->H' b=Z o)->aJ K dl' H' v t F:=
 aJ.rec (motive_2:=λv t F _=>(∀b∈F,∀o,H b=Z o->H' b=Z o)->aB K dl' H' v t F) (motive_3:=λv t F _=>(∀b∈F,∀o,H b=Z o->H' b=Z o)->bo K dl' H' v t F)
  (λ_=>.n) (λx _=>.b x) (λx _=>.i x) (λx _=>.s x) (λx _=>.ty x) (λh _ g q=>.t (k.t _ _ h) (g q))
  (λh _ g q=>.l (q _ j4 _ h) (g λb P=>q b (j6 _ P))) (λh _ g q=>.d (q _ j4 _ h) (g λb P=>q b (j6 _ P)))
  (λh _=>.x (hd _ h)) (λh _=>.z (h.tf k)) (λh _=>Exists.elim (k.q _ _ h) λ_ e=>.q e) (λh _ g _=>.fd (k.f _ _ _ h) (g bX)) (λh _=>.k h) (λh _ g _=>.e (h.tf k) (g bX))
  (λh hx _=>Exists.elim (k.r _ _ h) λ_ e=>.rm e.2 (ae8 e.1 hx)) (λh _ g _=>.ob (h.tf k) (g bX)) (λh _ g q=>.dp (q _ j4 _ h) (g λb P=>q b (j6 _ P))) (λh _ g q=>.lp (q _ j4 _ h) (g λb P=>q b (j6 _ P))) (λh _ g _=>.zl (k.f _ _ _ h) (g bX)) (λa _=>.rf a) (λh1 h2 h3 _ g q=>.om (q _ j4 _ h1) (q _ (j6 _ j4) _ h2) h3 (g λb P=>q b (j6 _ (j6 _ P)))) (λh _=>.fz (k.f _ _ _ h))
  (λ_=>.nil) (λ_ _ i1 i2 q=>.cons (i1 λb P=>q b (ui _ P)) (i2 λb P=>q b (p7 _ P)))
  (λ_=>.nil) (λ_ _ i1 i2 q=>.cons (i1 λb P=>q b (ui _ P)) (i2 λb P=>q b (p7 _ P))) h
@[elab_as_elim]
theorem aB.ind{K:Ch}{M:Ω->ϑ->Θ->Prop}(nil:M [] [] [])(cons:∀v x vs ts F G,aJ K dl H v x F->aB K dl H vs ts G->M vs ts G->M (v::vs) (x::ts) (F++G)){vs:Ω}{ts:ϑ}{F:Θ}(h:aB K dl H vs ts F):M vs ts F:=
 aB.rec (motive_1:=λ_ _ _ _=>True) (motive_3:=λ_ _ _ _=>True) trivial (λ_=>trivial) (λ_=>trivial) (λ_=>trivial) (λ_=>trivial) (λ_ _ _=>trivial) (λ_ _ _=>trivial) (λ_ _ _=>trivial)
  (λ_=>trivial) (λ_=>trivial) (λ_=>trivial) (λ_ _ _=>trivial) (λ_=>trivial) (λ_ _ _=>trivial) (λ_ _=>trivial) (λ_ _ _=>trivial) (λ_ _ _=>trivial) (λ_ _ _=>trivial) (λ_ _ _=>trivial) (λ_=>trivial) (λ_ _ _ _ _=>trivial) (λ_=>trivial) nil (λh r _ g=>cons _ _ _ _ _ _ h r g) trivial (λ_ _ _ _=>trivial) h
@[elab_as_elim]
theorem bo.ind{K:Ch}{M:Ϗ->ϓ->Θ->Prop}(nil:M [] [] [])(cons:∀k v x vs ts F G,aJ K dl H v x F->bo K dl H vs ts G->M vs ts G->M ((k,v)::vs) ((k,x)::ts) (F++G)){vs:Ϗ}{ts:ϓ}{F:Θ}(h:bo K dl H vs ts F):M vs ts F:=
 bo.rec (motive_1:=λ_ _ _ _=>True) (motive_2:=λ_ _ _ _=>True) trivial (λ_=>trivial) (λ_=>trivial) (λ_=>trivial) (λ_=>trivial) (λ_ _ _=>trivial) (λ_ _ _=>trivial) (λ_ _ _=>trivial)
  (λ_=>trivial) (λ_=>trivial) (λ_=>trivial) (λ_ _ _=>trivial) (λ_=>trivial) (λ_ _ _=>trivial) (λ_ _=>trivial) (λ_ _ _=>trivial) (λ_ _ _=>trivial) (λ_ _ _=>trivial) (λ_ _ _=>trivial) (λ_=>trivial) (λ_ _ _ _ _=>trivial) (λ_=>trivial) trivial (λ_ _ _ _=>trivial) nil (λh r _ g=>cons _ _ _ _ _ _ _ h r g) h
theorem aB.dO{K:Ch}{dl dl':Dl}{H H':Hp}(k:TF H H')(hd:∀p∈dl,p∈dl'){vs:Ω}{ts:ϑ}{F:Θ}(h:aB K dl H vs ts F):(∀b∈F,∀o,H b=Z o->H' b=Z o)->aB K dl' H' vs ts F:=
 h.ind (λ_=>.nil) (λ_ _ _ _ _ _ h _ z q=>.cons (h.dO k hd λb g=>q b (ui _ g)) (z λb g=>q b (p7 _ g)))
theorem bo.dO{K:Ch}{dl dl':Dl}{H H':Hp}(k:TF H H')(hd:∀p∈dl,p∈dl'){vs:Ϗ}{ts:ϓ}{F:Θ}(h:bo K dl H vs ts F):(∀b∈F,∀o,H b=Z o->H' b=Z o)->bo K dl' H' vs ts F:=
 h.ind (λ_=>.nil) (λ_ _ _ _ _ _ _ h _ z q=>.cons (h.dO k hd λb g=>q b (ui _ g)) (z λb g=>q b (p7 _ g)))
variable{G:Θ}
def qG{F:Θ}(h:∀b∈F,ik H b)(r:∀b∈G,ik H b):∀b∈F++G,ik H b:=λb g=>(lN.mp g).elim (h b) (r b)
theorem aJ.there{K:Ch}{v:V}{t:T}{F:Θ}(h:aJ K dl H v t F):∀b∈F,ik H b:=
 aJ.rec
  bX (λ_=>bX) (λ_=>bX) (λ_=>bX) (λ_=>bX) (λ_ _ g=>g)
  (λh _ g b q=>(lb.mp q).elim (λe=>by rw[e];exact(_,h,U)) (g b)) (λh _ g b q=>(lb.mp q).elim (λe=>by rw[e];exact(_,h,U)) (g b))
  (λ_=>bX) (λ_=>bX) (λ_=>bX) (λ_ _ _=>bX) (λ_=>bX) (λ_ _ _=>bX)
  (λ_ _=>bX) (λ_ _ _=>bX) (λh _ g b q=>(lb.mp q).elim (λe=>by rw[e];exact(_,h,U)) (g b)) (λh _ g b q=>(lb.mp q).elim (λe=>by rw[e];exact(_,h,U)) (g b)) (λ_ _ _=>bX) (λ_=>bX) (λh1 h2 _ _ g b q=>(lb.mp q).elim (λe=>by rw[e];exact(_,h1,U)) λq=>(lb.mp q).elim (λe=>by rw[e];exact(_,h2,U)) (g b)) (λ_=>bX)
  bX (λ_ _ i1 i2=>qG i1 i2) bX (λ_ _ i1 i2=>qG i1 i2) h
theorem aB.there{K:Ch}{dl:Dl}{H:Hp}{vs:Ω}{ts:ϑ}{F:Θ}(h:aB K dl H vs ts F):∀b∈F,ik H b:=h.ind bX (λ_ _ _ _ _ _ h _ g=>qG h.there g)
def Nd(dl:Dl)(b:J):Prop:=∀p∈dl,b≠p.1/\b≠p.2
def Dls(dl:Dl)(H:Hp):Prop:=∀p∈dl,qi H p.1 p.2
def Dls.nd(D:Dls dl H){b:J}{o:HO}(h:H b=Z o)(h1:∀xs,o ≠ .lst xs)(h2:∀ks,o ≠ .dK ks):Nd dl b:=λp hp=>by
 let(s,n,ls,Q):=D p hp;exact(kS h Q.hd (h2 _),kS h Q.hl (h1 _))
def Dls.nd0(D:Dls dl H){b:J}(h:H b=Y):Nd dl b:=λp hp=>by
 let(s,n,ls,Q):=D p hp;exact((aX Q.hd h).symm,(aX Q.hl h).symm)
def NR(o:HO):Prop:=∀x,o ≠ .room x
structure Evo(dl:Dl)(H H':Hp):Prop where
 k:∀b o,H b=Z o->Nd dl b->NR o->H' b=Z o
 d:Dls dl H'
 r:∀a x,H a=Z (.room x)->∃y,y<=x/\H' a=Z (.room y)
def NR.of{b:J}{o:HO}(h:ik H b)(e:H b=Z o):NR o:=λx z=>by
 let(_,h,m):=h;rw[e,z]at h;cases h;cases m
def Evo.refl(D:Dls dl H):Evo dl H H:=(λ_ _ h _ _=>h,D,λ_ x h=>(x,RE _,h))
variable{H1:Hp}{H2:Hp}
def Evo.trans(a:Evo dl H H1)(b:Evo dl H1 H2):Evo dl H H2:=(λc o h n r=>b.k c o (a.k c o h n r) n r,b.d,λc x h=>let(y,q,e):=a.r c x h;let(z,g,K):=b.r c y e;(z,ae8 g q,K))
def Evo.tf(e:Evo dl H H')(D:Dls dl H):TF H H':=
 (λa vs h=>e.k a _ h (D.nd h nofun nofun) nofun,λa o u h=>e.k a _ h (D.nd h nofun nofun) nofun,λa φ h=>e.k a _ h (D.nd h nofun nofun) nofun,λa xs h=>(by
  by_cases hn:Nd dl a
  ·exact(xs,e.k a _ h hn nofun)
  obtain⟨p,hp,z⟩:∃p∈dl,¬(a≠p.1/\a≠p.2):=Classical.byContradiction λc=>hn λp hp=>Classical.byContradiction λz=>c (p,hp,z);let(s,n,ls,Q):=D p hp;let(s',q,ls',Q'):=e.d p hp;have h1:=kS h Q.hd (λz=>nomatch z);have h2:=Classical.byContradiction λg=>z (h1,g);exact(_,by rw[h2];exact Q'.hl)),e.r)
theorem Evo.new{p:J}{o:HO}(e:Evo dl H H1)(hp:H1 p=Y):Evo dl H (upd H1 p o):=
 (λc u h n r=>by rw[au (aX (e.k c u h n r) hp)];exact e.k c u h n r,λq hq=>(e.d q hq).new hp,λc x h=>let(y,z,g):=e.r c x h;(y,z,by rw[au (aX g hp)];exact g))
def Evo.free(e:Evo dl H H'){p:J}(hp:H' p=Y):H p=none:=by
 cases q:H p with
 |none=>rfl|some o =>
  by_cases hn:NR o
  ·rw[e.k p o q (e.d.nd0 hp) hn]at hp;cases hp
  obtain⟨x,hx⟩:∃x,o=.room x:=Classical.byContradiction λc=>hn λx z=>c (x,z);subst hx;let(y,_,g):=e.r p x q;rw[g]at hp;cases hp
structure Rp(K:Ch)(dl:Dl)(H:Hp)(v:V)(t:T)(F:Θ):Prop where
 r:aJ K dl H v t F
 n:∀b∈F,Nd dl b
structure Rps(K:Ch)(dl:Dl)(H:Hp)(vs:Ω)(ts:ϑ)(F:Θ):Prop where
 r:aB K dl H vs ts F
 n:∀b∈F,Nd dl b
theorem Rp.evo{K:Ch}{v:V}{t:T}{F:Θ}(h:Rp K dl H v t F)(D:Dls dl H)(e:Evo dl H H'):Rp K dl H' v t F:=
 (h.r.dO (e.tf D) (λ_ q=>q) λb g o q=>e.k b o q (h.n b g) (.of (h.r.there b g) q),h.n)
theorem Rps.evo{K:Ch}{v:Ω}{t:ϑ}{F:Θ}(h:Rps K dl H v t F)(D:Dls dl H)(e:Evo dl H H'):Rps K dl H' v t F:=
 (h.r.dO (e.tf D) (λ_ q=>q) λb g o q=>e.k b o q (h.n b g) (.of (h.r.there b g) q),h.n)
inductive Sl where
 |no|o (t:T)|r (t:T)
abbrev Sq:=List Sl
def Sl.get:Sl->Option T
 |.no=>Y|.o t=>Z t|.r t=>Z t
structure RdR(K:Ch)(dl:Dl)(H:Hp)(σ:St)(q:Sq):Prop where
 d:Dls dl H
 g:∀(i:Nat)(x:Sl)(t:T),q[i]?=Z x->x.get=Z t->∃v F,σ[i]?=Z (Z v)/\Rp K dl H v t F
theorem RdR.evo{K:Ch}{dl:Dl}{H H':Hp}{σ:St}{q:Sq}(h:RdR K dl H σ q)(e:Evo dl H H'):RdR K dl H' σ q:=
 (e.d,λi x t h1 h2=>let(v,F,h3,h4):=h.g i x t h1 h2;(v,F,h3,h4.evo h.d e))
abbrev QE:=Sq->(T->Prop)->Prop
abbrev QT:=Sq->(Bool->Prop)->Prop
abbrev QA:=Sq->(ϑ->Prop)->Prop
def iQ(K:Ch)(te:TE)(tq:QE):Prop:=∀(dl:Dl)(H:Hp)(σ:St)(q:Sq)(Q:T->Prop)(R:V->Hp->Prop),RdR K dl H σ q->tq q Q ->
 (∀v t F H',Evo dl H H'->Rp K dl H' v t F->Q t->R v H')->te σ H R
def jX(K:Ch)(te:TE)(tq:QE):Prop:=∀(dl:Dl)(H:Hp)(σ:St)(q:Sq)(Q:T->Prop)(R:V->Hp->Prop),RdR K dl H σ q->tq q Q ->
 (∀v t F H',Evo dl H H'->Rp K dl H' v t F->(∀b∈F,H b=Y)->F.Nodup->Q t->R v H')->te σ H R
def nO(K:Ch)(te:TT)(tq:QT):Prop:=∀(dl:Dl)(H:Hp)(σ:St)(q:Sq)(Q:Bool->Prop)(R:Bool->Hp->Prop),RdR K dl H σ q->tq q Q ->
 (∀b H',Evo dl H H'->Q b->R b H')->te σ H R
def Ru(K:Ch)(n:Nat)(te:TA)(tq:QA):Prop:=∀(dl:Dl)(H:Hp)(σ:St)(q:Sq)(Q:ϑ->Prop)(R:Ω->Hp->Prop),RdR K dl H σ q->tq q Q ->
 (∀vs ts F H',Evo dl H H'->Rps K dl H' vs ts F->vs.length=n->Q ts->R vs H')->te σ H R
def X9(K:Ch)(n:Nat)(te:TA)(tq:QA):Prop:=∀(dl:Dl)(H:Hp)(σ:St)(q:Sq)(Q:ϑ->Prop)(R:Ω->Hp->Prop),RdR K dl H σ q->tq q Q ->
 (∀vs ts F H',Evo dl H H'->Rps K dl H' vs ts F->vs.length=n->(∀b∈F,H b=Y)->F.Nodup->Q ts->R vs H')->te σ H R
structure QPE(X:Cx)(K:Ch)(e:EQ)(te:TE)(tq:QE):Prop where
 h:PE X e te
 s:iQ K te tq
structure QPF(X:Cx)(K:Ch)(e:EQ)(te:TE)(tq:QE):Prop where
 h:PE X e te
 s:jX K te tq
structure QPT(X:Cx)(K:Ch)(e:EQ)(te:TT)(tq:QT):Prop where
 h:PT X e te
 s:nO K te tq
structure QPW(X:Cx)(K:Ch)(e:EQ)(te:TT)(tq:QT):Prop where
 h:PW X e te
 s:nO K te tq
structure QPA(X:Cx)(K:Ch)(es:List EQ)(te:TA)(tq:QA):Prop where
 h:PA X es te
 s:Ru K es.length te tq
structure AV(X:Cx)(K:Ch)(es:List EQ)(te:TA)(tq:QA):Prop where
 h:PA X es te
 s:X9 K es.length te tq
section
variable{X:Cx}{K:Ch}{a b:EQ}{ta tb:TE}{qa qb qe:QE}{pos:Pos}
def ZB(h:QPF X K e te qe):QPE X K e te qe:=(h.h,λdl H σ q Q R rd hq k=>h.s dl H σ q Q R rd hq λv t F H' e r _ _ z=>k v t F H' e r z)
mutual
def T.im:T->Bool
 |.t xs=>T.ims xs|.l _=>ϊ|.d _=>ϊ|.dp _ _=>ϊ|.lp _ _=>ϊ|.om _ _ _ _=>ϊ|_=>O
def T.ims:ϑ->Bool
 |[]=>O|x::r=>x.im&&T.ims r
end
def vS{F:Θ}{x y:Bool}(h:x=O->F=[])(r:y=O->G=[])(q:(x&&y)=O):F++G=[]:=by rw[h (rX _ _▸q).1,r (rX _ _▸q).2];rfl
theorem aJ.im{dl:Dl}{H:Hp}{v:V}{t:T}{F:Θ}(h:aJ K dl H v t F):t.im=O->F=[]:=
 aJ.rec (motive_3:=λ_ _ _ _=>True)
  (λ_=>rfl) (λ_ _=>rfl) (λ_ _=>rfl) (λ_ _=>rfl) (λ_ _=>rfl) (λ_ _ g=>g) (λ_ _ _ h=>absurd h ri) (λ_ _ _ h=>absurd h ri)
  (λ_ _=>rfl) (λ_ _=>rfl) (λ_ _=>rfl) (λ_ _ _ _=>rfl) (λ_ _=>rfl) (λ_ _ _ _=>rfl) (λ_ _ _=>rfl) (λ_ _ _ _=>rfl) (λ_ _ _ h=>absurd h ri) (λ_ _ _ h=>absurd h ri) (λ_ _ _ _=>rfl) (λ_ _=>rfl) (λ_ _ _ _ _ h=>absurd h ri) (λ_ _=>rfl) (λ_=>rfl) (λ_ _ i1 i2=>vS i1 i2) trivial (λ_ _ _ _=>trivial) h
theorem aB.im{dl:Dl}{H:Hp}{v:Ω}{t:ϑ}{F:Θ}(h:aB K dl H v t F):T.ims t=O->F=[]:=h.ind (λ_=>rfl) (λ_ _ _ _ _ _ h _ g=>vS h.im g)
inductive Ex2{α:Type}(p:α->Prop)(Q:α->Prop):Prop
 |mk(x:α)(h:p x)(k:Q x)
inductive Ex3{α β:Type}(p:α->Prop)(g:α->β)(Q:β->Prop):Prop
 |mk(x:α)(h:p x)(k:Q (g x))
inductive Ex4{α β:Type}(p r:α->Prop)(g:α->β)(Q:β->Prop):Prop
 |mk(x:α)(h:p x)(h2:r x)(k:Q (g x))
def on1(ts:ϑ)(P:T->Prop):Prop:=match ts with|[t]=>P t|_=>False
def on1.inv{ts:ϑ}{P:T->Prop}(h:on1 ts P):∃t,ts=[t]/\P t:=by cases ts with|nil=>exact h.elim|cons t r=>cases r with|nil=>exact(t,U,h)|cons=>exact h.elim
def on2(ts:ϑ)(P:T->T->Prop):Prop:=match ts with|[t,u]=>P t u|_=>False
def on2.inv{ts:ϑ}{P:T->T->Prop}(h:on2 ts P):∃t u,ts=[t,u]/\P t u:=by cases ts with|nil=>exact h.elim|cons t r=>cases r with|nil=>exact h.elim|cons u r=>cases r with|nil=>exact(t,u,U,h)|cons=>exact h.elim
def qIm(qe:QE):QE:=λq Q=>qe q λt=>t.im=O/\Q t
theorem XL(h:QPE X K e te qe):QPF X K e te (qIm qe):=(h.h,λdl H σ q Q R rd hq k=>h.s dl H σ q _ R rd hq λv t F H' e r (P,g)=>by have f:=r.r.im P;subst f;exact k v t [] H' e r nofun ot g)
def aQ(i:Nat):QE:=λq Q=>match q[i]? with|some (.o t)=>Q t|some (.r t)=>Q t|_=>False
def Og(i:Nat):iQ K (b8 i) (aQ i):=by
 intro dl H σ q Q R rd hq k;unfold aQ at hq;split at hq
 ·rename_i t e;let(v,F,h1,h2):=rd.g i _ t e U;exact(v,h1,k v t F H (.refl rd.d) h2 hq)
 ·rename_i t e;let(v,F,h1,h2):=rd.g i _ t e U;exact(v,h1,k v t F H (.refl rd.d) h2 hq)
 exact hq.elim
def qv(i:Nat){pos:Pos}(q:‹X.N[i]?=Z x›)(hv:Vis X.env.scope x:=by first|exact Or.inl rfl|exact Or.inr (Or.inl U)|exact Or.inr (Or.inr U))(hd:autoParam (AT x) zdc._auto_1)
  (g:autoParam ((x ==("__classdict__":Str))=false) zdc._auto_1):QPE X K (.Name x pos) (b8 i) (aQ i):=(Lv q hv hd g,Og i)
def qC(t:T):QE:=λ_ Q=>Q t
def FG{v:V}{t:T}(h:∀dl H,aJ K dl H v t []):jX K (tC v) (qC t):=λdl H σ q Q R rd hq k=>k v t [] H (.refl rd.d) (h dl H,nofun) nofun ot hq
def bF{i j pos}:QPF X K (.Constant (.int i) j pos) (tC (.int i)) (qC (.i i)):=(bV,FG λ_ _=>.i i)
def yx{b j pos}:QPF X K (.Constant (.bool b) j pos) (tC (.bl b)) (qC (.b b)):=(W8,FG λ_ _=>.b b)
def cO{j pos}:QPF X K (.Constant .none j pos) (tC .non) (qC .n):=(UK,FG λ_ _=>.n)
def aE{x j pos}:QPF X K (.Constant (.str x) j pos) (tC (.str x)) (qC (.s x)):=(d8,FG λ_ _=>.s x)
theorem nq{dl:Dl}{H:Hp}:∀(ws:Γ),aB K dl H (ws.map V.str) (ws.map T.s) []
 |[]=>.nil|w::r=>.cons (.s w) (nq r)
theorem vg{dl:Dl}{H:Hp}:∀(ws:Ψ),aB K dl H (ws.map V.int) (ws.map T.i) []
 |[]=>.nil|w::r=>.cons (.i w) (vg r)
abbrev Q2:=T->T->(T->Prop)->Prop
def Ng(K:Ch)(r:R2)(rq:Q2):Prop:=∀(dl:Dl)(H:Hp)(x y:V)(t u:T)(F G:Θ)(Q:T->Prop)(R:V->Hp->Prop),Dls dl H->Rp K dl H x t F->Rp K dl H y u G->rq t u Q ->
 (∀v z F' H',Evo dl H H'->Rp K dl H' v z F'->Q z->R v H')->r x y H R
def df(K:Ch)(r:R2)(rq:Q2):Prop:=∀(dl:Dl)(H:Hp)(x y:V)(t u:T)(F G:Θ)(Q:T->Prop)(R:V->Hp->Prop),Dls dl H->Rp K dl H x t F->Rp K dl H y u G->rq t u Q ->
 (∀v z F' H',Evo dl H H'->Rp K dl H' v z F'->(∀b∈F',H b=Y)->F'.Nodup->Q z->R v H')->r x y H R
variable{rq:Q2}
def df.w{r:R2}(h:df K r rq):Ng K r rq:=λdl H x y t u F G Q R d a b hq k=>h dl H x y t u F G Q R d a b hq λv z F' H' e r _ _ g=>k v z F' H' e r g
def qOp(rq:Q2)(qa qb:QE):QE:=λq Q=>qa q λt=>qb q λu=>rq t u Q
def zt{r:R2}(ho:Ng K r rq)(ha:iQ K ta qa)(hb:iQ K tb qb):iQ K (tOp r ta tb) (qOp rq qa qb):=by intro dl H σ q Q R rd hq k;exact ha dl H σ q _ _ rd hq λv t F H1 e1 r1 P=>(hb dl H1 σ q _ _ (rd.evo e1) P λw u G H2 V r2 g=>(ho dl H2 v w t u F G Q R V.d (r1.evo e1.d V) r2 g λv' z F' H3 e3 r3 hz=>k v' z F' H3 ((e1.trans V).trans e3) r3 hz))
def FD{r:R2}(ho:df K r rq)(ha:iQ K ta qa)(hb:iQ K tb qb):jX K (tOp r ta tb) (qOp rq qa qb):=by intro dl H σ q Q R rd hq k;exact ha dl H σ q _ _ rd hq λv t F H1 e1 r1 V=>(hb dl H1 σ q _ _ (rd.evo e1) V λw u G H2 g r2 P=>(ho dl H2 v w t u F G Q R g.d (r1.evo e1.d g) r2 P λv' z F' H3 e3 r3 f3 n3 hz=>k v' z F' H3 ((e1.trans g).trans e3) r3 (λb hb=>(e1.trans g).free (f3 b hb)) n3 hz))
def qU{op:Operator}{r:R2}(ho:OpR X (binaryOp op) r)(hs:df K r rq)(q:QPE X K a ta qa)(g:QPE X K b tb qb):QPF X K (.BinOp a op b pos) (tOp r ta tb) (qOp rq qa qb):=(c6 ho q.h g.h,FD hs q.s g.s)
end
end L2
namespace L2
open PySem PySem.Spec PyProof.Rows
variable{x:Str}{C:J}{ns:Γ}{a:J}{ws:Γ}{G:Θ}
section
variable{X:Cx}{K:Ch}{dl:Dl}{H:Hp}{v:V}{F:Θ}
def Zf(K:Ch)(dl:Dl)(H:Hp)(v:V)(F:Θ):T->Prop
 |.n=>v=.non/\F=[]|.b x=>v=.bl x/\F=[]|.i x=>v=.int x/\F=[]|.s x=>v=.str x/\F=[]|.ty x=>v=.ty x|.t ts=>∃a vs,v=.ref a/\H a=Z (.tup vs)/\aB K dl H vs ts F|.l ts=>∃a vs G,v=.ref a/\F=a::G/\H a=Z (.lst vs)/\aB K dl H vs ts G|.d ts=>∃a vs G,v=.ref a/\F=a::G/\H a=Z (.dK vs)/\bo K dl H vs ts G|.dE=>∃a l,v=.ref a/\(a,l)∈dl/\F=[]|.z ns=>∃a,v=.ref a/\FzL K H a (ns.map V.int)/\F=[]|.k ws=>∃a,v=.ref a/\(∀H',SqT K H' a (ws.map V.str))/\F=[]|.xc C ns ts=>∃a b vs,v=.ref a/\F=[]/\ExH H a C b (ns.zip vs)/\aB K dl H vs ts []|.q=>True|.fd _ _ _=>True|.rm u=>∃a x,v=.ref a/\H a=Z (.room x)/\x<=u/\F=[]|.ob C ns ts=>∃a vs,v=.ref a/\F=[]/\ObH H a C (ns.zip vs)/\aB K dl H vs ts []|.dp a ts=>∃vs G,v=.ref a/\F=a::G/\H a=Z (.dK vs)/\bo K dl H vs ts G|.lp a ts=>∃vs G,v=.ref a/\F=a::G/\H a=Z (.lst vs)/\aB K dl H vs ts G|.zl ts=>∃a o vs,v=.ref a/\F=[]/\H a=Z (.frz o (.lst vs))/\aB K dl H vs ts []|.rf a=>v=.ref a/\F=[]|.om a C ns ts=>∃dx vs G,v=.ref a/\F=a::dx::G/\H a=Z (.ins C dx (ns.zip vs))/\H dx=Z (.own a)/\ns.length=ts.length/\aB K dl H vs ts G|.fz u=>∃a o,v=.ref a/\F=[]/\H a=Z (.frz o u)
def aJ.inv{t:T}(h:aJ K dl H v t F):Zf K dl H v F t:=
 aJ.rec (motive_2:=λ_ _ _ _=>True) (motive_3:=λ_ _ _ _=>True) (U,U) (λ_=>(U,U)) (λ_=>(U,U)) (λ_=>(U,U)) (λ_=>rfl)
  (λh r _=>(_,_,U,h,r)) (λh r _=>(_,_,_,U,U,h,r)) (λh r _=>(_,_,_,U,U,h,r)) (λh=>(_,_,U,h,U)) (λh=>(_,U,h,U)) (λ_=>trivial) (λ_ _ _=>trivial) (λh=>(_,U,h,U)) (λh r _=>(_,_,_,U,U,h,r)) (λh hx=>(_,_,U,h,hx,U)) (λh r _=>(_,_,U,U,h,r)) (λh r _=>(_,_,U,U,h,r)) (λh r _=>(_,_,U,U,h,r)) (λh r _=>(_,_,_,U,U,h,r)) (λ_=>(U,U)) (λh1 h2 h3 r _=>(_,_,_,U,U,h1,h2,h3,r)) (λh=>(_,_,U,U,h))
  trivial (λ_ _ _ _=>trivial) trivial (λ_ _ _ _=>trivial) h
theorem aJ.int{x:Int}(h:aJ K dl H v (.i x) F):v=.int x/\F=[]:=h.inv
theorem aJ.str(h:aJ K dl H v (.s x) F):v=.str x/\F=[]:=h.inv
theorem aJ.bl{x:Bool}(h:aJ K dl H v (.b x) F):v=.bl x/\F=[]:=h.inv
theorem aJ.non(h:aJ K dl H v .n F):v=.non/\F=[]:=h.inv
theorem aJ.tup{ts:ϑ}(h:aJ K dl H v (.t ts) F):∃a vs,v=.ref a/\H a=Z (.tup vs)/\aB K dl H vs ts F:=h.inv
theorem aJ.lst{ts:ϑ}(h:aJ K dl H v (.l ts) F):∃a vs G,v=.ref a/\F=a::G/\H a=Z (.lst vs)/\aB K dl H vs ts G:=h.inv
def aJ.dic{ts:ϓ}(h:aJ K dl H v (.d ts) F):∃a vs G,v=.ref a/\F=a::G/\H a=Z (.dK vs)/\bo K dl H vs ts G:=h.inv
def aJ.roo{u:Int}(h:aJ K dl H v (.rm u) F):∃a x,v=.ref a/\H a=Z (.room x)/\x<=u/\F=[]:=h.inv
def aJ.obj{ts:ϑ}(h:aJ K dl H v (.ob C ns ts) F):∃a vs,v=.ref a/\F=[]/\ObH H a C (ns.zip vs)/\aB K dl H vs ts []:=h.inv
def aJ.dpp{ts:ϓ}(h:aJ K dl H v (.dp a ts) F):∃vs G,v=.ref a/\F=a::G/\H a=Z (.dK vs)/\bo K dl H vs ts G:=h.inv
def aJ.lpp{ts:ϑ}(h:aJ K dl H v (.lp a ts) F):∃vs G,v=.ref a/\F=a::G/\H a=Z (.lst vs)/\aB K dl H vs ts G:=h.inv
def aJ.zls{ts:ϑ}(h:aJ K dl H v (.zl ts) F):∃a o vs,v=.ref a/\F=[]/\H a=Z (.frz o (.lst vs))/\aB K dl H vs ts []:=h.inv
def aJ.omm{ts:ϑ}(h:aJ K dl H v (.om a C ns ts) F):∃dx vs G,v=.ref a/\F=a::dx::G/\H a=Z (.ins C dx (ns.zip vs))/\H dx=Z (.own a)/\ns.length=ts.length/\aB K dl H vs ts G:=h.inv
def aJ.dea(h:aJ K dl H v .dE F):∃a l,v=.ref a/\(a,l)∈dl/\F=[]:=h.inv
def aJ.scr{ns:Ψ}(h:aJ K dl H v (.z ns) F):∃a,v=.ref a/\FzL K H a (ns.map V.int)/\F=[]:=h.inv
def aJ.kst(h:aJ K dl H v (.k ws) F):∃a,v=.ref a/\(∀H',SqT K H' a (ws.map V.str))/\F=[]:=h.inv
def aB.len{vs:Ω}{ts:ϑ}{F:Θ}(h:aB K dl H vs ts F):vs.length=ts.length:=h.ind U λ_ _ _ _ _ _ _ _ g=>congrArg (· + 1) g
def bo.len{vs:Ϗ}{ts:ϓ}{F:Θ}(h:bo K dl H vs ts F):vs.length=ts.length:=h.ind U λ_ _ _ _ _ _ _ _ _ g=>congrArg (· + 1) g
def aB.XJ{vs:Ω}{ts:ϑ}{F:Θ}{i:Nat}{t:T}(h:aB K dl H vs ts F)(e:ts[i]?=Z t):∃v G,vs[i]?=Z v/\aJ K dl H v t G/\G.Sublist F:=
 h.ind (λ_ _ e=>nomatch e) (λv x vs ts F G h _ g i t e=>by
  cases i with
  |zero=>cases e;exact(v,F,U,h,List.sublist_append_left _ _)
  |succ i =>
   let(w,q,h1,h2,h3):=g i t e;exact(w,q,h1,h2,h3.trans (ab7 _ _))) i t e
def aB.get{vs:Ω}{ts:ϑ}{F:Θ}{i:Nat}{t:T}(h:aB K dl H vs ts F)(e:ts[i]?=Z t):∃v G,vs[i]?=Z v/\aJ K dl H v t G/\∀b∈G,b∈F:=
 Exists.elim (h.XJ e) λv z=>Exists.elim z λG z=>(v,G,z.1,z.2.1,λ_ g=>z.2.2.subset g)
def aB.append{vs ws:Ω}{ts us:ϑ}{F:Θ}(h:aB K dl H vs ts F)(h2:aB K dl H ws us G):aB K dl H (vs++ws) (ts++us) (F++G):=
 h.ind h2 λ_ _ _ _ _ _ h _ g=>by rw[wI];exact .cons h g
def aB.jJ{vs:Ω}{ts:ϑ}(h:aB K dl H vs ts F):vs=[] ↔ ts=[]:=by cases h with|nil=>simp|cons _ _=>simp
theorem aB.drop:∀{vs:Ω}{ts:ϑ}{F:Θ}(n:Nat),aB K dl H vs ts F->∃G,aB K dl H (vs.drop n) (ts.drop n) G/\G.Sublist F
 |_,_,F,0,h=>(F,h,List.Sublist.refl _)|_,_,_,_+1,.nil=>([],.nil,List.Sublist.refl _)|_,_,_,n+1,.cons h r=>by
  let(G,h1,h2):=aB.drop n r;exact(G,h1,h2.trans (ab7 _ _))
theorem aB.take:∀{vs:Ω}{ts:ϑ}{F:Θ}(n:Nat),aB K dl H vs ts F->∃G,aB K dl H (vs.take n) (ts.take n) G/\G.Sublist F
 |_,_,F,0,h=>([],.nil,List.nil_sublist _)|_,_,_,_+1,.nil=>([],.nil,List.Sublist.refl _)|_,_,_,n+1,.cons h r=>by
  let(G,h1,h2):=aB.take n r;exact(_,.cons h h1,h2.append_left _)
def Rp.sub{t:T}{F:Θ}(r:aJ K dl H v t G)(n:∀b∈F,Nd dl b)(h:∀b∈G,b∈F):Rp K dl H v t G:=(r,λb g=>n b (h b g))
def Rp.c{t:T}(r:aJ K dl H v t []):Rp K dl H v t []:=(r,nofun)
theorem Rps.tup{vs:Ω}{ts:ϑ}{p:J}(h:Rps K dl H vs ts F)(D:Dls dl H)(hp:H p=Y):Rp K dl (upd H p (.tup vs)) (.ref p) (.t ts) F:=
 have h2:=h.evo D ((Evo.refl D).new hp)
 (.t ax h2.r,h2.n)
theorem Rps.lst{vs:Ω}{ts:ϑ}{p:J}(h:Rps K dl H vs ts F)(D:Dls dl H)(hp:H p=Y):Rp K dl (upd H p (.lst vs)) (.ref p) (.l ts) (p::F):=
 have h2:=h.evo D ((Evo.refl D).new hp)
 (.l ax h2.r,λb g=>by
  obtain e|g:=lb.mp g
  ·rw[e];exact D.nd0 hp
  exact h2.n b g)
theorem Rps.fresh{vs:Ω}{ts:ϑ}{p:J}(h:Rps K dl H vs ts F)(hp:H p=Y)(hn:F.Nodup):(p::F).Nodup:=wh.mpr (λz=>(h.r.there p z).no hp,hn)
def qII(C:Int->Int->Prop)(g:Int->Int->T):Q2:=λt u Q=>match t with
 |.i a=>match u with|.i b=>C a b/\Q (g a b)|_=>False
 |_=>False
def RN{C:Int->Int->Prop}{g:Int->Int->V}{g':Int->Int->T}(hg:∀a b dl H,aJ K dl H (g a b) (g' a b) []):df K (rI C g) (qII C g'):=by
 intro dl H x y t u F G Q R D P q hq k;unfold qII at hq;split at hq
 ·split at hq
  ·let(U,U):=P.r.int;let(U,U):=q.r.int;exact(_,_,U,U,hq.1,k _ _ [] H (.refl D) (.c (hg _ _ _ _)) nofun ot hq.2)
  exact hq.elim
 exact hq.elim
def qI0(g:Int->Int->T):Q2:=λt u Q=>match t with
 |.i a=>match u with|.i b=>Q (g a b)|_=>False
 |_=>False
def iz{g:Int->Int->V}{g':Int->Int->T}(hg:∀a b dl H,aJ K dl H (g a b) (g' a b) []):df K (rI0 g) (qI0 g'):=by
 intro dl H x y t u F G Q R D P q hq k;unfold qI0 at hq;split at hq
 ·split at hq
  ·let(U,U):=P.r.int;let(U,U):=q.r.int;exact(_,_,U,U,k _ _ [] H (.refl D) (.c (hg _ _ _ _)) nofun ot hq)
  exact hq.elim
 exact hq.elim
def PQ:OpR X (binaryOp .Add) (λx y H Q=>∃a b xs ys,x=.ref a/\y=.ref b/\SqT X.K H a xs/\SqT X.K H b ys/\xs.length+ys.length<=lK /\
(xs=[]->Q (.ref b) H)/\(xs ≠ []->ys=[]->Q (.ref a) H)/\(xs ≠ []->ys ≠ []->∀p,H p=Y->Q (.ref p) (upd H p (.tup (xs++ys))))):=by
 intro gd s σ H x y v u Q I rx V h;let(a,b,xs,ys,U,U,ha,hb,hz,q0,q1,q2):=h;by_cases hx:xs=[]
 ·cases rx;cases V;let(its,r1,p1,_):=I.tuple ha;let(gh,r2,p2,_):=I.tuple hb;have e:=r1.jJ.mpr hx;subst e;let((cls,dd,data,sl),ho,hc,n,hd):=id p1;let((Y3,P,data2,q),g,z,n2,hd2):=id p2;subst hc hd z hd2;exact concat_meets (_,ho,U) (_,g,U) noFill_tuple_add seq_tuple_add PySem.F.slot_tuple_add PySem.F.entry_tuple_add (PySem.F.args_tuple_add_2 _ _)
   (tuple_addW0 a b ([]).toArray gh.toArray n n2 dd P sl q ba) (ho,g,(.ref b,H,I,U,q0 hx))
 exact PR gd s σ H _ _ v u Q I rx V (a,b,xs,ys,U,U,ha,hb,hx,hz,q1 hx,q2 hx)
def KA(K:Ch):R2:=λx y H Q=>rI0 (λi j=>.int (i+j)) x y H Q\/(∃i j,x=.str i/\y=.str j/\i.length+j.length<=lK/\Q (.str (i++j)) H)\/WH x y H Q \/
 (∃a b xs ys,x=.ref a/\y=.ref b/\SqT K H a xs/\SqT K H b ys/\xs.length+ys.length<=lK /\
(xs=[]->Q (.ref b) H)/\(xs ≠ []->ys=[]->Q (.ref a) H)/\(xs ≠ []->ys ≠ []->∀p,H p=Y->Q (.ref p) (upd H p (.tup (xs++ys)))))
def PU(g:X.K=K):OpR X (binaryOp .Add) (KA K):=by subst g;exact qY.or (D8.or (UQ.or PQ))
def oI:Q2:=λt u Q=>match t with
 |.i a=>match u with|.i b=>Q (.i (a+b))|_=>False
 |.s a=>match u with|.s b=>a.length+b.length<=lK/\Q (.s (a++b))|_=>False
 |.l a=>match u with|.l b=>a.length+b.length<=lK/\T.ims a=O/\T.ims b=O/\Q (.l (a++b))|_=>False
 |.t a=>match u with|.t b=>a.length+b.length<=lK/\T.ims a=O/\T.ims b=O/\Q (.t (a++b))|_=>False
 |_=>False
def Oz:df K (KA K) oI:=by
 intro dl H x y t u F G Q R D q g hq k;have no:∀b,b∈([])->H b=none:=nofun;cases t with
 |i a =>
  dsimp only[oI]at hq;split at hq
  ·let(U,U):=q.r.int;let(U,U):=g.r.int;exact .inl (_,_,U,U,k _ _ [] H (.refl D) (.c (.i _)) no ot hq)
  exact hq.elim
 |s a =>
  dsimp only[oI]at hq;split at hq
  ·let(U,U):=q.r.str;let(U,U):=g.r.str;exact .inr (.inl (_,_,U,U,hq.1,k _ _ [] H (.refl D) (.c (.s _)) no ot hq.2))
  exact hq.elim
 |l a =>
  dsimp only[oI]at hq;split at hq
  ·let(a,vs,F1,U,U,h1,s1):=q.r.lst;let(b,ws,G1,U,U,h2,s2):=g.r.lst;obtain rfl:=s1.im hq.2.1;obtain rfl:=s2.im hq.2.2.1;refine .inr (.inr (.inl (a,b,vs,ws,U,U,h1,h2,by rw[s1.len,s2.len];exact hq.1,λp hp=>?_)));have rs:Rps K dl H (vs++ws) _ ([]++[]):=(s1.append s2,λc V=>nomatch V);exact k _ _ _ _ ((Evo.refl D).new hp) (rs.lst D hp) (λb hb=>by rw[fy.mp hb];exact hp) ba hq.2.2.2
  exact hq.elim
 |t a =>
  dsimp only[oI]at hq;split at hq
  ·let(a,vs,U,h1,s1):=q.r.tup;let(b,ws,U,h2,s2):=g.r.tup;obtain rfl:=s1.im hq.2.1;obtain rfl:=s2.im hq.2.2.1;refine .inr (.inr (.inr (a,b,vs,ws,U,U,SqT.of h1,SqT.of h2,by rw[s1.len,s2.len];exact hq.1,λe=>?_,λe1 e2=>?_,λ_ _ p hp=>?_)))
   ·refine k _ _ [] H (.refl D) g no ot ?_;have z:=s1.jJ.mp e;subst z;exact hq.2.2.2
   ·refine k _ _ [] H (.refl D) q no ot ?_;have z:=s2.jJ.mp e2;subst z;have P:=hq.2.2.2;rw[pq]at P;exact P
   have rs:Rps K dl H (vs++ws) _ ([]++[]):=(s1.append s2,λc V=>nomatch V);exact k _ _ _ _ ((Evo.refl D).new hp) (rs.tup D hp) no ot hq.2.2.2
  exact hq.elim
 |_=>exact hq.elim
def O0:Q2:=λt u Q=>match t with
 |.i a=>match u with|.i b=>Nu a b/\Q (.i (a*b))|_=>False
 |.s a=>match u with|.i b=>0<=b/\b<=1000/\a.length<=1000/\Q (.s (kA a b.toNat))|_=>False
 |_=>False
def Kt:R2:=λx y H Q=>rI Nu (λi j=>.int (i*j)) x y H Q\/(∃z n,x=.str z/\y=.int n/\0<=n/\n<=1000/\z.length<=1000/\Q (.str (kA z n.toNat)) H)
def PN:OpR X (binaryOp .Mult) Kt:=nB.or D6
def Ou:df K Kt O0:=by
 intro dl H x y t u F G Q R D q g hq k;cases t with
 |i a =>
  dsimp only[O0]at hq;split at hq
  ·let(U,U):=q.r.int;let(U,U):=g.r.int;exact .inl (_,_,U,U,hq.1,k _ _ [] H (.refl D) (.c (.i _)) nofun ot hq.2)
  exact hq.elim
 |s a =>
  dsimp only[O0]at hq;split at hq
  ·let(U,U):=q.r.str;let(U,U):=g.r.int;exact .inr (_,_,U,U,hq.1,hq.2.1,hq.2.2.1,k _ _ [] H (.refl D) (.c (.s _)) nofun ot hq.2.2.2)
  exact hq.elim
 |_=>exact hq.elim
end
section
variable{X:Cx}{K:Ch}{a b:EQ}{ta tb:TE}{qa qb:QE}{pos:Pos}
def aV(q:QPE X K a ta qa)(g:QPE X K b tb qb)(z:‹X.K=K›):QPF X K (.BinOp a .Add b pos) (tOp (KA K) ta tb) (qOp oI qa qb):=qU (PU z) Oz q g
def zQ(q:QPE X K a ta qa)(g:QPE X K b tb qb):QPF X K (.BinOp a .Sub b pos) (tOp (rI0 λi j=>.int (i-j)) ta tb) (qOp (qI0 λi j=>.i (i-j)) qa qb):=qU D5 (iz λ_ _ _ _=>.i _) q g
def zR(q:QPE X K a ta qa)(g:QPE X K b tb qb):QPF X K (.BinOp a .Mult b pos) (tOp Kt ta tb) (qOp O0 qa qb):=qU PN Ou q g
def KQ(q:QPE X K a ta qa)(g:QPE X K b tb qb):QPF X K (.BinOp a .Mod b pos) (tOp (rI (λ_ j=>0<j) λi j=>.int (i % j)) ta tb) (qOp (qII (λ_ j=>0<j) λi j=>.i (i % j)) qa qb):=qU jG (RN λ_ _ _ _=>.i _) q g
def OW(q:QPE X K a ta qa)(g:QPE X K b tb qb):QPF X K (.BinOp a .FloorDiv b pos) (tOp (rI Nv λi j=>.int (i / j)) ta tb) (qOp (qII Nv λi j=>.i (i / j)) qa qb):=qU BK (RN λ_ _ _ _=>.i _) q g
end
variable{dl:Dl}{H:Hp}{neg:Bool}{op:CmpOp}{rq:Q2}{j:Nat}
section
variable{X:Cx}{K:Ch}{a b c e:EQ}{es rest:List EQ}{ta tb te:TE}{qa qb qe:QE}{tA tB:TT}{qA qB:QT}{tl:TA}{ql:QA}{pos:Pos}
def T.v:T->V
 |.n=>.non|.b x=>.bl x|.i x=>.int x|.s x=>.str x|_=>.ty ""
def T.fl:T->Bool
 |.n=>O|.b _=>O|.i _=>O|.s _=>O|_=>ϊ
theorem aJ.v{dl:Dl}{H:Hp}{v:V}{t:T}{F:Θ}(h:aJ K dl H v t F)(f:t.fl=O):v=t.v/\F=[]:=by cases h <;> first|exact(U,U)|exact absurd (f) ri
def qEq:Q2:=λt u Q=>(t.fl&&u.fl&&OB t.v u.v)=O/\Q (.b (decide (t.v=u.v)))
def qNe:Q2:=λt u Q=>(t.fl&&u.fl&&OB t.v u.v)=O/\Q (.b (!decide (t.v=u.v)))
def TL:df K rEq qEq:=by intro dl H x y t u F G Q R D q g hq k;let(h,hq):=hq;rw[rX,rX]at h;let(U,U):=q.r.v h.1.1;let(U,U):=g.r.v h.1.2;exact(h.2,k _ _ [] H (.refl D) (.c (.b _)) nofun ot hq)
def zu:df K rNe qNe:=by intro dl H x y t u F G Q R D q g hq k;let(h,hq):=hq;rw[rX,rX]at h;let(U,U):=q.r.v h.1.1;let(U,U):=g.r.v h.1.2;exact(h.2,k _ _ [] H (.refl D) (.c (.b _)) nofun ot hq)
def HR(neg:Bool):Q2:=λt u Q=>match u with|.n=>Q (.b (match t with|.n=>!neg|_=>neg))|_=>False
def aJ.Yw{v:V}{t:T}{F:Θ}(h:aJ K dl H v t F):decide (v=.non)=match(generalizing:=false) t with|.n=>!false|_=>false:=by cases h <;> rfl
def aJ.Yx{v:V}{t:T}{F:Θ}(h:aJ K dl H v t F):(!decide (v=.non))=match(generalizing:=false) t with|.n=>!true|_=>true:=by cases h <;> rfl
def oq:df K (λx y H Q=>y=.non/\Q (.bl (decide (x=.non))) H) (HR ϊ):=by
 intro dl H x y t u F G Q R D q g hq k;unfold HR at hq;split at hq
 ·let(U,U):=g.r.non;refine(U,k _ _ [] H (.refl D) (.c (.b _)) nofun ot ?_);rw[q.r.Yw];exact hq
 exact hq.elim
def oo:df K (λx y H Q=>y=.non/\Q (.bl (!decide (x=.non))) H) (HR O):=by
 intro dl H x y t u F G Q R D q g hq k;unfold HR at hq;split at hq
 ·let(U,U):=g.r.non;refine(U,k _ _ [] H (.refl D) (.c (.b _)) nofun ot ?_);rw[q.r.Yx];exact hq
 exact hq.elim
def inT(x:T)(xs:ϑ):Bool:=xs.any λy=>eqV y.v x.v
def fls(xs:ϑ):Bool:=xs.all T.fl
theorem aB.vs{dl:Dl}{H:Hp}{vs:Ω}{ts:ϑ}{F:Θ}(h:aB K dl H vs ts F):fls ts=O->vs=ts.map T.v/\F=[]:=
 h.ind (λ_=>(U,U)) λ_ _ _ _ _ _ h _ g f=>by
  have f:(_&&_)=true:=f;rw[rX]at f;let(U,U):=h.v f.1;let(U,U):=g f.2;exact(U,U)
def rJ{ts:ϑ}(f:fls ts=O):(ts.map T.v).all g9=true:=by rw[RB];intro x hx;let(t,g,U):=nR.mp hx;have:=RB.mp f t g;cases t <;> first|rfl|exact absurd this ri
def Gq{t:T}(f:t.fl=O):g9 t.v=true:=by cases t <;> first|rfl|exact absurd f ri
def Ky(K:Ch)(neg:Bool):R2:=λx y H Q=>rIn K neg x y H Q\/∃i j,x=.str i/\y=.str j/\Q (.bl (if neg then !(!(Builtin.Str.occurrences j i 0 j.length 1).isEmpty)else !(Builtin.Str.occurrences j i 0 j.length 1).isEmpty)) H
def jH(g:X.K=K):OpR X (compareOp .In) (Ky K ϊ):=by subst g;exact Ih.or Ig
def qX(g:X.K=K):OpR X (compareOp .NotIn) (Ky K O):=by subst g;exact Ac.or Ab
def qIn(neg:Bool):Q2:=λt u Q=>match u with
 |.l xs=>(t.fl&&fls xs)=O/\Q (.b (if neg then !inT t xs else inT t xs))|.t xs=>(t.fl&&fls xs)=O/\Q (.b (if neg then !inT t xs else inT t xs))|.k ws=>match t with|.s y=>Q (.b (if neg then !inT (.s y) (ws.map T.s)else inT (.s y) (ws.map T.s)))|_=>False
 |.s z=>match t with|.s y=>Q (.b (if neg then !(!(Builtin.Str.occurrences z y 0 z.length 1).isEmpty)else !(Builtin.Str.occurrences z y 0 z.length 1).isEmpty))|_=>False
 |_=>False
def gH:df K (Ky K neg) (qIn neg):=by
 intro dl H x y t u F G Q R D q g hq k;have go:∀xs p vs,y=.ref p->(SqL K H p vs\/SqT K H p vs)->(∃G,aB K dl H vs xs G)->(t.fl&&fls xs)=O/\Q (.b (if neg then !inT t xs else inT t xs))->Ky K neg x y H R:=by
  rintro xs p vs rfl hs ⟨G,rs⟩ ⟨f,hq⟩;rw[rX]at f;let(U,U):=q.r.v f.1;let(U,_):=rs.vs f.2;refine .inl (p,_,U,hs,Gq f.1,rJ f.2,k _ (.b _) [] H (.refl D) (.c (.b _)) nofun ot ?_);have e:inV t.v (xs.map T.v)=inT t xs:=by unfold inV inT;rw[ZF];rfl
  rw[e];exact hq
 cases u with
 |l xs =>let(p,vs,G,U,_,h1,h2):=g.r.lst;exact go _ p vs U (.inl (SqL.of h1)) (_,h2) hq|t xs =>let(p,vs,U,h1,h2):=g.r.tup;exact go _ p vs U (.inr (SqT.of h1)) (_,h2) hq|k ws =>
  dsimp only[qIn]at hq;split at hq
  ·let(p,U,h1,_):=g.r.kst;refine go _ p _ U (.inr (h1 H)) (_,nq _) (?_,hq);rw[rX];refine(U,?_);unfold fls;rw[List.all_map,RB];exact λ_ _=>rfl
  exact hq.elim
 |s z =>
  dsimp only[qIn]at hq;split at hq
  ·let(U,U):=q.r.str;let(U,U):=g.r.str;exact .inr (_,_,U,U,k _ _ [] H (.refl D) (.c (.b _)) nofun ot hq)
  exact hq.elim
 |_=>exact hq.elim
def zT{r:R2}(ho:OpR X (compareOp op) r)(hs:df K r rq)(hm:behindInMarks op b=ϊ)(q:QPE X K a ta qa)(g:QPE X K b tb qb):QPF X K (.Compare a [op] [b] pos) (tOp r ta tb) (qOp rq qa qb):=
 (Pt ho q.h g.h hm,FD hs q.s g.s)
def eI(qe:QE):QT:=λq Q=>qe q λt=>match t with|.b x=>Q x|_=>False
def Bf(h:iQ K te qe):nO K (ym te) (eI qe):=by
 intro dl H σ q Q R rd hq k;refine h dl H σ q _ _ rd hq λv t F H' e r g=>?_;split at g
 ·let(U,U):=r.r.bl;exact(_,U,k _ H' e g)
 exact g.elim
def bD{r:R2}(ho:OpR X (compareOp op) r)(hs:df K r rq)(hm:behindInMarks op b=ϊ)(q:QPE X K a ta qa)(g:QPE X K b tb qb):QPT X K (.Compare a [op] [b] pos) (ym (tOp r ta tb)) (eI (qOp rq qa qb)):=
 (oJ ho q.h g.h hm,Bf (zt hs.w q.s g.s))
def Uc(qe:QE):QT:=λq Q=>qe q λt=>match t with|.b x=>Q x|.n=>Q ϊ|.i x=>Q (x != 0)|.s x=>x.length<=lK/\Q ((x.length:Int) != 0)|.l xs=>Q (!xs.isEmpty)|.t xs=>Q (!xs.isEmpty)|.d xs=>Q (!xs.isEmpty)|_=>False
def Oj(h:iQ K te qe):nO K (λσ H Q=>te σ H λx H'=>∃k,Rt K x H' k/\Q k H') (Uc qe):=by
 intro dl H σ q Q R rd hq k;refine h dl H σ q _ _ rd hq λv t F H' e r g=>?_;have emp:∀{α β:Type}{xs:List α}{ys:List β},xs.length=ys.length->(!xs.isEmpty) = !ys.isEmpty:=λ{α β xs ys} h=>by
  cases xs <;> cases ys <;> first|rfl|(simp at h)
 cases t with|b x =>let(U,U):=r.r.bl;exact(_,U,k _ H' e g)|n =>let(U,U):=r.r.non;exact(_,U,k _ H' e g)|i x =>let(U,U):=r.r.int;exact(_,U,k _ H' e g)|s x =>let(U,U):=r.r.str;exact(_,(g.1,U),k _ H' e g.2)|l xs =>let(p,vs,G,U,_,h1,h2):=r.r.lst;exact(_,.inl (vs,SqL.of h1,U),k _ H' e (by rw[emp h2.len];exact g))|t xs =>let(p,vs,U,h1,h2):=r.r.tup;exact(_,.inr (.inl (vs,SqT.of h1,U)),k _ H' e (by rw[emp h2.len];exact g))|d xs =>let(p,vs,G,U,_,h1,h2):=r.r.dic;exact(_,.inr (.inr (vs,h1,U)),k _ H' e (by rw[emp h2.len];exact g))|_=>exact g.elim
def kM(h:QPE X K e te qe)(he:∀whole,isTrue e X.env whole=(do let v <- whole;standAt e.pos;holding [v] (truthy v)):=by intro _;rfl)(g:‹X.K=K›):
  QPT X K e (λσ H Q=>te σ H λx H'=>∃k,Rt K x H' k/\Q k H') (Uc qe):=(by subst g;exact Lb h.h he,Oj h.s)
def OZ(t:QT):QT:=λq Q=>t q λc=>Q (!c)
def O3(t u:QT):QT:=λq Q=>t q λc=>if c=O then u q Q else Q ϊ
def qOr(t u:QT):QT:=λq Q=>t q λc=>if c=O then Q O else u q Q
def Ot(h:nO K tA qA):nO K (To tA) (OZ qA):=λdl H σ q _ R rd hq k=>h dl H σ q _ _ rd hq λb H' e g=>k _ H' e g
def Oy(h:nO K tA qA)(h2:nO K tB qB):nO K (Tr tA tB) (O3 qA qB):=λdl H σ q Q R rd hq k=>h dl H σ q _ _ rd hq λb H' e g=>by
 cases b with|false=>exact k _ H' e g|true=>exact h2 dl H' σ q Q R (rd.evo e) g λc H2 P z=>k c H2 (e.trans P) z
def TJ(h:nO K tA qA)(h2:nO K tB qB):nO K (tOr tA tB) (qOr qA qB):=λdl H σ q Q R rd hq k=>h dl H σ q _ _ rd hq λb H' e g=>by
 cases b with|true=>exact k _ H' e g|false=>exact h2 dl H' σ q Q R (rd.evo e) g λc H2 P z=>k c H2 (e.trans P) z
def DQ(h:QPT X K a tA qA):QPT X K (.UnaryOp .Not a pos) (To tA) (OZ qA):=(Us h.h,Ot h.s)
def lV(h:QPT X K a tA qA):QPW X K (.BoolOp .And [a] pos) tA qA:=(FQ h.h,h.s)
def KC(h:QPT X K a tA qA):QPW X K (.BoolOp .Or [a] pos) tA qA:=(Uo h.h,h.s)
def qR(h:QPT X K a tA qA)(h2:QPW X K (.BoolOp .And (b::rest) pos) tB qB):QPW X K (.BoolOp .And (a::b::rest) pos) (Tr tA tB) (O3 qA qB):=(K7 h.h h2.h,Oy h.s h2.s)
def KD(h:QPT X K a tA qA)(h2:QPW X K (.BoolOp .Or (b::rest) pos) tB qB):QPW X K (.BoolOp .Or (a::b::rest) pos) (tOr tA tB) (qOr qA qB):=(WU h.h h2.h,TJ h.s h2.s)
theorem QPW.pt(h:QPW X K e tA qA):QPT X K e tA qA:=(h.h.pt,h.s)
def K6(qa qb:QE):QE:=λq Q=>qa q λt=>match t with|.b c=>if c=O then qb q Q else Q (.b ϊ)|_=>False
def Ui(qa qb:QE):QE:=λq Q=>qa q λt=>match t with|.b c=>if c=O then Q (.b O)else qb q Q|_=>False
def J9(h:iQ K ta qa)(h2:jX K tb qb):jX K (JS ta tb) (K6 qa qb):=λdl H σ q Q R rd hq k=>h dl H σ q _ _ rd hq λv t F H' e r g=>by
 split at g
 ·rename_i c;let(U,U):=r.r.bl;refine(c,U,?_);cases c with|false=>exact k _ _ [] H' e r nofun ot g|true=>exact h2 dl H' σ q Q R (rd.evo e) g λw u G H2 e2 P f2 V z=>k w u G H2 (e.trans e2) P (λb hb=>e.free (f2 b hb)) V z
 exact g.elim
def Oq(h:iQ K ta qa)(h2:jX K tb qb):jX K (Tn ta tb) (Ui qa qb):=λdl H σ q Q R rd hq k=>h dl H σ q _ _ rd hq λv t F H' e r g=>by
 split at g
 ·rename_i c;let(U,U):=r.r.bl;refine(c,U,?_);cases c with|true=>exact k _ _ [] H' e r nofun ot g|false=>exact h2 dl H' σ q Q R (rd.evo e) g λw u G H2 e2 P f2 V z=>k w u G H2 (e.trans e2) P (λb hb=>e.free (f2 b hb)) V z
 exact g.elim
def KP{op}(h:QPF X K a ta qa):QPF X K (.BoolOp op [a] pos) ta qa:=(UJ h.h,h.s)
def T9(q:QPE X K a ta qa)(g:QPF X K (.BoolOp .And (b::rest) pos) tb qb):QPF X K (.BoolOp .And (a::b::rest) pos) (JS ta tb) (K6 qa qb):=(UM q.h g.h,J9 q.s g.s)
def WJ(q:QPE X K a ta qa)(g:QPF X K (.BoolOp .Or (b::rest) pos) tb qb):QPF X K (.BoolOp .Or (a::b::rest) pos) (Tn ta tb) (Ui qa qb):=(W7 q.h g.h,Oq q.s g.s)
def du(P:QPE X K a ta qa):QPF X K (.UnaryOp .USub a pos) (tUn (rU λi=>.int (-i)) ta) (λq Q=>qa q λt=>match t with|.i x=>Q (.i (-x))|_=>False):=(W6 Ta P.h,λdl H σ q Q R rd hq k=>P.s dl H σ q _ _ rd hq λv t F H' e r g=>by
 split at g
 ·let(U,U):=r.r.int;exact(_,U,k _ _ [] H' e (.c (.i _)) nofun ot g)
 exact g.elim)
def cH:QA:=λ_ Q=>Q []
def aH(qa:QE)(ql:QA):QA:=λq Q=>qa q λt=>ql q λts=>Q (t::ts)
def ai:AV X K [] gq cH:=(cY,λdl H σ q Q R rd hq k=>k [] [] [] H (.refl rd.d) (.nil,nofun) U nofun ot hq)
def AV.w(h:AV X K es tl ql):QPA X K es tl ql:=(h.h,λdl H σ q Q R rd hq k=>h.s dl H σ q Q R rd hq λvs ts F H' e r l _ _ z=>k vs ts F H' e r l z)
theorem Rps.cons{dl:Dl}{H:Hp}{v:V}{t:T}{vs:Ω}{ts:ϑ}{F G:Θ}(h:Rp K dl H v t F)(r:Rps K dl H vs ts G):Rps K dl H (v::vs) (t::ts) (F++G):=(.cons h.r r.r,λb g=>(lN.mp g).elim (h.n b) (r.n b))
def ae(g:QPE X K e te qe)(hr:QPA X K es tl ql)(hs:‹AD X e es›):QPA X K (e::es) (bR te tl) (aH qe ql):=
 (bp g.h hr.h hs,λdl H σ q Q R rd hq k=>g.s dl H σ q _ _ rd hq λv t F H1 e1 r1 hz=>hr.s dl H1 σ q _ _ (rd.evo e1) hz λvs ts G H2 P V l2 z=>k _ _ _ H2 (e1.trans P) (.cons (r1.evo e1.d P) V) (by simp[l2]) z)
def af(ha:QPF X K e te qe)(hr:AV X K es tl ql)(hs:‹AD X e es›):AV X K (e::es) (bR te tl) (aH qe ql):=
 (bp ha.h hr.h hs,λdl H σ q Q R rd hq k=>ha.s dl H σ q _ _ rd hq λv t F H1 e1 V f1 n1 hz=>hr.s dl H1 σ q _ _ (rd.evo e1) hz λvs ts G H2 e2 r2 l2 f2 n2 z =>
k _ _ _ H2 (e1.trans e2) (.cons (V.evo e1.d e2) r2) (by simp[l2]) (λb g=>(lN.mp g).elim (f1 b) λg=>e1.free (f2 b g)) (yf.mpr (n1,n2,λx hx y hy P=>by subst P;exact(V.r.there x hx).no (f2 x hy))) z)
def mq(ql:QA):QE:=λq Q=>ql q λts=>Q (.t ts)
def O1(ql:QA):QE:=λq Q=>ql q λts=>Q (.l ts)
def aq{x1}(h:AV X K es tl ql)(V:autoParam (es.length<=1000) zdc._auto_1):QPF X K (.Tuple es x1 pos) (JM tl) (mq ql):=(DZ h.h,λdl H σ q Q R rd hq k=>h.s dl H σ q _ _ rd hq λvs ts F H1 e1 g l1 f1 P z =>
(v5 (aG bd),λp hp=>k _ _ F _ (e1.new hp) (g.tup e1.d hp) f1 P z))
def OP{x1}(h:QPA X K es tl ql)(P:autoParam (es.length<=1000) zdc._auto_1):QPE X K (.Tuple es x1 pos) (JM tl) (mq ql):=(DZ h.h,λdl H σ q Q R rd hq k=>h.s dl H σ q _ _ rd hq λvs ts F H1 e1 g l1 z =>
(v5 (aG bd),λp hp=>k _ _ F _ (e1.new hp) (g.tup e1.d hp) z))
def aM(h:AV X K es tl ql)(hz:autoParam (es.length<=1000) zdc._auto_1):QPF X K (.List es pos) (Wr tl) (O1 ql):=(UL h.h,λdl H σ q Q R rd hq k=>h.s dl H σ q _ _ rd hq λvs ts F H1 e1 P l1 f1 V z =>
(v5 (aG bd),λp hp=>k _ _ (p::F) _ (e1.new hp) (P.lst e1.d hp) (λb g=>by
  obtain e|g:=lb.mp g
  ·rw[e];exact e1.free hp
  exact f1 b g) (P.fresh hp V) z))
def fb(h:strsOf es=Z ws)(hl:‹es.length=ws.length›):AV X K es (λ_ H Q=>Q (ws.map V.str) H) (λ_ Q=>Q (ws.map T.s)):=
 (Py h,λdl H σ q Q R rd hq k=>k _ _ [] H (.refl rd.d) (nq ws,nofun) (by rw[dN];exact hl.symm) nofun ot hq)
def qIx:Q2:=λt u Q=>match u with
 |.i k=>match t with|.l xs=>Ex2 (λx=>atI xs k=Z x) Q|.t xs=>Ex2 (λx=>atI xs k=Z x) Q|.z ns=>Ex3 (λx=>atI ns k=Z x) (λx=>(.i x)) Q|.zl xs=>Ex2 (λx=>atI xs k=Z x) Q|.s z=>z.length<=lK/\Ex3 (λc=>atI z.cps.toList k=Z c) (λc=>(.s ⟨#[c]⟩)) Q|_=>False
 |_=>False
def pT{α β:Type}{xs:List α}{ys:List β}{k:Int}{x:α}(h:atI xs k=Z x)(hl:xs.length=ys.length):∃j:Nat,xs[j]?=Z x/\ixN ys.length k=Z j:=by
 unfold atI at h;cases e:ixN xs.length k with
 |none=>rw[e]at h;cases h
 |some j=>rw[e]at h;exact(j,h,by rw[<- hl];exact e)
def wA{α:Type}{xs:List α}{k:Int}{x:α}(h:ixN xs.length k=Z j)(hx:xs[j]?=Z x):atI xs k=Z x:=by unfold atI;rw[h];exact hx
def TK:Ng K (rIx K) qIx:=by
 intro dl H x y t u F G Q R D g r2 hq k;unfold qIx at hq;split at hq
 ·rename_i k0;let(U,U):=r2.r.int;cases t with|l xs =>let(p,vs,G,U,U,h1,h2):=g.r.lst;let(z,q,hq):=hq;let(j,P,hi):=pT q h2.len.symm;let(v,G',hv,rv,hs):=h2.get P;exact .inl (p,vs,k0,v,U,U,SqL.of h1,wA hi hv,k v z G' H (.refl D) (Rp.sub rv g.n λb hb=>j6 _ (hs b hb)) hq)|t xs =>let(p,vs,U,h1,h2):=g.r.tup;let(z,q,hq):=hq;let(j,P,hi):=pT q h2.len.symm;let(v,G',hv,rv,hs):=h2.get P;exact .inr (.inl (p,vs,k0,v,U,U,SqT.of h1,wA hi hv,k v z G' H (.refl D) (Rp.sub rv g.n hs) hq))|z ns =>let(p,U,h1,_):=g.r.scr;let(z,q,hq):=hq;refine .inl (p,_,k0,.int z,U,U,h1.sq,?_,k _ _ [] H (.refl D) (.c (.i _)) hq);let(j,P,hi):=pT (ys:=(_:Ψ).map V.int) q (by rw[dN]);exact wA hi (by rw[fZ,P];rfl)|zl xs =>let(p,o,vs,U,U,h1,h2):=g.r.zls;let(z,q,hq):=hq;let(j,P,hi):=pT q h2.len.symm;let(v,G',hv,rv,hs):=h2.get P;exact .inl (p,vs,k0,v,U,U,.inl (.inr (o,h1)),wA hi hv,k v z G' H (.refl D) (Rp.sub rv g.n hs) hq)|s z =>let(U,U):=g.r.str;let(hl,c,hc,hq):=hq;exact .inr (.inr (_,k0,c,U,U,hl,hc,k _ _ [] H (.refl D) (.c (.s _)) hq))|_=>exact hq.elim
 exact hq.elim
def ao(q:QPE X K a ta qa)(g:QPE X K b tb qb)(hs:pW b:=by intro _ _;rfl)(z:‹X.K=K›):QPE X K (.Subscript a b pos) (tOp (rIx K) ta tb) (qOp qIx qa qb):=(by subst z;exact BE Mg q.h g.h hs,zt TK q.s g.s)
end
variable{prog:Db}{A:Do}{E:Φ}{items:Array B}{Q:Φ}{p2:Pos}{n:Nat}{r:Ω->Hp->VK->Prop}
section
variable{X:Cx}{K:Ch}{a b c e:EQ}{es:List EQ}{te:TE}{qe:QE}{tl:TA}{ql:QA}{pos p:Pos}
abbrev QO:=Sq->(Option Int->Prop)->Prop
def Zc(K:Ch)(t:TO)(tq:QO):Prop:=∀(dl:Dl)(H:Hp)(σ:St)(q:Sq)(Q:Option Int->Prop)(R:Option Int->Hp->Prop),RdR K dl H σ q->tq q Q->(∀o H',Evo dl H H'->Q o->R o H')->t σ H R
structure QPO(X:Cx)(K:Ch)(e:Option EQ)(t:TO)(tq:QO):Prop where
 h:PO X e t
 s:Zc K t tq
def cN:QPO X K Y Fy (λ_ Q=>Q Y):=(Pj,λ_ _ _ _ _ _ rd hq k=>k Y _ (.refl rd.d) hq)
def bM(h:QPE X K e te qe):QPO X K (Z e) (RI te) (λq Q=>qe q λt=>match t with|.i x=>Q (Z x)|_=>False):=(z5 h.h,λdl H σ q Q R rd hq k=>h.s dl H σ q _ _ rd hq λv t F H' e r g=>by
 split at g
 ·let(U,U):=r.r.int;exact(_,U,k _ H' e g)
 exact g.elim)
def fw{α:Type}(xs:List α)(lo hi:Option Int):List α:=(xs.drop (HT.sIx xs.length 0 lo)).take (HT.sIx xs.length xs.length hi-HT.sIx xs.length 0 lo)
def aB.cut{vs:Ω}{ts:ϑ}{F:Θ}(lo hi:Option Int)(h:aB K dl H vs ts F):∃G,aB K dl H (pO vs lo hi) (fw ts lo hi) G/\G.Sublist F:=by unfold pO fw;rw[h.len];let(G,h1,s1):=h.drop (HT.sIx ts.length 0 lo);let(g,h2,s2):=h1.take (HT.sIx ts.length ts.length hi-HT.sIx ts.length 0 lo);exact(g,h2,s2.trans s1)
def mw{w:Da}{s:ϋ}{t sl:J}{V P:B}{lo hi:Option Int}(g:IsTup s.heap t items)(hs:s.heap.IsSliceOf sl V P .none)(pl:IsPart V lo)(pu:IsPart P hi)
  (hw:HT.sIx items.size 0 lo=0/\HT.sIx items.size items.size hi=items.size)
  (h:Q (.ref t) s):wpAny (model prog w) A (getItem (.ref t) (.ref sl)) Q E s:=by
 let(os,q,z,ak):=id hs;have K:s.TypeIs (.ref sl) "slice":=(os,q,z);have hT:=g.typeIs;unfold getItem;try with_reducible refine Rw ?_
 refine eB (wpAny_sequenceKey g.typeIs ad ?_);refine eB (wpAny_callSpecial?_slot g.typeIs PyProof.Rows.slot_tuple_getitem
(Js PyProof.Rows.slot_tuple_getitem g.typeIs entry_tuple_getitem ?_ (args_tuple_getitem _ _)))
 show wpAny _ _ (Builtin.Tuple.tupleItemsOf (.ref t) >>= _) _ _ s;refine eB (tupleItemsOf_ g (eB (Yc K (eB (HT.iU hs pl pu ?_)))));have hy:(((HT.sIx items.size 0 lo):Int)==0&&(1:Int)==1&&(HT.sIx items.size items.size hi-HT.sIx items.size 0 lo)==items.size)=true:=by rw[hw.1,hw.2];simp
 show wpAny _ _ (if(((HT.sIx items.size 0 lo):Int)==0&&(1)==1&&(HT.sIx items.size items.size hi-HT.sIx items.size 0 lo)==items.size)=O then _ else _) _ _ s;rw[if_pos hy];exact eB (eB (Yc hT (nT (by exact eB (ZI (nT (_,U,nT h)))))))
inductive Wx(K:Ch)(x:V)(lo:Option Int)(hi:Option Int)(H:Hp)(Q:VK):Prop
 |mk(a xs:_)(h1:x=.ref a)(h2:SqT K H a xs)(h3:((HT.sIx xs.length 0 lo=0/\HT.sIx xs.length xs.length hi=xs.length)->Q (.ref a) H))(h4:(¬(HT.sIx xs.length 0 lo=0/\HT.sIx xs.length xs.length hi=xs.length)->∀p,H p=Y->Q (.ref p) (upd H p (.tup (pO xs lo hi)))))
def Oe:SlR X (Wx X.K):=by
 intro gd s σ H x v V P lo hi sl Q I g hs q pu h;let(a,xs,U,hx,q1,q2):=h;by_cases hw:HT.sIx xs.length 0 lo=0/\HT.sIx xs.length xs.length hi=xs.length
 ·cases g;let(its,r,z,hz):=I.tuple hx;have hlen:its.toArray.size=xs.length:=r.length.symm;exact("tuple",_,PyProof.Rows.slot_tuple_getitem.lookup,z.typeIs,mw z hs q pu (by rw[hlen];exact hw) (.ref a,H,I,U,q1 hw))
 exact TB gd s σ H _ v V P lo hi sl Q I g hs q pu (a,xs,U,hx,hw,q2 hw)
def IY{α:Type}{xs:List α}{lo hi:Option Int}(h:HT.sIx xs.length 0 lo=0/\HT.sIx xs.length xs.length hi=xs.length):fw xs lo hi=xs:=by unfold fw;rw[h.1,h.2];simp
def WA(K:Ch):V->Option Int->Option Int->Hp->VK->Prop:=λx lo hi H Q=>Wz K x lo hi H Q\/Wx K x lo hi H Q\/Wy x lo hi H Q
def Yl(g:X.K=K):SlR X (WA K):=by subst g;exact FA.or (Oe.or TC)
def qSl(qe:QE)(l u:QO):QE:=λq Q=>qe q λt=>l q λlo=>u q λhi=>match t with|.l xs=>T.ims xs=O/\Q (.l (fw xs lo hi))|.t xs=>T.ims xs=O/\Q (.t (fw xs lo hi))|.z ns=>Q (.l ((fw ns lo hi).map T.i))|.zl xs=>Q (.l (fw xs lo hi))|.s z=>z.length<=lK/\Q (.s (Txt.slice z lo hi))|_=>False
def bK{l u:Option EQ}{ak ar:TO}{aF aK:QO}(he:QPE X K e te qe)(hl:QPO X K l ak aF)(hu:QPO X K u ar aK)(hK:‹X.K=K›):QPF X K (.Subscript e (.Slice l u Y p2) pos) (tSl (WA K) te ak ar) (qSl qe aF aK):=
 (BB (Yl hK) he.h hl.h hu.h,λdl H σ q Q R rd hq k=>he.s dl H σ q _ _ rd hq λv t F H1 e1 r1 g=>hl.s dl H1 σ q _ _ (rd.evo e1) g λlo H2 e2 g=>hu.s dl H2 σ q _ _ ((rd.evo e1).evo e2) g λhi H3 e3 g=>by
  have r3:=(r1.evo e1.d e2).evo e2.d e3;have P:=(e1.trans e2).trans e3;have no:∀b,b∈([])->H b=none:=nofun;cases t with
  |l xs =>
   let(p,vs,G,U,U,h1,h2):=r3.r.lst;obtain rfl:=h2.im g.1;let(G,h3,s3):=h2.cut lo hi;obtain rfl:=ac5.mp s3;refine .inl (p,vs,U,SqL.of h1,λp hp=>?_);have rs:Rps K dl H3 (pO vs lo hi) _ []:=(h3,λc hc=>nomatch hc);exact k _ _ _ _ (P.new hp) (rs.lst e3.d hp) (λb hb=>by rw[fy.mp hb];exact P.free hp) ba g.2
  |t xs =>
   let(p,vs,U,h1,h2):=r3.r.tup;obtain rfl:=h2.im g.1;let(G,h3,s3):=h2.cut lo hi;obtain rfl:=ac5.mp s3;refine .inr (.inl (p,vs,U,SqT.of h1,λhw=>?_,λ_ p hp=>?_))
   ·refine k _ _ _ _ P r3 no ot ?_;rw[h2.len]at hw;have aW:=g.2;rw[IY hw]at aW;exact aW
   have rs:Rps K dl H3 (pO vs lo hi) _ []:=(h3,λc hc=>nomatch hc);exact k _ _ _ _ (P.new hp) (rs.tup e3.d hp) no ot g.2
  |z ns =>
   let(p,U,h1,_):=r3.r.scr;refine .inl (p,_,U,h1.sq,λp hp=>?_);have e:pO (ns.map V.int) lo hi=(fw ns lo hi).map V.int:=by unfold pO fw;rw[dN,<- aa2,<- aa3]
   rw[e];have rs:Rps K dl H3 ((fw ns lo hi).map V.int) ((fw ns lo hi).map T.i) []:=(vg _,λc hc=>nomatch hc);exact k _ _ _ _ (P.new hp) (rs.lst e3.d hp) (λb hb=>by rw[fy.mp hb];exact P.free hp) ba g
  |zl xs =>
   let(p,o,vs,U,U,h1,h2):=r3.r.zls;let(G,h3,s3):=h2.cut lo hi;obtain rfl:=ac5.mp s3;refine .inl (p,vs,U,.inl (.inr (o,h1)),λp hp=>?_);have rs:Rps K dl H3 (pO vs lo hi) _ []:=(h3,λc hc=>nomatch hc);exact k _ _ _ _ (P.new hp) (rs.lst e3.d hp) (λb hb=>by rw[fy.mp hb];exact P.free hp) ba g
  |s z =>let(U,U):=r3.r.str;exact .inr (.inr (_,U,g.1,k _ _ [] H3 P (.c (.s _)) no ot g.2))
  |_=>exact g.elim)
abbrev QC:=ϑ->(T->Prop)->Prop
def yc(K:Ch)(r:Ω->Hp->VK->Prop)(rq:QC):Prop:=∀(dl:Dl)(H:Hp)(vs:Ω)(ts:ϑ)(F:Θ)(Q:T->Prop)(R:V->Hp->Prop),Dls dl H->Rps K dl H vs ts F->rq ts Q ->
 (∀v z F' H',Evo dl H H'->Rp K dl H' v z F'->(∀b∈F',H b=Y)->F'.Nodup->Q z->R v H')->r vs H R
def qCB(rq:QC)(ql:QA):QE:=λq Q=>ql q λts=>rq ts Q
def J7{rq:QC}(h:yc K r rq)(hl:Ru K n tl ql):jX K (tCB r tl) (qCB rq ql):=λdl H σ q Q R rd hq k=>hl dl H σ q _ _ rd hq λvs ts F H1 e1 V _ g =>
 h dl H1 vs ts F Q R e1.d V g λv z F' H2 e2 P f2 n2 g=>k v z F' H2 (e1.trans e2) P (λb hb=>e1.free (f2 b hb)) n2 g
def vm{id:String}{rq:QC}(P:dM X (.builtin id) r)(hs:yc K r rq)(hg:Gl X x)(hm:X.mg x=Y)(hv:bootBuiltins x=Z (.builtin id))(z:QPA X K (e::es) tl ql)(hn:autoParam (x ≠ "__name__") zdc._auto_1)(q:autoParam (AT x) zdc._auto_1)
  (he:‹AD X e es›) (g:‹AS X pos es›):QPF X K (.Call (.Name x p) (e::es) [] pos) (tCB r tl) (qCB rq ql):=(i7 P hg hm hv z.h hn q he g,J7 hs z.s)
def aU{id:String}{rq:QC}(P:dM X (.type id) r)(hs:yc K r rq)(hg:Gl X x)(hm:X.mg x=Y)(hv:bootBuiltins x=Z (.type id))(z:QPA X K (e::es) tl ql)(hn:autoParam (x ≠ "__name__") zdc._auto_1)(q:autoParam (AT x) zdc._auto_1)
  (he:‹AD X e es›) (g:‹AS X pos es›):QPF X K (.Call (.Name x p) (e::es) [] pos) (tCB r tl) (qCB rq ql):=(Ic P hg hm hv z.h hn q he g,J7 hs z.s)
def Rps.one{dl:Dl}{H:Hp}{vs:Ω}{t:T}{F:Θ}(h:Rps K dl H vs [t] F):∃v,vs=[v]/\Rp K dl H v t F:=by let(r,n):=h;cases r with|cons q g =>cases g;rw[pq]at n;rw[pq];exact(_,U,q,n)
def Rps.two{vs:Ω}{t u:T}{F:Θ}(h:Rps K dl H vs [t,u] F):∃v w Q P,vs=[v,w]/\Rp K dl H v t Q/\Rp K dl H w u P:=by let(r,n):=h;cases r with|cons z q =>let(w,U,h2):=Rps.one (q,λb g=>n b (p7 _ g));exact(_,w,_,_,U,(z,λb g=>n b (ui _ g)),h2)
def Ku(K:Ch):Ω->Hp->VK->Prop:=λxs H Q=>(∃p ys,xs=[.ref p]/\(SqL K H p ys\/SqT K H p ys)/\Q (.int ys.length) H)\/(∃z,xs=[.str z]/\z.length<=lK/\Q (.int z.length) H)\/∃a kvs,xs=[V.ref a]/\H a=Z (.dK kvs)/\Q (.int kvs.length) H
def Je(g:X.K=K):dM X (.builtin "len") (Ku K):=by subst g;exact pS.or (AJ.or Jd)
def Bw:QC:=λts Q=>on1 ts λt=>match t with|.l xs=>Q (.i xs.length)|.t xs=>Q (.i xs.length)|.z xs=>Q (.i xs.length)|.zl xs=>Q (.i xs.length)|.d xs=>Q (.i xs.length)|.s x=>x.length<=lK/\Q (.i x.length)|_=>False
def Ov:yc K (Ku K) Bw:=by intro dl H vs ts F Q R D r hq k;have fin:∀n,Q (.i n)->R (.int n) H:=λn hq=>k _ _ [] H (.refl D) (.c (.i _)) nofun ot hq;replace hq:=on1.inv hq;let(t,U,hq):=hq;let(v,U,r'):=r.one;cases t with|l xs =>let(p,vs,G,U,_,h1,h2):=r'.r.lst;exact .inl (p,vs,U,.inl (SqL.of h1),fin _ (by rw[h2.len];exact hq))|t xs =>let(p,vs,U,h1,h2):=r'.r.tup;exact .inl (p,vs,U,.inr (SqT.of h1),fin _ (by rw[h2.len];exact hq))|z xs =>let(p,U,h1,_):=r'.r.scr;exact .inl (p,_,U,.inl h1.sq,fin _ (by rw[dN];exact hq))|zl xs =>let(p,o,vs,U,_,h1,h2):=r'.r.zls;exact .inl (p,vs,U,.inl (.inl (.inr (o,h1))),fin _ (by rw[h2.len];exact hq))|d xs =>let(p,vs,G,U,_,h1,h2):=r'.r.dic;exact .inr (.inr (p,vs,U,h1,fin _ (by rw[h2.len];exact hq)))|s x =>let(U,_):=r'.r.str;exact .inr (.inl (_,U,hq.1,fin _ hq.2))|_=>exact hq.elim
def qI2(g:Int->Int->Int):QC:=λts Q=>on2 ts λt u=>match t with
 |.i a=>match u with|.i b=>Q (.i (g a b))|_=>False
 |_=>False
def J5{g:Int->Int->Int}:yc K (λxs H Q=>∃i j,xs=[.int i,.int j]/\Q (.int (g i j)) H) (qI2 g):=by
 intro dl H vs ts F Q R D r hq k;replace hq:=on2.inv hq;let(t,u,U,hq):=hq;split at hq
 ·split at hq
  ·let(v,w,F1,V,U,P,q):=r.two;let(U,_):=P.r.int;let(U,_):=q.r.int;exact(_,_,U,k _ _ [] H (.refl D) (.c (.i _)) nofun ot hq)
  exact hq.elim
 exact hq.elim
def Yq:QC:=λts Q=>on1 ts λt=>match t with|.i a=>Q (.i a)|.b k=>Q (.i (if k then 1 else 0))|_=>False
def FF:yc K (λxs H Q=>(∃i,xs=[.int i]/\Q (.int i) H)\/∃k,xs=[.bl k]/\Q (.int (if k then 1 else 0)) H) Yq:=by intro dl H vs ts F Q R D r hq k;replace hq:=on1.inv hq;let(t,U,hq):=hq;cases t with|i a =>let(v,U,r'):=r.one;let(U,_):=r'.r.int;exact .inl (_,U,k _ _ [] H (.refl D) (.c (.i _)) nofun ot hq)|b c =>let(v,U,r'):=r.one;let(U,_):=r'.r.bl;exact .inr (_,U,k _ _ [] H (.refl D) (.c (.i _)) nofun ot hq)|_=>exact hq.elim
def Ud:QC:=λts Q=>on1 ts λt=>match t with|.l xs=>T.ims xs=O/\Q (.t xs)|.t xs=>T.ims xs=O/\Q (.t xs)|_=>False
def cq(g:X.K=K):dM X (.type "tuple") (λxs H Q=>∃p ys,xs=[.ref p]/\((SqL K H p ys/\∀l,H l=Y->Q (.ref l) (upd H l (.tup ys)))\/(SqT K H p ys/\Q (.ref p) H))):=by subst g;exact xX
def cp:yc K (λxs H Q=>∃p ys,xs=[.ref p]/\((SqL K H p ys/\∀l,H l=Y->Q (.ref l) (upd H l (.tup ys)))\/(SqT K H p ys/\Q (.ref p) H))) Ud:=by
 intro dl H vs ts F Q R D r hq k;have no:∀b,b∈([])->H b=none:=nofun;replace hq:=on1.inv hq;let(t,U,hq):=hq;cases t with
 |l xs =>
  let(v,U,r'):=r.one;let(p,vs,G,U,U,h1,h2):=r'.r.lst;obtain rfl:=h2.im hq.1;refine(p,vs,U,.inl (SqL.of h1,λl hl=>?_));have rs:Rps K dl H vs _ []:=(h2,λc g=>nomatch g);exact k _ _ _ _ ((Evo.refl D).new hl) (rs.tup D hl) no ot hq.2
 |t xs =>
  let(v,U,r'):=r.one;let(p,vs,U,h1,h2):=r'.r.tup;obtain rfl:=h2.im hq.1;exact(p,vs,U,.inr (SqT.of h1,k _ _ [] H (.refl D) r' no ot hq.2))
 |_=>exact hq.elim
def Ue:QC:=λts Q=>on1 ts λt=>match t with|.l xs=>T.ims xs=O/\Q (.l xs)|.t xs=>T.ims xs=O/\Q (.l xs)|_=>False
def rO(g:X.K=K):dM X (.type "list") (λxs H Q=>∃p ys,xs=[.ref p]/\(SqL K H p ys\/SqT K H p ys)/\∀l,H l=Y->Q (.ref l) (upd H l (.lst ys))):=by subst g;exact AI
def qJ:yc K (λxs H Q=>∃p ys,xs=[.ref p]/\(SqL K H p ys\/SqT K H p ys)/\∀l,H l=Y->Q (.ref l) (upd H l (.lst ys))) Ue:=by
 intro dl H vs ts F Q R D r hq k;replace hq:=on1.inv hq;let(t,U,hq):=hq;cases t with
 |l xs =>
  let(v,U,r'):=r.one;let(p,vs,G,U,U,h1,h2):=r'.r.lst;obtain rfl:=h2.im hq.1;refine(p,vs,U,.inl (SqL.of h1),λl hl=>?_);have rs:Rps K dl H vs _ []:=(h2,λc g=>nomatch g);exact k _ _ _ _ ((Evo.refl D).new hl) (rs.lst D hl) (λb q=>by rw[fy.mp q];exact hl) ba hq.2
 |t xs =>
  let(v,U,r'):=r.one;let(p,vs,U,h1,h2):=r'.r.tup;obtain rfl:=h2.im hq.1;refine(p,vs,U,.inr (SqT.of h1),λl hl=>?_);have rs:Rps K dl H vs _ []:=(h2,λc g=>nomatch g);exact k _ _ _ _ ((Evo.refl D).new hl) (rs.lst D hl) (λb q=>by rw[fy.mp q];exact hl) ba hq.2
 |_=>exact hq.elim
def picks{α:Type}(f:T->Option α):ϑ->Option (List α)
 |[]=>Z []|t::r=>(f t).bind λa=>(picks f r).map (a :: ·)
theorem aB.picks{dl:Dl}{H:Hp}{α:Type}{f:T->Option α}{g:α->V}(hf:∀(v:V)(t:T)(F:Θ)(a:α),aJ K dl H v t F->f t=Z a->v=g a){vs:Ω}{ts:ϑ}{F:Θ}(h:aB K dl H vs ts F):∀{bs:List α},L2.picks f ts=Z bs->vs=bs.map g:=
 h.ind (M:=λvs ts F=>∀{bs:List α},L2.picks f ts=Z bs->vs=bs.map g) (λe=>by cases e;rfl) λv t vs ts F G h _ q bs e=>by
  let(a,e1,P):=Z2.mp e;let(as,z,U):=gV.mp P;rw[hf v t F a h e1,q z];rfl
end
structure cM where
 nx:Sq->Prop
 rt:T->Prop
 bk:Sq->Prop:=λ_=>False
 ct:Sq->Prop:=λ_=>False
 ru:Sq->T->Prop:=λ_ _=>False
abbrev QS:=cM->Sq->Prop
def cM.lp(D:cM)(N:Sq->Prop):cM:={D with nx:=N,ct:=N,bk:=D.nx}
def cM.fn(Q:T->Prop):cM:={nx:=λ_=>Q .n,rt:=Q}
structure Frm(dl:Dl)(bi H:Hp):Prop where
 k:∀b o,bi b=Z o->Nd dl b->NR o->H b=Z o
 r:∀a x,bi a=Z (.room x)->∃y,y<=x/\H a=Z (.room y)
variable{bi:Hp}
def Frm.evo(f:Frm dl bi H)(D:Dls dl H):Evo dl bi H:=(f.k,D,f.r)
def Frm.refl:Frm dl H H:=(λ_ _ h _ _=>h,λ_ x h=>(x,RE _,h))
variable{H':Hp}
def Frm.trans(f:Frm dl bi H)(e:Evo dl H H'):Frm dl bi H':=(λb o h n r=>e.k b o (f.k b o h n r) n r,λa x h=>let(y,q,h1):=f.r a x h;let(z,g,h2):=e.r a y h1;(z,ae8 g q,h2))
structure Rel(K:Ch)(dl:Dl)(bi:Hp)(hs:List (V×T))(H:Hp)(σ:St)(q:Sq)(F:Nat->Θ):Prop where
 d:Dls dl H
 g:∀(i:Nat)(x:Sl)(t:T),q[i]?=Z x->x.get=Z t->∃v,σ[i]?=Z (Z v)/\Rp K dl H v t (F i)
 n:∀(i:Nat)(x:Sl),q[i]?=Z x->x.get=Y->F i=[]
 z:∀(i:Nat),q.length<=i->F i=[]
 o:∀(i:Nat)(t:T),q[i]?=Z (.o t)->(F i).Nodup/\(∀b∈F i,bi b=Y)/\(∀j,j≠i->∀b∈F i,b ∉ F j)
 h:∀p∈hs,∃Fp,Rp K dl H p.1 p.2 Fp/\∀(i:Nat)(t:T),q[i]?=Z (.o t)->∀b∈F i,b ∉ Fp
 f:Frm dl bi H
 l:q.length=σ.length
def gD(K:Ch)(dl:Dl)(bi:Hp)(hs:List (V×T))(H:Hp)(σ:St)(q:Sq):Prop:=∃F,Rel K dl bi hs H σ q F
variable{F':Θ}
section
variable{K:Ch}{hs:List (V×T)}{σ:St}{q:Sq}{F:Nat->Θ}
def Rel.rd(r:Rel K dl bi hs H σ q F):RdR K dl H σ q:=(r.d,λi x t h1 h2=>let(v,e,p):=r.g i x t h1 h2;(v,F i,e,p))
def Rel.fz(r:Rel K dl bi hs H σ q F){b:J}(h:H b=Y):bi b=none:=(r.f.evo r.d).free h
def Rel.ju(r:Rel K dl bi hs H σ q F){i:Nat}{b:J}(P:b∈F i):ik H b:=by
 by_cases hi:i<q.length
 ·have e:q[i]?=Z q[i]:=by simp[hi]
  cases ex:q[i].get with
  |none=>rw[r.n i _ e ex]at P;cases P
  |some t =>let(v,_,p):=r.g i _ t e ex;exact p.r.there b P
 rw[r.z i bd]at P;cases P
theorem Rel.evo(r:Rel K dl bi hs H σ q F)(e:Evo dl H H'):Rel K dl bi hs H' σ q F where
 d:=e.d
 g:=λi x t h1 h2=>let(v,e1,p):=r.g i x t h1 h2;(v,e1,p.evo r.d e)
 n:=r.n
 z:=r.z
 o:=r.o
 h:=λp hp=>let(Fp,h1,h2):=r.h p hp;(Fp,h1.evo r.d e,h2)
 f:=r.f.trans e
 l:=r.l
def Bi(F:Nat->Θ)(i:Nat)(x:Θ):Nat->List Addr:=λj=>if j=i then x else F j
def bB{i:Nat}{x:Θ}:Bi F i x i=x:=if_pos U
def a7{i:Nat}{x:Θ}(h:j≠i):Bi F i x j=F j:=if_neg h
def get_set{α:Type}{xs:List α}{i:Nat}{x y:α}(h:(xs.set i x)[j]?=Z y):(j=i/\y=x/\i<xs.length)\/(j≠i/\xs[j]?=Z y):=by
 by_cases e:j=i
 ·subst e;rw[List.getElem?_set_self']at h;by_cases hl:j<xs.length
  ·rw[fY hl]at h;exact .inl (U,(Option.some.inj h).symm,hl)
  rw[RF bd]at h;cases h
 rw[Fe (λz=>e z.symm)]at h;exact .inr (e,h)
def Rel.put{i:Nat}{v:V}{t:T}(r:Rel K dl bi hs H σ q F)(hi:i<q.length)(e:Evo dl H H')(hv:Rp K dl H' v t F')(hf:∀b∈F',H b=Y)(hn:F'.Nodup):Rel K dl bi hs H' (σ.set i (Z v)) (q.set i (.o t)) (Bi F i F'):=by
 have r':=r.evo e;have out:∀j,∀b∈F',b ∉ F j:=λj b P Q=>(r.ju Q).no (hf b P);refine(e.d,λj x u h1 h2=>?_,λj x h1 h2=>?_,λj Q=>?_,λj u h1=>?_,λp hp=>?_,r'.f,by simp[r.l])
 ·obtain⟨rfl,rfl,_⟩|⟨ne,h1⟩:=get_set h1
  ·cases h2;exact(v,by rw[Xy (by rw[<- r.l];exact hi)],by rw[bB];exact hv)
  let(w,h3,h4):=r'.g j x u h1 h2;exact(w,by rw[Fe (λz=>ne z.symm)];exact h3,by rw[a7 ne];exact h4)
 ·obtain⟨rfl,rfl,_⟩|⟨ne,h1⟩:=get_set h1
  ·cases h2
  rw[a7 ne];exact r.n j x h1 h2
 ·rw[Xo]at Q;rw[a7 bd];exact r.z j Q
 ·obtain⟨rfl,_,_⟩|⟨ne,h1⟩:=get_set h1
  ·rw[bB];exact(hn,λb P=>r.fz (hf b P),λk hk b P=>by rw[a7 hk];exact out k b P)
  rw[a7 ne];let(o1,o2,o3):=r.o j u h1;refine(o1,o2,λk hk b P=>?_);by_cases ek:k=i
  ·subst ek;rw[bB];exact λz=>out j b z P
  rw[a7 ek];exact o3 k hk b P
 let(Fp,h1,h2):=r.h p hp;refine(Fp,h1.evo r.d e,λj u Q b P z=>?_);obtain⟨rfl,_,_⟩|⟨ne,Q⟩:=get_set Q
 ·rw[bB]at P;exact ik.no (h1.r.there b z) (hf b P)
 rw[a7 ne]at P;exact h2 j u Q b P z
def Rel.O4{i:Nat}{v:V}{t:T}(r:Rel K dl bi hs H σ q F)(hi:i<q.length)(hv:Rp K dl H v t F')(hf:∀(j:Nat)(u:T),q[j]?=Z (.o u)->j≠i->∀b∈F j,b ∉ F'):Rel K dl bi hs H (σ.set i (Z v)) (q.set i (.r t)) (Bi F i F'):=by
 refine(r.d,λj x u h1 h2=>?_,λj x h1 h2=>?_,λj P=>?_,λj u h1=>?_,λp hp=>?_,r.f,by simp[r.l])
 ·obtain⟨rfl,rfl,_⟩|⟨ne,h1⟩:=get_set h1
  ·cases h2;exact(v,by rw[Xy (by rw[<- r.l];exact hi)],by rw[bB];exact hv)
  let(w,h3,h4):=r.g j x u h1 h2;exact(w,by rw[Fe (λz=>ne z.symm)];exact h3,by rw[a7 ne];exact h4)
 ·obtain⟨rfl,rfl,_⟩|⟨ne,h1⟩:=get_set h1
  ·cases h2
  rw[a7 ne];exact r.n j x h1 h2
 ·rw[Xo]at P;rw[a7 bd];exact r.z j P
 ·obtain⟨rfl,e,_⟩|⟨ne,h1⟩:=get_set h1
  ·cases e
  rw[a7 ne];let(o1,o2,o3):=r.o j u h1;refine(o1,o2,λk hk b Q=>?_);have z:=hf j u h1 ne b Q;by_cases ek:k=i
  ·subst ek;rw[bB];exact z
  rw[a7 ek];exact o3 k hk b Q
 let(Fp,h1,h2):=r.h p hp;refine(Fp,h1,λj u P b Q z=>?_);obtain⟨rfl,e,_⟩|⟨ne,P⟩:=get_set P
 ·cases e
 rw[a7 ne]at Q;exact h2 j u P b Q z
def Rel.hold{v:V}{t:T}(r:Rel K dl bi hs H σ q F)(hv:Rp K dl H v t F')(hf:∀(j:Nat)(u:T),q[j]?=Z (.o u)->∀b∈F j,b ∉ F'):Rel K dl bi ((v,t)::hs) H σ q F:=
 (r.d,r.g,r.n,r.z,r.o,λp hp=>by
  obtain e|hp:=lb.mp hp
  ·subst e;exact(F',hv,hf)
  exact r.h p hp,r.f,r.l)
def Rel.down{i:Nat}{t:T}(r:Rel K dl bi hs H σ q F)(hi:q[i]?=Z (.o t)):Rel K dl bi hs H σ (q.set i (.r t)) F:=by
 refine(r.d,λj x u h1 h2=>?_,λj x h1 h2=>?_,λj P=>r.z j (by rw[Xo]at P;exact P),λj u h1=>?_,λp hp=>?_,r.f,by simp[r.l])
 ·obtain⟨rfl,rfl,_⟩|⟨ne,h1⟩:=get_set h1
  ·cases h2;exact r.g j _ t hi U
  exact r.g j x u h1 h2
 ·obtain⟨rfl,rfl,_⟩|⟨ne,h1⟩:=get_set h1
  ·cases h2
  exact r.n j x h1 h2
 ·obtain⟨rfl,e,_⟩|⟨ne,h1⟩:=get_set h1
  ·cases e
  exact r.o j u h1
 let(Fp,h1,h2):=r.h p hp;refine(Fp,h1,λj u P=>?_);obtain⟨rfl,e,_⟩|⟨ne,P⟩:=get_set P
 ·cases e
 exact h2 j u P
def Rel.write{i:Nat}{v:V}{t t':T}{p:J}{o:HO}(r:Rel K dl bi hs H σ q F)(hi:q[i]?=Z (.o t))(hv:σ[i]?=Z (Z v))(hp:p∈F i)(ho:∀xs,H p=Z (.lst xs)->∃ys,o=.lst ys)(hr:Rp K dl (upd H p o) v t' F')(hn:F'.Nodup)
  (hf:∀b∈F',b∈F i\/(bi b=Y/\(∀j,b ∉ F j)/\∀w u Fp,Rp K dl H w u Fp->(w,u)∈hs->b ∉ Fp)):Rel K dl bi hs (upd H p o) σ (q.set i (.o t')) (Bi F i F'):=by
 let(o1,o2,o3):=r.o i t hi;have ar:=(gs.mp hi).1;let(v',ak,rp):=r.g i _ t hi U;have pn:=rp.n p hp;have Q:=r.ju hp;have tf:TF H (upd H p o):=(λa vs h=>(by rw[au];exact h;intro z;subst z;let(_,e,m):=Q;rw[h]at e;cases e;cases m),λa ob u h=>(by rw[au];exact h;intro z;subst z;let(_,e,m):=Q;rw[h]at e;cases e;cases m),λa φ h=>(by rw[au];exact h;intro z;subst z;let(_,e,m):=Q;rw[h]at e;cases e;cases m),λa xs h=>(by
  by_cases z:a=p
  ·subst z;let(ys,e):=ho xs h;exact(ys,by rw[ax,e])
  exact(xs,by rw[au z];exact h)),λa x h=>(x,RE _,by
  rw[au];exact h;intro z;subst z;let(_,e,m):=Q;rw[h]at e;cases e;cases m))
 have st:∀{w:V}{u:T}{Fw:Θ},Rp K dl H w u Fw->p ∉ Fw->Rp K dl (upd H p o) w u Fw:=λ{w u Fw} h np =>
  (h.r.dO tf (λ_ z=>z) λb P ob e=>(by
   have ne:b≠p:=by intro z;subst z;exact np P
   rw[au ne];exact e),h.n)
 refine(λd hd=>(r.d d hd).other (pn d hd).1 (pn d hd).2,λj x u h1 h2=>?_,λj x h1 h2=>?_,λj hj=>?_,λj u h1=>?_,λw hw=>?_,(λb ob P nb nr=>?_,λb x P=>?_),by simp[r.l])
 ·obtain⟨rfl,rfl,_⟩|⟨ne,h1⟩:=get_set h1
  ·cases h2;exact(v,hv,by rw[bB];exact hr)
  let(w,h3,h4):=r.g j x u h1 h2;exact(w,h3,by rw[a7 ne];exact st h4 (o3 j ne p hp))
 ·obtain⟨rfl,rfl,_⟩|⟨ne,h1⟩:=get_set h1
  ·cases h2
  rw[a7 ne];exact r.n j x h1 h2
 ·rw[Xo]at hj;rw[a7 bd];exact r.z j hj
 ·obtain⟨rfl,e,_⟩|⟨ne,h1⟩:=get_set h1
  ·rw[bB];refine(hn,λb P=>?_,λk hk b P=>?_)
   ·obtain z|z:=hf b P
    ·exact o2 b z
    exact z.1
   rw[a7 hk];obtain z|z:=hf b P
   ·exact o3 k hk b z
   exact z.2.1 k
  rw[a7 ne];let(p1,p2,p3):=r.o j u h1;refine(p1,p2,λk hk b P=>?_);by_cases ek:k=i
  ·subst ek;rw[bB];intro z;obtain z|z:=hf b z
   ·exact o3 j ne b z P
   exact z.2.1 j P
  rw[a7 ek];exact p3 k hk b P
 ·let(Fp,h1,h2):=r.h w hw;refine(Fp,st h1 (h2 i t hi p hp),λj u hj b P z=>?_);obtain⟨rfl,e,_⟩|⟨ne,hj⟩:=get_set hj
  ·rw[bB]at P;obtain y|y:=hf b P
   ·exact h2 j t hi b y z
   exact y.2.2 w.1 w.2 Fp h1 hw z
  rw[a7 ne]at P;exact h2 j u hj b P z
 ·rw[au]
  ·exact r.f.k b ob P nb nr
  intro z;subst z;rw[o2 b hp]at P;cases P
 let(y,hy,e):=r.f.r b x P;refine(y,hy,?_);rw[au]
 ·exact e
 intro z;subst z;rw[o2 b hp]at P;cases P
end
structure Fi(K:Ch)(dl:Dl)(bi:Hp)(hs:List (V×T))(Dq:cM)(D:Ends):Prop where
 nx:∀H σ q,gD K dl bi hs H σ q->Dq.nx q->D.nx σ H
 bk:∀H σ q,gD K dl bi hs H σ q->Dq.bk q->D.bk σ H
 ct:∀H σ q,gD K dl bi hs H σ q->Dq.ct q->D.ct σ H
 rt:∀v t F H,Dls dl H->Rp K dl H v t F->(∀b∈F,bi b=Y)->F.Nodup->Frm dl bi H->Dq.rt t->D.rt v H
 ru:∀H σ q F0 v t F,Rel K dl bi hs H σ q F0->Rp K dl H v t F->(∀b∈F,bi b=Y)->F.Nodup->(∀j,∀b∈F,b ∉ F0 j)->Dq.ru q t->D.rt v H
def nP(K:Ch)(ts:TS)(qs:QS):Prop:=∀(dl:Dl)(bi:Hp)(hs:List (V×T))(H:Hp)(σ:St)(q:Sq)(Dq:cM)(D:Ends),gD K dl bi hs H σ q->qs Dq q->Fi K dl bi hs Dq D->ts D σ H
structure QPS(X:Cx)(K:Ch)(st:Fa)(ts:TS)(qs:QS):Prop where
 h:PS X st ts
 s:nP K ts qs
structure tV(X:Cx)(K:Ch)(st:List Fa)(ts:TS)(qs:QS):Prop where
 h:PSs X st ts
 s:nP K ts qs
variable{q:Sq}{pos':Pos}
section
variable{X:Cx}{K:Ch}{st:Fa}{rest sa sb:List Fa}{t u:TS}{qt qu:QS}{e c:EQ}{te:TE}{qe:QE}{tc:TT}{qc:QT}{pos:Pos}
def oH:QS:=λD q=>D.nx q
def cM.seq(D:cM)(u:QS):cM:={D with nx:=u D}
def i5(t u:QS):QS:=λD q=>t (D.seq u) q
def aA:tV X K [] RJ oH:=(FU,λ_ _ _ H σ q _ _ r hq E=>E.nx H σ q r hq)
def ag(h1:QPS X K st t qt)(h2:tV X K rest u qu):tV X K (st::rest) (Ti t u) (i5 qt qu):=(bI h1.h h2.h,λdl bi hs H σ q Dq D r hq E =>
h1.s dl bi hs H σ q _ _ r hq (λH σ q r' g=>h2.s dl bi hs H σ q _ _ r' g E,E.bk,E.ct,E.rt,E.ru))
def aj(h1:QPS X K st t qt):tV X K [st] t qt:=(gx h1.h,h1.s)
def aC(he:QPF X K e te qe):QPS X K (.Return (Z e) pos) (N6 te) (λD q=>qe q D.rt):=(qW he.h,λdl bi hs H σ q Dq D (F,r) hq E =>
he.s dl H σ q _ _ r.rd hq λv t F' H' e1 g f1 z P=>E.rt v t F' H' e1.d g (λb Q=>r.fz (f1 b Q)) z (r.evo e1).f P)
def fN{i:Nat}(he:PE X e (b8 i)):QPS X K (.Return (Z e) pos) (N6 (b8 i)) (λD q=>match q[i]? with|some (.o t)=>D.rt t|_=>False):=(qW he,λdl bi hs H σ q Dq D (F,r) hq E=>by
 split at hq
 ·rename_i t e1;let(v,hv,z):=r.g i _ t e1 U;let(o1,o2,P):=r.o i t e1;exact(v,hv,E.rt v t (F i) H r.d z o2 o1 r.f hq)
 exact hq.elim)
def vn(c:QT)(t u:QS):QS:=λD q=>c q λb=>if b=O then t D q else u D q
def aS(z:QPT X K c tc qc)(Q:tV X K sa t qt)(P:tV X K sb u qu):QPS X K (.If c sa sb pos) (Tp tc t u) (vn qc qt qu):=(Lf z.h Q.h P.h,λdl bi hs H σ q Dq D (F,r) hq E =>
z.s dl H σ q _ _ r.rd hq λb H' e1 g=>by
  cases b with
  |true=>exact Q.s dl bi hs H' σ q Dq D (F,r.evo e1) g E
  |false=>exact P.s dl bi hs H' σ q Dq D (F,r.evo e1) g E)
def nu(i:Nat)(qe:QE):QS:=λD q=>qe q λt=>D.nx (q.set i (.o t))
def Rel.La{hs:List (V×T)}{σ:St}{F:Nat->Θ}{i:Nat}{v:V}{t:T}(r:Rel K dl bi hs H σ q F)(e:Evo dl H H')(hv:Rp K dl H' v t F')(hf:∀b∈F',H b=Y)(hn:F'.Nodup):gD K dl bi hs H' (σ.set i (Z v)) (q.set i (.o t)):=by
 by_cases hi:i<q.length
 ·exact(_,r.put hi e hv hf hn)
 have hl:=r.l;rw[Zy bd,Zy bd];exact(F,r.evo e)
def FC{i:Nat}(he:jX K te qe):nP K (kz te (gS i)) (nu i qe):=λdl bi hs H σ q Dq D (F,r) hq E=>he dl H σ q _ _ r.rd hq λv t F' H' e1 g f1 z P=>E.nx H' _ _ (r.La e1 g f1 z) P
def T4{i:Nat}(g:X.N.Nodup)(hi:X.N[i]?=Z x)(hx:Loc X.env.scope x)(he:QPF X K e te qe)(hs:‹swapsWith e (Z (.Name x pos')) pos.line X.env=pure false›)(hf:BC X x:=by first|exact .inl rfl|exact .inr rfl|assumption):
  QPS X K (.Assign [.Name x pos'] e pos) (kz te (gS i)) (nu i qe):=(jE g hi hx he.h hs hf,FC he.s)
inductive X5(tb:QS)(D:cM)(W:Nat->Sq->Prop)(m:Nat)(q:Sq):Prop
 |mk(N:Sq->Prop)(less:∀q',N q'->∃m',m'<m/\W m' q')(body:tb (D.lp N) q)
inductive WhileI(c:QT)(tb:QS)(D:cM)(q:Sq):Prop
 |mk (W:Nat->Sq->Prop) (h0:∃m,W m q) (turn:∀m q,W m q->c q λb=>if b=O then X5 tb D W m q else D.nx q)
def Ua(c:QT)(tb:QS):QS:=λD q=>WhileI c tb D q
def oF(hp:PassesOwn (model X.prog X.w) X.A X.env X.xe)(P:QPT X K c tc qc)(Q:tV X K rest t qt):QPS X K (.While c rest [] pos) (Du tc t) (Ua qc qt):=(By hp P.h Q.h,λdl bi hs H σ q Dq D r hq E=>by
 let(W,(m0,V),turn):=hq;refine(λm σ H=>∃q,gD K dl bi hs H σ q/\W m q,(m0,q,r,V),?_);rintro m σ H ⟨q,⟨F,r⟩,w⟩;refine P.s dl H σ q _ _ r.rd (turn m q w) λb H1 e1 z=>?_;cases b with
 |false=>exact E.nx H1 σ q (F,r.evo e1) z|true =>
  let(N,hN,z):=z;refine(λg H'=>∃q',gD K dl bi hs H' g q'/\N q',λg H' (q',r',n')=>?_,?_)
  ·let(m',hm,w'):=hN q' n';exact(m',hm,q',r',w')
  exact Q.s dl bi hs H1 σ q _ _ (F,r.evo e1) z (λH σ q r n=>(q,r,n),λH σ q r n=>E.nx H σ q r n,λH σ q r n=>(q,r,n),E.rt,E.ru))
end
abbrev PSp:=ϑ->(T->Prop)->Prop
inductive spQ(K:Ch)(ps:PSp)(vs:Ω)(H:Hp)(Q:VK)(_:XK):Prop
 |mk(dl:Dl)(ts:ϑ)(F:Θ)(Qp:T->Prop)(h1:Dls dl H)(h2:Rps K dl H vs ts F)(h3:ps ts Qp)(h4:∀v t F' H',Evo dl H H'->Rp K dl H' v t F'->(∀b∈F',H b=Y)->F'.Nodup->Qp t->Q v H')
section
variable{X:Cx}{K:Ch}{e:EQ}{es:List EQ}{tl:TA}{ql:QA}{pos p:Pos}{k:Nat}{f:J}{fd:Cl}{prs:Γ}{ps:PSp}
def fD(ps:PSp)(ql:QA):QE:=λq Q=>ql q λts=>ps ts Q
def J8(V:Ru K n tl ql):jX K (Bd (spQ K ps) [] E0 tl) (fD ps ql):=λdl H σ q Q R rd hq k=>V dl H σ q _ _ rd hq λvs ts F H1 e1 z _ g=>by
 rw[pq];exact(dl,ts,F,Q,e1.d,z,g,λv t F' H' e r f n g=>k v t F' H' (e1.trans e) r (λb P=>e1.free (f b P)) n g)
theorem OX(F:aP X.prog X.w X.K X.mg X.base CX0 k f fd prs (spQ K ps))(hr:dI k X.A)(hg:Gl X x)(hm:X.mg x=Z (.ref f))(hk:W.keepIn X.K (.ref f)=O)(P:Binds X.K fd prs [])(z:QPA X K (e::es) tl ql)
  (q:autoParam (AT x) zdc._auto_1) (he:‹AD X e es›) (g:‹AS X pos es›):
  QPF X K (.Call (.Name x p) (e::es) [] pos) (Bd (spQ K ps) [] E0 tl) (fD ps ql):=(z9 F hr hg hm hk P .nil FX z.h q he g,J8 z.s)
end
theorem qQ{K:Ch}{vs:Ω}{ts:ϑ}{F:Θ}(D:Dls dl H)(r:Rps K dl H vs ts F)(hn:vs.length<=n):gD K dl H [] H (vs.map Z++rY (n-vs.length) Y) (ts.map Sl.r++rY (n-vs.length) .no):=by
 have hl:=r.r.len;have main:∀{vs:Ω}{ts:ϑ}{F:Θ},aB K dl H vs ts F->(∀b∈F,Nd dl b)->∃g:Nat->Θ,(∀i t,ts[i]?=Z t->∃v,vs[i]?=Z v/\Rp K dl H v t (g i))/\∀i,ts.length<=i->g i=[]:=by
  intro vs ts F h;induction ts generalizing vs F with
  |nil=>intro _;exact(λ_=>[],λi t e=>by simp at e,λ_ _=>rfl)
  |cons t ts ih =>
   cases h with
   |@cons v0 _ Q _ F1 G1 h1 h2 =>
    intro hn;let(g,g1,g2):=ih h2 λb q=>hn b (p7 _ q);refine(λi=>match i with | 0=>F1|i+1=>g i,λi u e=>?_,λi hi=>?_)
    ·cases i with|zero =>simp at e;subst e;exact(_,ba,h1,λb q=>hn b (ui _ q))|succ i =>let(v,e1,P):=g1 i u (e:);exact(v,(e1:),P)
    cases i with|zero=>simp at hi|succ i=>exact g2 i (hi:)
 let(g,g1,g2):=main r.r r.n;have lk:∀i y,(ts.map Sl.r++rY (n-vs.length) Sl.no)[i]?=Z y->(∃t,ts[i]?=Z t/\y=.r t)\/(ts.length<=i/\y=.no):=λi y h=>by
  by_cases hi:i<ts.length
  ·rw[u4 (hi:),fZ,fY hi]at h;exact .inl (ts[i],ba,(Option.some.inj h).symm)
  rw[u6 (hi:),ac2]at h;split at h
  ·exact .inr (bd,(Option.some.inj h).symm)
  cases h
 refine(g,D,λi y t h1 h2=>?_,λi y h1 h2=>?_,λi hi=>?_,λi t h1=>?_,λp hp=>(by cases hp),.refl,by simp[hl])
 ·obtain⟨u,e,rfl⟩|⟨_,rfl⟩:=lk i y h1
  ·cases h2;let(v,e1,P):=g1 i t e;refine(v,?_,P);have hi:=(gs.mp e1).1;rw[u4 (hi:),fZ,e1];rfl
  cases h2
 ·obtain⟨u,e,rfl⟩|⟨hi,rfl⟩:=lk i y h1
  ·cases h2
  exact g2 i hi
 ·refine g2 i ?_;simp at hi;lia
 obtain⟨u,e,z⟩|⟨_,z⟩:=lk i _ h1 <;> cases z
variable{P:Db}{mg:Υ}{base:Ev}{qual:Str}{fd:Cl}{N:Γ}{ps:Γ}
theorem Fun.okQ{w:Da}{K:Ch}{st:Fa}{f:J}{k:Nat}{g:PSp}(F:Fun K x qual st f fd)(S:aD N ps (av st))
  (k9:∀(cdv:B)(A:Do)(outer:List Env)(s:ϋ)(H:Hp)(E:XK),dI k (A.deeper (envOfC qual (av st) s.heap.objs.size f cdv)) ->
∃t qs,tV (rM CX0 P w K mg base N qual (av st) f cdv A outer s H E).nox K (bZ st) t qs/\∀ts Q,g ts Q->qs (.fn Q) (ts.map Sl.r++rY (N.length-ts.length) .no))(len:∀ts Q,g ts Q->ts.length=ps.length:=by intro _ _ h;cases h;subst_vars;rfl):aP P w K mg base CX0 (k+1) f fd ps (spQ K g):=by
 have ak:=by have:=congrArg CP S.pre;rw[tX]at this;omega
 refine F.ok S (λvs H Q E h=>?_) (λcdv A outer s H vs Q E hr h=>?_)
 ·let(dl,ts,F,Qp,_,r,h,_):=h;rw[r.r.len];exact len ts Qp h
 let(dl,ts,Fp,Qp,D,r,h,fin):=h;let(t,qs,hb,hq):=k9 cdv A outer s H E hr;refine(t,hb.h,?_);have hlen:=len ts Qp h;have hl:=r.r.len;have z:=hq ts Qp h;have R:=qQ (n:=N.length) D r bd;rw[<- hl]at z;refine hb.s dl H [] H _ _ _ _ R z (λH' σ q (F,r') V=>?_,λ_ _ _ _ V=>V.elim,λ_ _ _ _ V=>V.elim,λv t F H' D' r' f' n' fr V=>?_,λ_ _ _ _ _ _ _ _ _ _ _ _ z=>z.elim)
 ·exact fin .non .n [] H' (r'.f.evo r'.d) (.n,nofun) nofun ot V
 exact fin v t F H' (fr.evo D') r' f' n' V
structure AX(K:Ch)(dl:Dl)(ώ:It)(xs:ϑ)(hv:List (V×T)):Prop where
 go:∀(H:Hp)(i:Nat),Dls dl H->(∀p∈hv,∃F,Rp K dl H p.1 p.2 F)->i<xs.length->ώ.go i H
 yld:∀(H:Hp)(i:Nat)(x:T)(fp:V×T->Θ)(v:V)(H':Hp),Dls dl H->(∀p∈hv,Rp K dl H p.1 p.2 (fp p))->xs[i]?=Z x->ώ.yld i H v H'->Evo dl H H'/\∃F,Rp K dl H' v x F/\∀b∈F,H b=Y\/∃p∈hv,b∈fp p
 stop:∀(H:Hp),Dls dl H->(∀p∈hv,∃F,Rp K dl H p.1 p.2 F)->ώ.stop xs.length H
variable{lo:Int}
section
variable{X:Cx}{K:Ch}
def pj{xs:ϑ}:AX K dl (Itl K a) xs [(.ref a,.l xs)] where
 go:=λH i D h hi=>by
  let(F,r):=h _ (fy.mpr U);let(p,vs,G,e,_,h1,h2):=r.r.lst;cases e;exact(vs,vs[i]'(by rw[h2.len];exact hi),SqL.of h1,by simp[hi])
 yld:=λH i x fp v H' D h hx y=>by
  have r:=h _ (fy.mpr U);let(p,vs,G,e,Q,h1,h2):=r.r.lst;cases e;let(U,y):=y;let(w,P,hw,q,hs):=h2.get hx;have z:=y vs (SqL.of h1);rw[hw]at z;cases z;have sub:∀b∈P,b∈fp (V.ref a,T.l xs):=λb g=>by
   rw[Q];exact j6 _ (hs b g)
  exact(.refl D,P,(q,λb g=>r.n b (sub b g)),λb g=>.inr (_,fy.mpr U,sub b g))
 stop:=λH D h=>by
  let(F,r):=h _ (fy.mpr U);let(p,vs,G,e,_,h1,h2):=r.r.lst;cases e;exact(vs,SqL.of h1,by rw[h2.len];exact mz _)
def R7{xs:ϑ}:AX K dl (Itl K a) xs [(.ref a,.zl xs)] where
 go:=λH i D h hi=>by
  let(F,r):=h _ (fy.mpr U);let(p,o,vs,e,_,h1,h2):=r.r.zls;cases e;exact(vs,vs[i]'(by rw[h2.len];exact hi),.inl (.inr (o,h1)),by simp[hi])
 yld:=λH i x fp v H' D h hx y=>by
  have r:=h _ (fy.mpr U);let(p,o,vs,e,Q,h1,h2):=r.r.zls;cases e;let(U,y):=y;let(w,P,hw,g,hs):=h2.get hx;have z:=y vs (.inl (.inr (o,h1)));rw[hw]at z;cases z;exact(.refl D,P,(g,λb q=>nomatch hs b q),λb q=>nomatch hs b q)
 stop:=λH D h=>by
  let(F,r):=h _ (fy.mpr U);let(p,o,vs,e,_,h1,h2):=r.r.zls;cases e;exact(vs,.inl (.inr (o,h1)),by rw[h2.len];exact mz _)
def EB{xs:ϑ}:AX K dl (Itt K a) xs [(.ref a,.t xs)] where
 go:=λH i D h hi=>by
  let(F,r):=h _ (fy.mpr U);let(p,vs,e,h1,h2):=r.r.tup;cases e;exact(vs,vs[i]'(by rw[h2.len];exact hi),SqT.of h1,by simp[hi])
 yld:=λH i x fp v H' D h hx y=>by
  have r:=h _ (fy.mpr U);let(p,vs,e,h1,h2):=r.r.tup;cases e;let(U,y):=y;let(w,P,hw,g,hs):=h2.get hx;have z:=y vs (SqT.of h1);rw[hw]at z;cases z;exact(.refl D,P,(g,λb q=>r.n b (hs b q)),λb q=>.inr (_,fy.mpr U,hs b q))
 stop:=λH D h=>by
  let(F,r):=h _ (fy.mpr U);let(p,vs,e,h1,h2):=r.r.tup;cases e;exact(vs,SqT.of h1,by rw[h2.len];exact mz _)
def EC:AX K dl (Itr lo n) ((Fc n).map λi=>.i (lo+(i:Nat))) [] where
 go:=λH i D h hi=>by
  show i<n;simpa using hi
 yld:=λH i x fp v H' D h hx y=>by
  let(U,U):=y;rw[fZ]at hx;cases e:(Fc n)[i]? with
  |none=>rw[e]at hx;cases hx
  |some j =>
   rw[e]at hx;have g:j=i:=by have:=gs.mp e;let(h1,h2):=this;simp at h2;exact h2.symm
   subst g;cases hx;exact(.refl D,[],.c (.i _),nofun)
 stop:=λH D h=>by show n<=_;simp
abbrev QI:=Sq->(ϑ->Prop)->Prop
def X7(K:Ch)(wi:TI)(iq:QI):Prop:=∀(dl:Dl)(H:Hp)(σ:St)(q:Sq)(Q:ϑ->Prop)(R:It->Hp->Prop),RdR K dl H σ q->iq q Q ->
 (∀xs ώ hv H',Evo dl H H'->AX K dl ώ xs hv->(∀p∈hv,∃F,Rp K dl H' p.1 p.2 F)->Q xs->R ώ H')->wi σ H R
structure QPI(X:Cx)(K:Ch)(tg iter:EQ)(wi:TI)(iq:QI):Prop where
 h:PI X tg iter wi
 s:X7 K wi iq
abbrev QJ:=Sq->(ϑ->Sq->Prop)->Prop
def Zd(K:Ch)(wi:TI)(iq:QJ):Prop:=∀(dl:Dl)(bi:Hp)(hs:List (V×T))(H:Hp)(σ:St)(q:Sq)(Q:ϑ->Sq->Prop)(R:It->Hp->Prop),gD K dl bi hs H σ q->iq q Q ->
 (∀xs ώ hv H' q',gD K dl bi (hv++hs) H' σ q'->AX K dl ώ xs hv->Q xs q'->R ώ H')->wi σ H R
structure QPJ(X:Cx)(K:Ch)(tg iter:EQ)(wi:TI)(iq:QJ):Prop where
 h:PI X tg iter wi
 s:Zd K wi iq
variable{tg e a b:EQ}{te:TE}{qe:QE}{tl:TA}{ql:QA}{pos p:Pos}
def oO(g:X.K=K)(h:PE X e te):PI X tg e (yF K te):=by subst g;exact uh h
def z7(g:X.K=K)(h:PE X e te):PI X tg e (Mj K te):=by subst g;exact UH h
def asL(qe:QE):QI:=λq Q=>qe q λt=>match t with|.l xs=>Q xs|.zl xs=>Q xs|_=>False
def asT(qe:QE):QI:=λq Q=>qe q λt=>match t with|.t xs=>Q xs|_=>False
def l5(h:QPE X K e te qe)(z:‹X.K=K›):QPI X K tg e (yF K te) (asL qe):=(oO z h.h,λdl H σ q Q R rd hq k=>h.s dl H σ q _ _ rd hq λv t F H' e1 r g=>by
 split at g
 ·let(p,vs,G,U,U,h1,h2):=r.r.lst;exact(p,U,(vs,SqL.of h1),k _ _ _ H' e1 pj (λp hp=>by rw[fy.mp hp];exact(_,r)) g)
 ·let(p,o,vs,U,U,h1,h2):=r.r.zls;exact(p,U,(vs,.inl (.inr (o,h1))),k _ _ _ H' e1 R7 (λp hp=>by rw[fy.mp hp];exact(_,r)) g)
 exact g.elim)
def gg(h:QPE X K e te qe)(z:‹X.K=K›):QPI X K tg e (Mj K te) (asT qe):=(z7 z h.h,λdl H σ q Q R rd hq k=>h.s dl H σ q _ _ rd hq λv t F H' e1 r g=>by
 split at g
 ·let(p,vs,U,h1,h2):=r.r.tup;exact(p,U,(vs,SqT.of h1),k _ _ _ H' e1 EB (λp hp=>by rw[fy.mp hp];exact(_,r)) g)
 exact g.elim)
def HL(lo:Int)(n:Nat):ϑ:=(Fc n).map λi=>.i (lo+(i:Nat))
def iG{i:Nat}{x:T}(h:(HL lo n)[i]?=Z x):x=.i (lo+(i:Nat))/\i<n:=by unfold HL at h;rw[fZ]at h;let(j,g,U):=gV.mp h;let(h1,h2):=gs.mp g;simp at h1 h2;subst h2;exact(U,h1)
def cZ:(HL lo n).length=n:=by simp[HL]
def X1(ql:QA):QI:=λq Q=>ql q λts=>on1 ts λt=>match t with|.i n=>-(2 ^ 62)<=n/\n<2 ^ 62/\Q (HL 0 n.toNat)|_=>False
def Y6(ql:QA):QI:=λq Q=>ql q λts=>match ts with|[.i m,.i n]=>(-(2 ^ 62)<=m/\m<2 ^ 62 /\ -(2 ^ 62)<=n/\n<2 ^ 62)/\Q (HL m (n-m).toNat)|_=>False
def iZ(hg:Gl X "range")(hm:X.mg "range"=Y)(P:QPA X K [a] tl ql)(hs:‹AM X a›):QPI X K tg (.Call (.Name "range" p) [a] [] pos) (Ml tl) (X1 ql):=(yz hg hm P.h hs,λdl H σ q Q R rd hq k=>P.s dl H σ q _ _ rd hq λvs ts F H' e1 r _ g=>by
 replace g:=on1.inv g;let(t,U,g):=g;split at g
 ·let(v,U,r'):=r.one;let(U,_):=r'.r.int;exact(_,U,g.1,g.2.1,k _ _ [] H' e1 EC nofun g.2.2)
 exact g.elim)
def asJ(iq:QI):QJ:=λq Q=>iq q λxs=>Q xs q
def iY(hg:Gl X "range")(hm:X.mg "range"=Y)(P:QPA X K [a] tl ql)(hs:‹AM X a›):QPJ X K tg (.Call (.Name "range" p) [a] [] pos) (Ml tl) (asJ (X1 ql)):=(yz hg hm P.h hs,λdl bi hs H σ q Q R (F0,z) hq k=>P.s dl H σ q _ _ z.rd hq λvs ts F H' e1 r _ g=>by
 replace g:=on1.inv g;let(t,U,g):=g;split at g
 ·let(v,U,r'):=r.one;let(U,_):=r'.r.int;exact(_,U,g.1,g.2.1,k _ _ [] H' q (F0,z.evo e1) EC g.2.2)
 exact g.elim)
def HQ(hg:Gl X "range")(hm:X.mg "range"=Y)(V:QPA X K [a,b] tl ql)(hs:‹j7 [a,b] X.env=[(ϊ,eval a X.env),(ϊ,eval b X.env)]›)(z:‹AM X b›):QPJ X K tg (.Call (.Name "range" p) [a,b] [] pos) (Sw tl) (asJ (Y6 ql)):=(Ia hg hm V.h hs z,λdl bi hs H σ q Q R (F0,P) hq k=>V.s dl H σ q _ _ P.rd hq λvs ts F H' e1 r _ g=>by
 split at g
 ·let(v,w,F1,F2,U,r1,r2):=r.two;let(U,_):=r1.r.int;let(U,_):=r2.r.int;exact(_,_,U,g.1,k _ _ [] H' q (F0,P.evo e1) EC g.2)
 exact g.elim)
def uc(h:QPF X K e te qe)(hK:‹X.K=K›):QPJ X K tg e (yF K te) (asJ (asL qe)):=(oO hK h.h,λdl bi hs H σ q Q R (F0,g) hq k=>h.s dl H σ q _ _ g.rd hq λv t F H' e1 r f n P=>by
 split at P
 ·have V:=(g.evo e1).hold r λj u hj b hb z=>(g.ju hb).no (f b z);let(p,vs,G,U,U,h1,h2):=r.r.lst;exact(p,U,(vs,SqL.of h1),k _ _ _ H' q (F0,V) pj P)
 ·have V:=(g.evo e1).hold r λj u hj b hb z=>(g.ju hb).no (f b z);let(p,o,vs,U,U,h1,h2):=r.r.zls;exact(p,U,(vs,.inl (.inr (o,h1))),k _ _ _ H' q (F0,V) R7 P)
 exact P.elim)
def iI(h:QPF X K e te qe)(hK:‹X.K=K›):QPJ X K tg e (Mj K te) (asJ (asT qe)):=(z7 hK h.h,λdl bi hs H σ q Q R (F0,g) hq k=>h.s dl H σ q _ _ g.rd hq λv t F H' e1 r f n P=>by
 split at P
 ·have V:=(g.evo e1).hold r λj u hj b hb z=>(g.ju hb).no (f b z);let(p,vs,U,h1,h2):=r.r.tup;exact(p,U,(vs,SqT.of h1),k _ _ _ H' q (F0,V) EB P)
 exact P.elim)
def asN(i:Nat):QJ:=λq Q=>match q[i]? with|some (.o (.l xs))=>Q xs (q.set i (.r (.l xs)))|some (.r (.l xs))=>Q xs q|_=>False
def OO{i:Nat}(h:PE X e (b8 i))(hK:‹X.K=K›):QPJ X K tg e (yF K (b8 i)) (asN i):=(oO hK h,λdl bi hs H σ q Q R (F0,V) hq k=>by
 unfold asN at hq;split at hq
 ·rename_i xs e1;let(v,hv,r):=V.g i _ _ e1 U;have r1:=(V.down e1).hold r λj u P b hb=>by
   obtain⟨_,z,_⟩|⟨ne,P⟩:=get_set P
   ·cases z
   exact(V.o j u P).2.2 i (λz=>ne z.symm) b hb
  let(p,vs,G,U,_,h1,h2):=r.r.lst;exact(_,hv,p,U,(vs,SqL.of h1),k _ _ _ H _ (F0,r1) pj hq)
 ·rename_i xs e1;let(v,hv,r):=V.g i _ _ e1 U;have r1:=V.hold r λj u P b hb=>(V.o j u P).2.2 i (λz=>by subst z;rw[e1]at P;cases P) b hb;let(p,vs,G,U,_,h1,h2):=r.r.lst;exact(_,hv,p,U,(vs,SqL.of h1),k _ _ _ H _ (F0,r1) pj hq)
 exact hq.elim)
inductive Tg where
 |nm(i:Nat)|tp (is:List Nat)
def xr(q:Sq):List Nat->ϑ->Option Sq
 |[],[]=>Z q|i::is,x::xs=>if i<q.length then xr (q.set i (.r x)) is xs else Y|_,_=>Y
def Tg.put(g:Tg)(x:T)(q:Sq):Option Sq:=match g with|.nm i=>if i<q.length then Z (q.set i (.r x))else Y|.tp is=>match x with|.t xs=>xr q is xs|_=>Y
def Av:List Nat->TGs
 |[]=>VC|i::is=>Gm (gS i) (Av is)
def Tg.h(K:Ch):Tg->TG
 |.nm i=>gS i|.tp is=>QM K is.length (Av is)
def HN{hs:List (V×T)}{is:List Nat}:∀{vs:Ω}{xs:ϑ}{G:Θ}{σ:St}{q q':Sq}{F:Nat->Θ}{R:St->Hp->Prop},Rel K dl bi hs H σ q F->aB K dl H vs xs G->(∀b∈G,Nd dl b) ->
  (∀(j:Nat)(u:T),q[j]?=Z (.o u)->∀b∈F j,b ∉ G)->xr q is xs=Z q'->(∀P,gD K dl bi hs H P q'->R P H)->Av is vs σ H R:=by
 induction is with
 |nil =>
  intro vs xs G σ q q' F R r rs _ _ hp k;cases xs with
  |cons _ _=>cases hp
  |nil =>
   cases rs;cases hp;exact(U,k σ (F,r))
 |cons i is ih =>
  intro vs xs G σ q q' F R r rs hn ho hp k;cases xs with
  |nil=>cases hp
  |cons x xs =>
   cases rs with
   |cons r1 r2 =>
    unfold xr at hp;by_cases hi:i<q.length
    ·rw[if_pos hi]at hp;refine(_,_,U,?_);have r':=r.O4 hi (r1,λb g=>hn b (ui _ g)) λj u Q _ b g z=>ho j u Q b g (ui _ z);refine ih r' r2 (λb g=>hn b (p7 _ g)) (λj u Q b g z=>?_) hp k;obtain⟨_,z',_⟩|⟨ne,Q⟩:=get_set Q
     ·cases z'
     rw[a7 ne]at g;exact ho j u Q b g (p7 _ z)
    rw[if_neg hi]at hp;cases hp
variable{g:Tg}
def DO{hs:List (V×T)}{v:V}{x:T}{σ:St}{q':Sq}{F:Nat->Θ}{R:St->Hp->Prop}(r:Rel K dl bi hs H σ q F)(P:Rp K dl H v x G)
  (ho:∀(j:Nat)(u:T),q[j]?=Z (.o u)->∀b∈F j,b ∉ G) (hp:g.put x q=Z q') (k:∀z,gD K dl bi hs H z q'->R z H):g.h K v σ H R:=by
 cases g with
 |nm i =>
  replace hp:(if i<q.length then Z (q.set i (.r x))else Y)=Z q':=hp;by_cases hi:i<q.length
  ·rw[if_pos hi]at hp;cases hp;exact k _ (_,r.O4 hi P λj u hj _=>ho j u hj)
  rw[if_neg hi]at hp;cases hp
 |tp is =>
  cases x with
  |t xs =>
   let(p,vs,U,h1,h2):=P.r.tup;have hl:∀{is:List Nat}{xs:ϑ}{q q':Sq},xr q is xs=Z q'->xs.length=is.length:=λ{is}=>by
    induction is with
    |nil=>intro xs q q' h;cases xs with|nil=>rfl|cons _ _=>cases h
    |cons i is Q=>intro xs q q' h;cases xs with
     |nil=>cases h
     |cons x xs =>
      unfold xr at h;by_cases hi:i<q.length
      ·rw[if_pos hi]at h;simp[Q h]
      rw[if_neg hi]at h;cases h
   exact(p,vs,U,SqT.of h1,by rw[h2.len];exact hl hp,HN r h2 P.n ho hp k)
  |_=>cases hp
end
variable{tg:EQ}{iter:EQ}{body:List Fa}{g:Tg}{cap:List (Option Nat)}{iq:QI}{tst:TT}{qS:QT}{te:TE}{qe:QE}{N':Γ}{sc:Scope}{elt:EQ}{ifs:List EQ}
section
variable{X:Cx}{K:Ch}{hs:List (V×T)}{σ:St}{F:Nat->Θ}
def Rel.zo{hv:List (V×T)}(r:Rel K dl bi (hv++hs) H σ q F):Rel K dl bi hs H σ q F:=(r.d,r.g,r.n,r.z,r.o,λp hp=>r.h p (p7 _ hp),r.f,r.l)
def Rel.fps{hv:List (V×T)}(r:Rel K dl bi (hv++hs) H σ q F):∃fp:V×T->Θ,∀p∈hv,Rp K dl H p.1 p.2 (fp p)/\∀(i:Nat)(t:T),q[i]?=Z (.o t)->∀b∈F i,b ∉ fp p:=by
 classical
 refine(λp=>if h:p∈hv then(r.h p (ui _ h)).choose else [],λp hp=>?_);have z:=(r.h p (ui _ hp)).choose_spec;simp only[dif_pos hp];exact z
inductive Yd(g:Tg)(qb:QS)(D:cM)(xs:ϑ)(q0:Sq):Prop
 |mk(I:Nat->Sq->Prop)(h0:I 0 q0)(step:∀i x q,xs[i]?=Z x->I i q->∃q',g.put x q=Z q'/\qb (D.lp (I (i+1))) q')(fin:∀q,I xs.length q->D.nx q)
def WS(iq:QJ)(g:Tg)(qb:QS):QS:=λD q=>iq q λxs q0=>Yd g qb D xs q0
def bH{wi:TI}{iq:QJ}{tb:TS}{qb:QS}{pos:Pos}(hp:PassesOwn (model X.prog X.w) X.A X.env X.xe)(hc:X.calm=O)(hi:QPJ X K tg iter wi iq)(hg:PG X tg (g.h K))(hb:tV X K body tb qb)
  (hs:∀x,foldedSetIterable iter X.env x=pure x:=by intro _;rfl):QPS X K (.For tg iter body [] pos) (Ws wi (g.h K) tb) (WS iq g qb):=(Lg hp hc hi.h hg hb.h hs,λdl bi hs H σ q Dq D r hq E=>by
 refine hi.s dl bi hs H σ q _ _ r hq λxs ώ hv H1 q1 r1 it hz=>?_;let(I,i0,turn,fin):=hz;refine(λi m σ H=>m=xs.length-i/\i<=xs.length/\∃q,gD K dl bi (hv++hs) H σ q/\I i q,(xs.length,ba,AY _,q1,r1,i0),?_);rintro i m σ H ⟨rfl,aF,q,⟨F,r⟩,hI⟩;have held:∀p∈hv,∃F,Rp K dl H p.1 p.2 F:=λp hp=>let(Fp,h,_):=r.h p (ui _ hp);(Fp,h);by_cases P:i<xs.length
 ·refine .inr (it.go H i r.d held P,λQ H'=>∃q,gD K dl bi (hv++hs) H' Q q/\I (i+1) q,λQ H' h=>(xs.length-(i+1),bd,U,P,h),λv H' y=>?_);let(fp,V):=r.fps;have hx:xs[i]?=Z xs[i]:=by simp[P]
  let(e1,G,rx,hG):=it.yld H i xs[i] fp v H' r.d (λp hp=>(V p hp).1) hx y;let(q',ar,hz):=turn i xs[i] q hx hI;refine DO (r.evo e1) rx (λj u hj b hb z=>?_) ar λak r2=>hb.s dl bi (hv++hs) H' ak q' _ _ r2 hz (λH σ q r n=>(q,r,n),λH σ q (F,r) n=>E.nx H σ q (F,r.zo) n,λH σ q r n=>(q,r,n),E.rt,λH σ q F0 v t F r=>E.ru H σ q F0 v t F r.zo);obtain h |⟨p,hp,h⟩:=hG b z
  ·exact(r.ju hb).no h
  exact(V p hp).2 j u hj b hb h
 have e:i=xs.length:=bd;subst e;exact .inl (it.stop H r.d held,E.nx H σ q (F,r.zo) (fin q hI)))
def lF(cap:List (Option Nat))(q:Sq):Sq:=cap.map λo=>match o with|none=>.no|some i=>match q[i]? with|some (.o t)=>.r t|some (.r t)=>.r t|_=>.no
def OG(r:RdR K dl H σ q):RdR K dl H (pQ cap σ) (lF cap q):=(r.d,λj x t h1 h2=>by
 unfold lF at h1;rw[fZ]at h1;cases e:cap[j]? with
 |none=>rw[e]at h1;cases h1
 |some o =>
  rw[e]at h1;cases o with
  |none=>cases h1;cases h2
  |some i =>
   have go:∀y,q[i]?=Z y->y.get=Z t->∃v F,(pQ cap σ)[j]?=Z (Z v)/\Rp K dl H v t F:=λy z P=>by
    let(v,F,h3,h4):=r.g i y t z P;refine(v,F,?_,h4);unfold pQ;rw[fZ,e];show Z ((σ[i]?).join)=_;rw[h3];rfl
   replace h1:(match q[i]? with|some (.o t)=>Sl.r t|some (.r t)=>.r t|_=>.no)=x:=Option.some.inj h1;split at h1
   ·rename_i u eq;subst h1;cases h2;exact go _ eq U
   ·rename_i u eq;subst h1;cases h2;exact go _ eq U
   subst h1;cases h2)
theorem RdR.set{i:Nat}{v:V}{x:T}{G:Θ}(r:RdR K dl H σ q)(hl:i < σ.length)(P:Rp K dl H v x G):RdR K dl H (σ.set i (Z v)) (q.set i (.r x)):=(r.d,λj y t h1 h2=>by
 obtain⟨rfl,rfl,_⟩|⟨ne,h1⟩:=get_set h1
 ·cases h2;exact(v,G,by rw[Xy hl],P)
 let(w,F,h3,h4):=r.g j y t h1 h2;exact(w,F,by rw[Fe (λz=>ne z.symm)];exact h3,h4))
def RdR.any{i:Nat}{o:Option V}(r:RdR K dl H σ q)(hn:q[i]?=Z .no):RdR K dl H (σ.set i o) q:=(r.d,λj y t h1 h2=>by
 let(w,F,h3,h4):=r.g j y t h1 h2;refine(w,F,?_,h4);rw[Fe]
 ·exact h3
 intro z;subst z;rw[hn]at h1;cases h1;cases h2)
def Tg.ixs:Tg->List Nat
 |.nm i=>[i]|.tp is=>is
def Kn{is:List Nat}:∀{vs:Ω}{xs:ϑ}{G:Θ}{σ:St}{q q0 q':Sq}{R:St->Hp->Prop},RdR K dl H σ q->RdR K dl H σ q0->σ.length=q.length->aB K dl H vs xs G->(∀b∈G,Nd dl b)->(∀i∈is,q0[i]?=Z .no)->xr q is xs=Z q' ->
  (∀g,RdR K dl H g q'->RdR K dl H g q0->g.length=σ.length->R g H)->Av is vs σ H R:=by
 induction is with
 |nil =>
  intro vs xs G σ q q0 q' R r z _ rs _ _ hp k;cases xs with
  |cons _ _=>cases hp
  |nil =>
   cases rs;cases hp;exact(U,k σ r z U)
 |cons i is ih =>
  intro vs xs G σ q q0 q' R r z hl rs hn hf hp k;cases xs with
  |nil=>cases hp
  |cons x xs =>
   cases rs with
   |cons r1 Q =>
    unfold xr at hp;by_cases hi:i<q.length
    ·rw[if_pos hi]at hp;refine(_,_,U,(ih (r.set bd (r1,λb P=>hn b (ui _ P))) (z.any (hf i j4)) (by simp[hl]) Q (λb P=>hn b (p7 _ P)) (λj hj=>hf j (j6 _ hj)) hp λg a b c=>k g a b (c:)))
    rw[if_neg hi]at hp;cases hp
theorem Bx:∀{is:List Nat}{xs:ϑ}{q q':Sq},xr q is xs=Z q'->xs.length=is.length
 |[],[],_,_,_=>rfl|[],_::_,_,_,h=>by cases h
 |_::_,[],_,_,h=>by cases h
 |i::is,x::xs,q,q',h=>by
  unfold xr at h;by_cases hi:i<q.length
  ·rw[if_pos hi]at h;simp[Bx h]
  rw[if_neg hi]at h;cases h
def Ww{v:V}{x:T}{q':Sq}{R:St->Hp->Prop}(r:RdR K dl H σ q)(hl:σ.length=q.length)(P:Rp K dl H v x G)(hf:∀i∈g.ixs,q[i]?=Z .no)(hp:g.put x q=Z q')
  (k:∀z,RdR K dl H z q'->RdR K dl H z q->z.length=σ.length->R z H):g.h K v σ H R:=by
 cases g with
 |nm i =>
  replace hp:(if i<q.length then Z (q.set i (.r x))else Y)=Z q':=hp;by_cases hi:i<q.length
  ·rw[if_pos hi]at hp;cases hp;exact k _ (r.set bd P) (r.any (hf i (fy.mpr U))) ba
  rw[if_neg hi]at hp;cases hp
 |tp is =>cases x with|t xs =>let(p,vs,U,h1,h2):=P.r.tup;exact(p,vs,U,SqT.of h1,by rw[h2.len];exact Bx hp,Kn r r hl h2 P.n hf hp k)|_=>cases hp
def KY:QT:=λ_ Q=>Q O
def JY:nO K Fx KY:=λdl H σ q Q R rd hq k=>k O H (.refl rd.d) hq
inductive CompI(cap:List (Option Nat))(g:Tg)(tst:QT)(qe:QE)(q:Sq)(Q:T->Prop)(xs:ϑ):Prop
 |mk (hl:xs.length<lK) (I:Nat->ϑ->Prop) (h0:I 0 []) (step:∀i x ys,xs[i]?=Z x->I i ys->∃q',g.put x (lF cap q)=Z q'/\tst q' λb=>if b=O then qe q' λy=>I (i+1) (ys++[y])else I (i+1) ys) (fin:∀ys,I xs.length ys->Q (.l ys))
def FP(cap:List (Option Nat))(iq:QI)(g:Tg)(tst:QT)(qe:QE):QE:=λq Q=>iq q λxs=>CompI cap g tst qe q Q xs
theorem Bh{wi:TI}(hi:X7 K wi iq)(ht:nO K tst qS)(he:jX K te qe)(hf:(g.ixs.all λi=>cap[i]? == Z Y)=O):jX K (yn cap wi (g.h K) tst te) (FP cap iq g qS qe):=by
 intro dl H σ q Q R rd hq k;refine hi dl H σ q _ _ rd hq λxs ώ hv H1 e1 it held hz=>?_;let(hlen,I,i0,turn,fin):=hz;have a9:=OG (cap:=cap) (rd.evo e1);have bA:∀i∈g.ixs,(lF cap q)[i]?=Z .no:=λi hi=>by
  have z:=RB.mp hf i hi;have z:=(z:);unfold lF;rw[fZ,z];rfl
 have bQ:(pQ cap σ).length=(lF cap q).length:=by simp[pQ,lF]
 refine(λi m vs aF H'=>m=xs.length-i/\i<=xs.length/\∃ts F,Evo dl H1 H'/\RdR K dl H' aF (lF cap q)/\aF.length=(lF cap q).length/\(∀p∈hv,∃F,Rp K dl H' p.1 p.2 F)/\Rps K dl H' vs ts F/\(∀b∈F,H b=Y)/\F.Nodup/\vs.length<=i/\I i ts,
(xs.length,ba,AY _,[],[],.refl e1.d,a9,bQ,held,(.nil,nofun),nofun,ot,mz _,i0),?_)
 rintro i m vs aF H' ⟨rfl,cb,ts,F,e2,a6,bG,Cd,rs,fr,nd,b0,hI⟩;by_cases ak:i<xs.length
 ·refine .inr (it.go H' i e2.d Cd ak,bd,λaK ar H2=>∃ts F,Evo dl H1 H2/\RdR K dl H2 ar (lF cap q)/\ar.length=(lF cap q).length/\(∀p∈hv,∃F,Rp K dl H2 p.1 p.2 F)/\Rps K dl H2 aK ts F/\(∀b∈F,H b=Y)/\F.Nodup/\aK.length<=i+1/\I (i+1) ts,
λaK ar H2 h=>(xs.length-(i+1),Nat.sub_succ_lt_self _ _ ak,U,ak,h),λv H2 y=>?_)
  have hx:xs[i]?=Z xs[i]:=by simp[ak]
  obtain⟨fp,bP⟩:∃fp:V×T->Θ,∀p∈hv,Rp K dl H' p.1 p.2 (fp p):=by
   classical
   refine(λp=>if h:p∈hv then(Cd p h).choose else [],λp hp=>?_);simp only[dif_pos hp];exact(Cd p hp).choose_spec
  let(e3,G,rx,hG):=it.yld H' i xs[i] fp v H2 e2.d bP hx y;let(q',bc,hz):=turn i xs[i] ts hx hI;have Sz:∀{H3:Hp},Evo dl H' H3->∀p∈hv,∃F,Rp K dl H3 p.1 p.2 F:=λ{H3} e p hp=>let(F,r):=Cd p hp;(F,r.evo e2.d e);refine Ww (a6.evo e3) bG rx bA bc λaW r3 a3 l3=>(ht dl H2 aW q' _ _ r3 hz λb H4 e4 hz=>?_);cases b with
  |false=>exact(ts,F,(e2.trans e3).trans e4,a3.evo e4,bd,Sz (e3.trans e4),(rs.evo e2.d e3).evo e3.d e4,fr,nd,bd,hz)|true =>
   refine he dl H4 aW q' _ _ (r3.evo e4) hz λw t G' H5 e5 a0 f5 n5 hz=>?_;have E:=(e2.trans e3).trans (e4.trans e5);have a4:=((rs.evo e2.d e3).evo e3.d (e4.trans e5));refine(ts++[t],F++(G'++[]),E,a3.evo (e4.trans e5),bd,Sz (e3.trans (e4.trans e5)),(a4.r.append (.cons a0.r .nil),λb P=>?_),λb P=>?_,?_,by simp;lia,hz)
   ·obtain P|P:=lN.mp P
    ·exact rs.n b P
    rw[pq]at P;exact a0.n b P
   ·obtain P|P:=lN.mp P
    ·exact fr b P
    rw[pq]at P;exact((e1.trans e2).trans (e3.trans e4)).free (f5 b P)
   rw[pq];refine yf.mpr (nd,n5,λx hx y hy bT=>?_);subst bT;have a5:=(rs.evo e2.d e3).evo e3.d e4;exact ik.no (a5.r.there x hx) (f5 x hy)
 have e:i=xs.length:=bd;subst e;refine .inl (it.stop H' e2.d Cd,bd,λD hD=>?_);exact k _ _ _ _ ((e1.trans e2).new hD) (rs.lst e2.d hD) (λb P=>by
  obtain e|P:=lb.mp P
  ·rw[e];exact(e1.trans e2).free hD
  exact fr b P) (rs.fresh hD nd) (fin ts hI)
structure QB(X:Cx)(K:Ch)(N':Γ)(sc:Scope)(tg:EQ)(g:Tg)(ifs:List EQ)(tst:TT)(qS:QT)(elt:EQ)(te:TE)(qe:QE):Prop where
 b:∀cl C s₂ H₂ fp,PG (blk X N' sc cl C s₂ H₂ fp) tg (g.h K)/\PTs (blk X N' sc cl C s₂ H₂ fp) ifs tst/\PE (blk X N' sc cl C s₂ H₂ fp) elt te
 t:nO K tst qS
 e:jX K te qe
def cg(h:∀cl C s₂ H₂ fp,PG (blk X N' sc cl C s₂ H₂ fp) tg (g.h K)/\QPF (blk X N' sc cl C s₂ H₂ fp) K elt te qe):QB X K N' sc tg g [] Fx KY elt te qe:=
 (λcl C s₂ H₂ fp=>((h cl C s₂ H₂ fp).1,FT,(h cl C s₂ H₂ fp).2.h),JY,(h [] 0 X.s₀ (λ_=>Y) []).2.s)
def zU{c:EQ}(h:∀cl C s₂ H₂ fp,PG (blk X N' sc cl C s₂ H₂ fp) tg (g.h K)/\QPT (blk X N' sc cl C s₂ H₂ fp) K c tst qS/\QPF (blk X N' sc cl C s₂ H₂ fp) K elt te qe):QB X K N' sc tg g [c] tst qS elt te qe:=
 (λcl C s₂ H₂ fp=>((h cl C s₂ H₂ fp).1,FR (h cl C s₂ H₂ fp).2.1.h,(h cl C s₂ H₂ fp).2.2.h),(h [] 0 X.s₀ (λ_=>Y) []).2.1.s,(h [] 0 X.s₀ (λ_=>Y) []).2.2.s)
def cu{pos:Pos}{wi:TI}(hc:X.calm=O)(hi:QPI X K tg iter wi iq)(z:qy X sc N' cap)(q:QB X K N' sc tg g ifs tst qS elt te qe)
  (hf:‹(g.ixs.all λi=>cap[i]? == Z Y)=true›)
  (V:‹sc.kind=.function›) (Q:autoParam (∀y∈sc.names,y.2 ≠ .cell) zdc._auto_1) (jL:autoParam (∀y∈sc.names,y.2=.local->sc.names.lookup y.1=Z .local) zdc._auto_1)
  (P:‹(sc.names.all λy=>y.2 != .free ||(X.env.kindOf y.1==Z .cell||X.env.kindOf y.1==Z .free))=true›)
  (hs:∀x,foldedSetIterable iter X.env x=pure x:=by intro _;rfl):QPF X K (.ListComp elt [(tg,iter,ifs,0)] sc pos) (yn cap wi (g.h K) tst te) (FP cap iq g qS qe):=
 (FW hc hi.h z q.b V Q jL P hs,Bh hi.s q.t q.e hf)
def fO{i:Nat}{y:Str}{pos fC py:Pos}{wi:TI}(hN:X.N.Nodup)(z:X.N[i]?=Z y)(hy:Loc X.env.scope y)
  (hc:X.calm=O) (hi:QPI X K tg iter wi iq) (V:qy X sc N' cap) (Q:QB X K N' sc tg g ifs tst qS elt te qe)
  (P:‹(g.ixs.all λi=>cap[i]? == Z Y)=true›)
  (q:‹swapsWith (.ListComp elt [(tg,iter,ifs,0)] sc pos) (Z (.Name y py)) fC.line X.env=pure true›)
  (hf:BC X y:=by first|exact .inl rfl|exact .inr rfl|assumption)
  (jd:‹sc.kind=.function›) (je:autoParam (∀y∈sc.names,y.2 ≠ .cell) zdc._auto_1) (jL:autoParam (∀y∈sc.names,y.2=.local->sc.names.lookup y.1=Z .local) zdc._auto_1)
  (ke:‹(sc.names.all λy=>y.2 != .free ||(X.env.kindOf y.1==Z .cell||X.env.kindOf y.1==Z .free))=true›)
  (hs:∀x,foldedSetIterable iter X.env x=pure x:=by intro _;rfl):QPS X K (.Assign [.Name y py] (.ListComp elt [(tg,iter,ifs,0)] sc pos) fC) (kz (yn cap wi (g.h K) tst te) (gS i)) (nu i (FP cap iq g qS qe)):=
 (FV hN z hy hc hi.h V Q.b q hf jd je jL ke hs,FC (Bh hi.s Q.t Q.e P))
end
section
variable{X:Cx}{K:Ch}{hs:List (V×T)}{σ:St}{F:Nat->Θ}{e o:EQ}{apos aZ:Pos}
def zip_inj:∀{vs us:Ω},vs.length=ns.length->us.length=ns.length->ns.zip vs=ns.zip us->vs=us:=by
 induction ns with
 |nil=>intro vs us h1 h2 _;rw[uG.mp h1,uG.mp h2]
 |cons n r g =>
  intro vs us h1 h2 e;cases vs with
  |nil=>cases h1
  |cons v vs=>cases us with
   |nil=>cases h2
   |cons u us =>
    injection e with e1 q
    injection e1 with _ e1
    rw[e1,g (Nat.succ.inj h1) (Nat.succ.inj h2) q]
def aJ.uniq{v:V}{t:T}{F:Θ}(h:aJ K dl H v t F):∀{F':Θ},aJ K dl H v t F'->F=F':=
 aJ.rec (motive_1:=λv t F _=>∀{F'},aJ K dl H v t F'->F=F') (motive_2:=λv t F _=>∀{F'},aB K dl H v t F'->F=F') (motive_3:=λv t F _=>∀{F'},bo K dl H v t F'->F=F')
  (λh=>(h.im U).symm) (λ_ _ h=>(h.im U).symm) (λ_ _ h=>(h.im U).symm) (λ_ _ h=>(h.im U).symm) (λ_ _ h=>(h.im U).symm)
  (λh1 _ g _ h=>by let(a,vs,e,h2,r):=h.tup;cases e;rw[h1]at h2;cases h2;exact g r)
  (λh1 _ g _ h=>by let(a,vs,G,e,U,h2,r):=h.lst;cases e;rw[h1]at h2;cases h2;rw[g r])
  (λh1 _ g _ h=>by let(a,vs,G,e,U,h2,r):=h.dic;cases e;rw[h1]at h2;cases h2;rw[g r])
  (λ_ _ h=>(h.im U).symm) (λ_ _ h=>(h.im U).symm) (λ_ _ h=>(h.im U).symm) (λ_ _ _ _ h=>(h.im U).symm) (λ_ _ h=>(h.im U).symm) (λ_ _ _ _ h=>(h.im U).symm)
  (λ_ _ _ h=>(h.im U).symm) (λ_ _ _ _ h=>(h.im U).symm) (λh1 _ g _ h=>by let(vs,G,e,U,h2,r):=h.dpp;rw[h1]at h2;cases h2;rw[g r]) (λh1 _ g _ h=>by let(vs,G,e,U,h2,r):=h.lpp;rw[h1]at h2;cases h2;rw[g r]) (λ_ _ _ _ h=>(h.im U).symm) (λ_ _ h=>(h.im U).symm) (λh1 _ h4 hr g _ h=>by
   let(dx,vs,G,e,U,h2,_,h3,r):=h.omm;rw[h1]at h2;injection h2 with h2
   injection h2 with _ e1 P
   subst e1;have z:=zip_inj (hr.len.trans h4.symm) (r.len.trans h3.symm) P;subst z;rw[g r]) (λ_ _ h=>(h.im U).symm)
  (λh=>by cases h;rfl) (λ_ _ i1 i2 _ h=>by cases h with|cons h2 q=>rw[i1 h2,i2 q])
  (λh=>by cases h;rfl) (λ_ _ i1 i2 _ h=>by cases h with|cons h2 q=>rw[i1 h2,i2 q]) h
def Rel.Qx(r:Rel K dl bi hs H σ q F)(e:Evo dl H H'){p:V×T}(hp:p∈hs){Fp:Θ}(h:Rp K dl H' p.1 p.2 Fp){b:J}(g:H b=Y):b ∉ Fp:=λz=>by
 let(P,h1,_):=r.h p hp;have e1:=(h1.evo r.d e).r.uniq h.r;subst e1;exact ik.no (h1.r.there b z) g
def Rel.vh{i:Nat}{p:J}{ws:Ω}{xs ys:ϑ}{G':Θ}(r:Rel K dl bi hs H σ q F)(hi:q[i]?=Z (.o (.l xs)))(hv:σ[i]?=Z (Z (.ref p)))(Q:F i=p::G)(e:Evo dl H H')
  (rs:aB K dl H' ws ys G') (hn:G'.Nodup) (hG:∀b∈G',b∈G\/(H b=Y/\Nd dl b)):gD K dl bi hs (upd H' p (.lst ws)) σ (q.set i (.o (.l ys))):=by
 have r':=r.evo e;let(o1,o2,o3):=r.o i _ hi;let(v',a0,rp):=r'.g i _ _ hi U;let(p2,aW,G2,e2,eF,h1,h2):=rp.r.lst;rw[Q]at eF;cases eF;rw[Q]at o1;have pG:=(wh.mp o1).1;have aK:=r.ju (by rw[Q];exact j4);have ak:p ∉ G':=λz=>by
  obtain z|z:=hG p z
  ·exact pG z
  exact aK.no z.1
 have pn:=rp.n p (by rw[Q];exact j4);have tf:TF H' (upd H' p (.lst ws)):=(λa us h=>(by rw[au];exact h;intro z;subst z;rw[h]at h1;cases h1),λa ob u h=>(by rw[au];exact h;intro z;subst z;rw[h]at h1;cases h1),λa φ h=>(by rw[au];exact h;intro z;subst z;rw[h]at h1;cases h1),λa ar h=>(by
  by_cases z:a=p
  ·subst z;exact(_,ax)
  exact(ar,by rw[au z];exact h)),λa x h=>(x,RE _,by
  rw[au];exact h;intro z;subst z;rw[h]at h1;cases h1))
 have aF:=rs.dO tf (λ_ z=>z) λb P ob eb=>by
  have ne:b≠p:=by intro z;subst z;exact ak P
  rw[au ne];exact eb
 refine(_,r'.write hi hv (by rw[Q];exact j4) (λ_ _=>(_,U)) (.l ax aF,λb P=>?_) (wh.mpr (ak,hn)) λb P=>?_)
 ·obtain z|P:=lb.mp P
  ·rw[z];exact pn
  obtain z|z:=hG b P
  ·exact rp.n b (by rw[Q];exact j6 _ z)
  exact z.2
 obtain z|P:=lb.mp P
 ·rw[z,Q];exact .inl j4
 obtain z|z:=hG b P
 ·rw[Q];exact .inl (j6 _ z)
 exact .inr (r.fz z.1,λj hj=>(r.ju hj).no z.1,λw u Fp h1 h2=>r.Qx e h2 h1 z.1)
def zW(i:Nat)(qe:QE):QS:=λD q=>match q[i]? with|some (.o (.l xs))=>xs.length<lK/\qe q λt=>D.nx (q.set i (.o (.l (xs++[t]))))|_=>False
abbrev AC(X:Cx)(p:Pos)(e:List EQ):Prop:=((backTo p (j7 e X.env)).all (λx=>!x.1)&&(backToKw p (keywordEach [] X.env)).all (λx=>x.1.isSome)&&decide (e.length+([]:List Keyword).length+(if([]:List Keyword).isEmpty then 0 else 1)<30))=true
def Ei(q:X.K=K){i:Nat}(ho:PE X o (b8 i))(he:PE X e te)(z:‹attributeBase o "append" X.env (eval o X.env)=eval o X.env›)
  (g:‹AC X aZ [e]›)
  (P:‹(apos.endLine==aZ.line)=true›) (hs:‹AD X e []›) (Q:‹(backTo aZ (j7 [] X.env)).any (·.1)=false›):
  PE X (.Call (.Attribute o "append" apos) [e] [] aZ) (tBM K "list" ub (b8 i) (bR te gq)):=by
 subst q;exact BG PySem.F.plainAttrs_list PySem.F.slot_list_append PySem.F.type_list_append Iq ho (bp he cY hs) z g P hs Q
def DB{i:Nat}(he:jX K te qe):nP K (oh (tBM K "list" ub (b8 i) (bR te gq))) (zW i qe):=λdl bi hs H σ q Dq D (F,r) hq E=>by
 unfold zW at hq;split at hq
 ·rename_i xs ei;let(hz,hq):=hq;let(v,hv,rp):=r.g i _ _ ei U;let(o1,o2,o3):=r.o i _ ei;let(p,vs,G,U,Q,h1,h2):=rp.r.lst;refine(_,hv,.inl (U,vs,SqL.of h1),he dl H σ q _ _ r.rd hq λw t F' H' e1 r1 f1 n1 ak=>?_);have pn:=rp.n p (by rw[Q];exact j4);refine(p,vs,w,U,U,e1.k p _ h1 pn nofun,by rw[h2.len];exact hz,?_);have hG:=λb P=>rp.n b (by rw[Q];exact j6 _ P);have V:=h2.dO (e1.tf r.d) (λ_ z=>z) λb P o eo=>e1.k b o eo (hG b P) (.of (h2.there b P) eo);refine E.nx _ σ _ (r.vh ei hv Q e1 (V.append (.cons r1.r .nil)) ?_ λb P=>?_) ak
  ·rw[pq];rw[Q]at o1;refine yf.mpr ((wh.mp o1).2,n1,λx hx y hy ar=>?_);subst ar;exact ik.no (h2.there x hx) (f1 x hy)
  obtain P|P:=lN.mp P
  ·exact .inl P
  rw[pq]at P;exact .inr (f1 b P,r1.n b P)
 exact hq.elim
def bh{i:Nat}{fC:Pos}(ho:PE X o (b8 i))(he:QPF X K e te qe)(z:‹X.K=K›)(P:‹attributeBase o "append" X.env (eval o X.env)=eval o X.env›)
  (q:‹AC X aZ [e]›)
  (Q:‹(apos.endLine==aZ.line)=true›) (hs:‹AD X e []›) (V:‹(backTo aZ (j7 [] X.env)).any (·.1)=false›)
  (g:‹swapsWith (.Call (.Attribute o "append" apos) [e] [] aZ) Y fC.line X.env=pure false›):
  QPS X K (.Expr (.Call (.Attribute o "append" apos) [e] [] aZ) fC) (oh (tBM K "list" ub (b8 i) (bR te gq))) (zW i qe):=(oK (Ei z ho he.h P q Q hs V) g,DB he.s)
def zV(i:Nat)(qe:QE):QS:=λD q=>match q[i]? with
 |some (.o (.l xs))=>qe q λt=>match t with|.l ys=>xs.length+ys.length<=lK/\D.nx (q.set i (.o (.l (xs++ys))))|_=>False
 |_=>False
def Eh(q:X.K=K){i:Nat}(ho:PE X o (b8 i))(he:PE X e te)(z:‹attributeBase o "extend" X.env (eval o X.env)=eval o X.env›)
  (g:‹AC X aZ [e]›)
  (P:‹(apos.endLine==aZ.line)=true›) (hs:‹AD X e []›) (Q:‹(backTo aZ (j7 [] X.env)).any (·.1)=false›):
  PE X (.Call (.Attribute o "extend" apos) [e] [] aZ) (tBM K "list" ua (b8 i) (bR te gq)):=by
 subst q;exact BG PySem.F.plainAttrs_list PySem.F.slot_list_extend PySem.F.type_list_extend Ip ho (bp he cY hs) z g P hs Q
def DA{i:Nat}(he:jX K te qe):nP K (oh (tBM K "list" ua (b8 i) (bR te gq))) (zV i qe):=λdl bi hs H σ q Dq D (F,r) hq E=>by
 unfold zV at hq;split at hq
 ·rename_i xs ei;let(v,hv,rp):=r.g i _ _ ei U;let(o1,o2,o3):=r.o i _ ei;let(p,vs,G,U,V,h1,h2):=rp.r.lst;refine(_,hv,.inl (U,vs,SqL.of h1),he dl H σ q _ _ r.rd hq λw t F' H' e1 r1 f1 n1 Q=>?_);split at Q
  ·let(p2,ws,G2,U,U,h3,h4):=r1.r.lst;have pn:=rp.n p (by rw[V];exact j4);refine(p,p2,vs,ws,U,U,e1.k p _ h1 pn nofun,h3,by rw[h2.len,h4.len];exact Q.1,?_);have hG:=λb P=>rp.n b (by rw[V];exact j6 _ P);have ak:=h2.dO (e1.tf r.d) (λ_ z=>z) λb P o eo=>e1.k b o eo (hG b P) (.of (h2.there b P) eo);refine E.nx _ σ _ (r.vh ei hv V e1 (ak.append h4) ?_ λb P=>?_) Q.2
   ·rw[V]at o1;refine yf.mpr ((wh.mp o1).2,(wh.mp n1).2,λx hx y hy ar=>?_);subst ar;exact ik.no (h2.there x hx) (f1 x (j6 _ hy))
   obtain P|P:=lN.mp P
   ·exact .inl P
   exact .inr (f1 b (j6 _ P),r1.n b (j6 _ P))
  exact Q.elim
 exact hq.elim
def cG{i:Nat}{fC:Pos}(ho:PE X o (b8 i))(he:QPF X K e te qe)(z:‹X.K=K›)(P:‹attributeBase o "extend" X.env (eval o X.env)=eval o X.env›)
  (q:‹AC X aZ [e]›)
  (Q:‹(apos.endLine==aZ.line)=true›) (hs:‹AD X e []›) (V:‹(backTo aZ (j7 [] X.env)).any (·.1)=false›)
  (g:‹swapsWith (.Call (.Attribute o "extend" apos) [e] [] aZ) Y fC.line X.env=pure false›):
  QPS X K (.Expr (.Call (.Attribute o "extend" apos) [e] [] aZ) fC) (oh (tBM K "list" ua (b8 i) (bR te gq))) (zV i qe):=(oK (Eh z ho he.h P q Q hs V) g,DA he.s)
end
variable{qo:QE}{to:TE}
section
variable{X:Cx}{K:Ch}{hs:List (V×T)}{σ:St}{F:Nat->Θ}{a b e o c:EQ}{ta tb tk tv:TE}{qa qb qk qv:QE}{pos apos aZ:Pos}
def aB.last{ts:ϑ}{x:T}{vs:Ω}{F:Θ}(h:aB K dl H vs (ts++[x]) F):∃us w q g,vs=us++[w]/\aB K dl H us ts q/\aJ K dl H w x g/\F=q++g:=by
 induction ts generalizing vs F with
 |nil =>
  cases h with
  |cons h1 h2 =>
   cases h2;exact([],_,[],_,U,.nil,h1,ba)
 |cons t ts Q =>cases h with|cons h1 h2 =>let(us,w,q,g,U,P,z,U):=Q h2;exact(_::us,w,_,g,U,.cons h1 P,z,by rw[wI])
def Uh(i j:Nat):QS:=λD q=>match q[i]? with|some (.o (.l xs))=>∃ys x,xs=ys++[x]/\T.ims xs=O/\i≠j/\D.nx ((q.set i (.o (.l ys))).set j (.o x))|_=>False
def EF{xs ys:ϑ}:T.ims (xs++ys)=(T.ims xs&&T.ims ys):=by induction xs with|nil=>rfl|cons x r g=>show(x.im&&T.ims (r++ys))=((x.im&&T.ims r)&&T.ims ys);rw[g,Bool.and_assoc]
def Om{i:Nat}:nP K (kz (Tq K "list" TU (b8 i)) (gS j)) (Uh i j):=λdl bi hs H σ q Dq D (F,r) hq E=>by
 unfold Uh at hq;split at hq
 ·rename_i xs ei;let(ys,x,U,P,ar,hq):=hq;let(v,hv,rp):=r.g i _ _ ei U;let(p,vs,G,U,eF,h1,h2):=rp.r.lst;let(us,w,F1,F2,U,r1,r2,U):=h2.last;rw[EF,rX]at P;obtain rfl:=r1.im P.1;have hx:=by have:=P.2;simpa [T.ims]using this
  obtain rfl:=r2.im hx;refine(_,hv,.inl (U,_,SqL.of h1),p,_,w,U,U,h1,ba,?_);rw[ad8];let(F3,V):=r.vh ei hv eF (.refl r.d) r1 ot nofun;have tf:=by
   have tf:TF H (upd H p (.lst us)):=(λa ak h=>(by rw[au];exact h;intro z;subst z;rw[h]at h1;cases h1),λa ob u h=>(by rw[au];exact h;intro z;subst z;rw[h]at h1;cases h1),λa φ h=>(by rw[au];exact h;intro z;subst z;rw[h]at h1;cases h1),λa Q h=>(by
    by_cases z:a=p
    ·subst z;exact(_,ax)
    exact(Q,by rw[au z];exact h)),λa x h=>(x,RE _,by
    rw[au];exact h;intro z;subst z;rw[h]at h1;cases h1))
   exact r2.dO tf (λ_ z=>z) nofun
  exact E.nx _ _ _ (V.La (.refl V.d) (.c tf) nofun ot) hq
 exact hq.elim
def KH{i:Nat}(g:X.N.Nodup)(hi:X.N[j]?=Z x)(hx:Loc X.env.scope x)(ho:PE X o (b8 i))(q:‹X.K=K›)(z:‹attributeBase o "pop" X.env (eval o X.env)=eval o X.env›)(P:‹(apos.endLine==aZ.line)=true›)
  (hs:‹swapsWith (.Call (.Attribute o "pop" apos) [] [] aZ) (Z (.Name x pos')) pos.line X.env=pure false›) (hf:BC X x:=by first|exact .inl rfl|exact .inr rfl|assumption):
  QPS X K (.Assign [.Name x pos'] (.Call (.Attribute o "pop" apos) [] [] aZ) pos) (kz (Tq K "list" TU (b8 i)) (gS j)) (Uh i j):=
 (by subst q;exact jE g hi hx (LA PySem.F.plainAttrs_list PySem.F.slot_list_pop PySem.F.type_list_pop LZ ho z P) hs hf,Om)
def KW(g:Tg)(qe:QE):QS:=λD q=>qe q λt=>t.im=O/\Ex2 (λq'=>g.put t q=Z q') D.nx
def Oi(he:iQ K te qe):nP K (kz te (g.h K)) (KW g qe):=λdl bi hs H σ q Dq D (F,r) hq E=>he dl H σ q _ _ r.rd hq λv t F' H' e1 V (Q,q',P,hz)=>by
 obtain rfl:=V.r.im Q;exact DO (r.evo e1) V (λ_ _ _ _ _ z=>nomatch z) P λak r'=>E.nx _ _ _ r' hz
def qT(he:QPE X K e te qe)(hg:PG X tg (g.h K))(hs:‹swapsWithSole [tg] e pos.line X.env=pure false›)(hw:‹swappedStores [tg] e X.env=pure none›)
  (h1:‹(assignEach [tg] X.env).map (·.2)=[assign tg X.env]›):QPS X K (.Assign [tg] e pos) (kz te (g.h K)) (KW g qe):=(zX he.h hg hs hw h1,Oi he.s)
def WL(i j:Nat)(qa qb:QE):QS:=λD q=>qa q λt=>t.im=O/\qb q λu=>u.im=O/\D.nx ((q.set i (.o t)).set j (.o u))
def Oo{i:Nat}(ha:iQ K ta qa)(hb:iQ K tb qb):nP K (Tj i j (bR ta (bR tb gq))) (WL i j qa qb):=λdl bi hs H σ q Dq D (F,r) hq E=>by
 refine ha dl H σ q _ _ r.rd hq λv t F1 H1 e1 Q (m1,hq)=>hb dl H1 σ q _ _ (r.rd.evo e1) hq λw u F2 H2 V P g=>?_;let(m2,hq):=g;obtain rfl:=Q.r.im m1;obtain rfl:=P.r.im m2;refine(v,w,U,?_);let(F1,R1):=r.La (e1.trans V) (Q.evo e1.d V) nofun ot;exact E.nx _ _ _ (R1.La (.refl R1.d) P nofun ot) hq
def T.key:T->Option Key
 |.i x=>Z (.inl x)|.s x=>Z (.inr x)|_=>Y
theorem aJ.key{v:V}{t:T}{F:Θ}{k:Key}(h:aJ K dl H v t F)(e:t.key=Z k):v=kV k:=by cases h <;> first|(cases e;rfl)|cases e
def cL(ks:ϓ)(k:Key):Option T:=(ks.find? λp=>decide (p.1=k)).map (·.2)
def mv(ks:ϓ)(k:Key)(t:T):ϓ:=if(ks.any λp=>decide (p.1=k))=O then ks.map (λp=>if p.1=k then(p.1,t)else p)else ks++[(k,t)]
def bo.look{vs:Ϗ}{ts:ϓ}{F:Θ}(k:Key)(h:bo K dl H vs ts F):(cL ts k=Y/\gZ vs k=Y)\/∃t v G,cL ts k=Z t/\gZ vs k=Z v/\aJ K dl H v t G/\∀b∈G,b∈F:=
 h.ind (.inl (U,U)) λk0 v x vs ts F G h r q=>by
  by_cases e:k0=k
  ·subst e;exact .inr (_,_,_,by simp[cL],by simp[gZ],h,λb g=>ui _ g)
  obtain⟨h1,h2⟩|⟨t,v,G,h1,h2,h3,h4⟩:=q
  ·refine .inl (?_,?_)
   ·unfold cL at h1 ⊢;rw[Fs,decide_eq_false e];exact h1
   unfold gZ at h2 ⊢;rw[Fs,decide_eq_false e];exact h2
  refine .inr (t,v,G,?_,?_,h3,λb g=>p7 _ (h4 b g))
  ·unfold cL at h1 ⊢;rw[Fs,decide_eq_false e];exact h1
  unfold gZ at h2 ⊢;rw[Fs,decide_eq_false e];exact h2
mutual
def T.imk:ϓ->Bool
 |[]=>O| (_,x)::r=>x.im&&T.imk r
end
theorem bo.im{vs:Ϗ}{ts:ϓ}{F:Θ}(h:bo K dl H vs ts F):T.imk ts=O->F=[]:=h.ind (λ_=>rfl) (λ_ _ _ _ _ _ _ h _ g=>vS h.im g)
def bo.keys{vs:Ϗ}{ts:ϓ}{F:Θ}(h:bo K dl H vs ts F)(k:Key):(vs.any λp=>decide (p.1=k))=ts.any λp=>decide (p.1=k):=
 h.ind U λ_ _ _ _ _ _ _ _ _ g=>by rw[GP,GP,g]
def bo.put{k:Key}{w:V}{t:T}(hw:aJ K dl H w t []):∀{vs:Ϗ}{ts:ϓ},bo K dl H vs ts []->bo K dl H (putK vs k w) (mv ts k t) []:=by
 have mp:∀{vs:Ϗ}{ts:ϓ}{F:Θ},bo K dl H vs ts F->F=[]->bo K dl H (vs.map λp=>if p.1=k then(p.1,w)else p) (ts.map λp=>if p.1=k then(p.1,t)else p) []:=by
  intro vs ts F h;induction ts generalizing vs F with
  |nil=>intro _;cases h;exact .nil
  |cons p ts q =>
   cases h with
   |@cons k0 v x vs _ F1 Q h1 h2 =>
    intro e;let(e1,P):=ye.mp e;subst e1 P;have z:=q h2 U;rw[AZ,AZ];by_cases g:k0=k
    ·rw[if_pos g,if_pos g];exact .cons hw z
    rw[if_neg g,if_neg g];exact .cons h1 z
 have sn:∀{vs:Ϗ}{ts:ϓ}{F:Θ},bo K dl H vs ts F->bo K dl H (vs++[(k,w)]) (ts++[(k,t)]) F:=by
  intro vs ts F h;induction ts generalizing vs F with
  |nil=>cases h;exact .cons hw .nil
  |cons p ts q =>cases h with|cons h1 h2=>exact .cons h1 (q h2)
 intro vs ts h;unfold putK mv;rw[h.keys k];split
 ·exact mp h U
 exact sn h
def Rel.Km{i:Nat}{p:J}{ws:Ϗ}{xs ys:ϓ}(r:Rel K dl bi hs H σ q F)(hi:q[i]?=Z (.o (.d xs)))(hv:σ[i]?=Z (Z (.ref p)))(e:Evo dl H H')
  (rs:bo K dl H' ws ys []):gD K dl bi hs (upd H' p (.dK ws)) σ (q.set i (.o (.d ys))):=by
 have r':=r.evo e;let(v',Q,rp):=r'.g i _ _ hi U;rw[hv]at Q;cases Q;let(p2,ar,G2,e2,eF,h1,h2):=rp.r.dic;cases e2;have pn:=rp.n p (by rw[eF];exact j4);have tf:TF H' (upd H' p (.dK ws)):=(λa us h=>(by rw[au];exact h;intro z;subst z;rw[h]at h1;cases h1),λa ob u h=>(by rw[au];exact h;intro z;subst z;rw[h]at h1;cases h1),λa φ h=>(by rw[au];exact h;intro z;subst z;rw[h]at h1;cases h1),λa P h=>(by
  have ne:a≠p:=by intro z;subst z;rw[h]at h1;cases h1
  exact(P,by rw[au ne];exact h)),λa x h=>(x,RE _,by
  rw[au];exact h;intro z;subst z;rw[h]at h1;cases h1))
 have ak:=rs.dO tf (λ_ z=>z) nofun;exact(_,r'.write hi hv (by rw[eF];exact j4) (λP h=>by rw[h1]at h;cases h) (.d ax ak,λb hb=>by rw[fy.mp hb];exact pn) ba λb hb=>by rw[fy.mp hb,eF];exact .inl j4)
def Ug(i:Nat)(qk qv:QE):QS:=λD q=>match q[i]? with
 |some (.o (.d xs))=>qv q λt=>qk q λu=>match u.key with|some k=>xs.length<lK/\T.imk xs=O/\t.im=O/\D.nx (q.set i (.o (.d (mv xs k t))))|none=>False
 |_=>False
def Ol{i:Nat}(hk:iQ K tk qk)(hv:iQ K tv qv):nP K (Ki (b8 i) tk tv) (Ug i qk qv):=λdl bi hs H σ q Dq D (F,r) hq E=>by
 unfold Ug at hq;split at hq
 ·rename_i xs ei;refine hv dl H σ q _ _ r.rd hq λw t F1 H1 e1 V hq=>?_;let(v,z,rp):=(r.evo e1).g i _ _ ei U;refine(v,z,hk dl H1 σ q _ _ (r.rd.evo e1) hq λy u F2 H2 Q r2 hq=>?_);split at hq
  ·rename_i k ek;let(hz,hm,ht,hq):=hq;obtain rfl:=V.r.im ht;have P:=rp.evo e1.d Q;let(p,vs,G,U,eF,h1,h2):=P.r.dic;obtain rfl:=h2.im hm;rw[r2.r.key ek];exact(p,_,U,A2.k h1 (by rw[h2.len];exact hz),E.nx _ _ _ (r.Km ei z (e1.trans Q) (bo.put (V.evo e1.d Q).r h2)) hq)
  exact hq.elim
 exact hq.elim
def zN{i:Nat}(g:X.A.units+1<cLine)(ho:PE X o (b8 i))(hk:QPE X K a tk qk)(hv:QPE X K b tv qv)(hs:‹swapsWith b (Z (.Subscript o a pos')) pos.line X.env=pure false›):
  QPS X K (.Assign [.Subscript o a pos'] b pos) (Ki (b8 i) tk tv) (Ug i qk qv):=(uf g ho hk.h hv.h hs,Ol hk.s hv.s)
inductive TX(neg:Bool)(y:V)(x:V)(H:Hp)(Q:VK):Prop
 |mk(a o:_)(h1:x=.ref a)(h2:jt H a y o)(h3:Q (.bl (if neg then !o.isSome else o.isSome)) H)
def UP(P:X.A.units+1<cLine):OpR X (compareOp .In) (TX ϊ):=by intro gd s σ H y x u v Q I z K h;let(a,o,U,g,q):=h;cases K;exact Y2 P I g z λs' V=>(.bl _,H,V,U,q)
def yA(P:X.A.units+1<cLine):OpR X (compareOp .NotIn) (TX O):=by intro gd s σ H y x u v Q I z K h;let(a,o,U,g,q):=h;cases K;exact QY P I g z λs' V=>(.bl _,H,V,U,q)
def Y5:T->Option Str
 |.s x=>Z x|_=>Y
abbrev txs:ϑ->Option (Γ):=picks Y5
theorem aB.txs{vs:Ω}{ts:ϑ}{F:Θ}{bs:Γ}(h:aB K dl H vs ts F)(e:L2.txs ts=Z bs):vs=bs.map V.str:=
 h.picks (λv t F a h e=>by cases t <;> first|(cases e;exact h.str.1)|cases e) e
def N5(bs:Γ):txs (bs.map T.s)=Z bs:=by induction bs with|nil=>rfl|cons b r g=>show(txs (r.map T.s)).map (b :: ·)=_;rw[g];rfl
def WN(qo qe:QE):QE:=λq Q=>qo q λs=>match s with
 |.s sep=>qe q λt=>match t with|.l xs=>Ex4 (λys=>txs xs=Z ys) (λys=>(ys.map (·.length)).sum+ys.length*sep.length<=16777216) (λys=>(.s (Txt.join sep ys))) Q|_=>False
 |_=>False
def OT(ho:QPE X K o to qo)(he:QPE X K e te qe)(hK:‹X.K=K›)(fq:‹attributeBase o "join" X.env (eval o X.env)=eval o X.env›)
  (V:‹AC X aZ [e]›)
  (fk:‹(apos.endLine==aZ.line)=true›) (hs:‹AD X e []›) (eh:‹(backTo aZ (j7 [] X.env)).any (·.1)=false›):
  QPF X K (.Call (.Attribute o "join" apos) [e] [] aZ) (tBM K "str" (rJoin K) to (bR te gq)) (WN qo qe):=(by
 subst hK;exact BG PySem.F.plainAttrs_str PySem.F.slot_str_join PySem.F.type_str_join P2 ho.h (bp he.h cY hs) fq V fk hs eh,λdl H σ q Q R rd hq k=>ho.s dl H σ q _ _ rd hq λv t F H1 e1 P hq=>by
  split at hq
  ·let(U,_):=P.r.str;refine(U,he.s dl H1 σ q _ _ (rd.evo e1) hq λw u F2 H2 e2 g hq=>?_);split at hq
   ·let(ys,hy,hz,hq):=hq;let(p,vs,G,U,eF,h1,h2):=g.r.lst;have ev:=h2.txs hy;subst ev;exact(_,p,ys,U,U,SqL.of h1,hz,k _ _ [] H2 (e1.trans e2) (.c (.s _)) nofun ot hq)
   exact hq.elim
  exact hq.elim)
def RT(i:Nat)(qk qv:QE):QS:=λD q=>qv q λt=>match q[i]? with
 |some (.o (.l xs))=>qk q λu=>match u with|.i k=>∃j,ixN xs.length k=Z j/\T.ims xs=O/\t.im=O/\D.nx (q.set i (.o (.l (xs.set j t))))|_=>False
 |_=>False
end
def Ck(vs ws:Ω):Bool:=vs.length==ws.length&&(Fc vs.length).all λj=>match vs[j]?,ws[j]? with|some x,Z y=>eqV x y|_,_=>ϊ
variable{its:Δ}
section
variable{X:Cx}{K:Ch}
def Vals.at'{vs:Ω}(r:Vals vs its)(h:j<its.toArray.size):∃v,vs[j]?=Z v/\RelV v its.toArray[j]:=by
 have hl:=r.length;have g:=(h:);have hv:j<vs.length:=bd;let(u,h1,h2):=r.get (i:=j) (x:=vs[j]) (by simp[hv]);have:its[j]?=Z its[j]:=by simp[g]
 rw[this]at h1;cases h1;exact(vs[j],by simp[hv],(h2:))
def ur{vs:Ω}{v:V}(h:vs.all g9=O)(e:vs[j]?=Z v):g9 v=true:=RB.mp h v (jk e)
inductive WE(K:Ch)(x:V)(y:V)(H:Hp)(Q:VK):Prop
 |mk(p q vs ws:_)(h1:x=.ref p)(h2:y=.ref q)(h3:((SqL K H p vs/\SqL K H q ws)\/(SqT K H p vs/\SqT K H q ws)))(h4:vs.all g9=O)(h5:ws.all g9=O)(h6:Q (.bl (Ck vs ws)) H)
def UO(hu:X.A.units+1<cLine):OpR X (compareOp .Eq) (WE X.K):=by
 intro gd s σ H x y v u Q I rx ry h;let(p,q,vs,ws,U,U,hs,f1,f2,k):=h;cases rx;cases ry;obtain⟨h1,h2⟩|⟨h1,h2⟩:=hs
 ·let(its,z,p1,_):=I.list h1;let(gh,g,p2,_):=I.list h2;have l1:=z.length;have l2:=g.length;by_cases hl:its.length=gh.length
  ·refine SeqAt.eq_listAt (e:=λj=>match vs[j]?,ws[j]? with|some x,Z y=>eqV x y|_,_=>ϊ) p1.isList p2.isList (hl:) bd (λj g1 g2=>?_) (.bl _,H,I,U,?_)
   ·let(a,V,ra):=z.at' g1;let(b,P,rb):=g.at' g2;simp only[V,P];exact ES ra rb (ur f1 V) (ur f2 P)
   have e:Ck vs ws=(Fc its.toArray.size).all λj=>match vs[j]?,ws[j]? with|some x,Z y=>eqV x y|_,_=>false:=by unfold Ck;rw[show(vs.length==ws.length)=O from by lia,Bool.true_and,qg,l1]
   rw[<- e];exact k
  refine SeqAt.eq_list_lengthsAt p1.isList p2.isList (hl:) bd (.bl _,H,I,U,?_);have e:Ck vs ws=false:=by unfold Ck;rw[show(vs.length==ws.length)=ϊ from by simp;lia,Bool.false_and]
  rw[<- e];exact k
 let(its,z,p1,_):=I.tuple h1;let(gh,g,p2,_):=I.tuple h2;have l1:=z.length;have l2:=g.length;refine SeqAt.eq_tupleAt (e:=λj=>match vs[j]?,ws[j]? with|some x,Z y=>eqV x y|_,_=>ϊ) (p1) (p2) bd (λj g1 g2=>?_) (.bl _,H,I,U,?_)
 ·let(a,V,ra):=z.at' g1;let(b,P,rb):=g.at' g2;simp only[V,P];exact ES ra rb (ur f1 V) (ur f2 P)
 have e:Ck vs ws=((Fc (min its.toArray.size gh.toArray.size)).all (λj=>match vs[j]?,ws[j]? with|some x,Z y=>eqV x y|_,_=>ϊ)&&its.toArray.size==gh.toArray.size):=by
  unfold Ck;rw[qg,qg,<- l1,<- l2,Bool.and_comm];by_cases hl:vs.length=ws.length
  ·rw[hl,Nat.min_self]
  rw[show(vs.length==ws.length)=ϊ from by simpa using hl,ab3,ab3]
 rw[<- e];exact k
def eqF(xs ys:ϑ):Bool:=Ck (xs.map T.v) (ys.map T.v)
def DT:Q2:=λt u Q=>match t,u with|.l xs,.l ys=>(fls xs&&fls ys)=O/\Q (.b (eqF xs ys))|.t xs,.t ys=>(fls xs&&fls ys)=O/\Q (.b (eqF xs ys))|t,u=>qEq t u Q
def TV(K:Ch):R2:=λx y H Q=>rEq x y H Q\/WE K x y H Q
def D7(g:X.A.units+1<cLine)(q:X.K=K):OpR X (compareOp .Eq) (TV K):=by subst q;exact RY.or (UO g)
def zv:df K (TV K) DT:=by
 intro dl H x y t u F G Q R D P q hq k;unfold DT at hq;split at hq
 ·let(p,vs,G1,U,U,h1,h2):=P.r.lst;let(V,g,G2,U,U,h3,h4):=q.r.lst;let(f,hq):=hq;rw[rX]at f;let(U,U):=h2.vs f.1;let(U,U):=h4.vs f.2;exact .inr (p,V,_,_,U,U,.inl (SqL.of h1,SqL.of h3),rJ f.1,rJ f.2,k _ _ [] H (.refl D) (.c (.b _)) nofun ot hq)
 ·let(p,vs,U,h1,h2):=P.r.tup;let(V,g,U,h3,h4):=q.r.tup;let(f,hq):=hq;rw[rX]at f;let(U,U):=h2.vs f.1;let(U,U):=h4.vs f.2;exact .inr (p,V,_,_,U,U,.inr (SqT.of h1,SqT.of h3),rJ f.1,rJ f.2,k _ _ [] H (.refl D) (.c (.b _)) nofun ot hq)
 exact .inl (TL dl H x y t u F G Q R D P q hq k)
end
end L2
namespace PySem
open Sem (wp)
section
variable{prog:Db}{w:Da}{A:Do}{E:Φ}
def tI:typeLookup (.type "tuple") "keys"=pure none:=am_miss_of_fast bn
def vO:typeLookup (.type "list") "keys"=pure none:=am_miss_of_fast bn
set_option maxRecDepth 8000 in
theorem tJ{s:ϋ}{a:J}{o:Obj}{xs:Array B}{k:Nat}{Q:Option B->ϋ->Prop}
  (hx:s.heap.get? a=Z o) (K:o.cls=.type "tuple") (P:o.data=.seq xs k) (hd:o.dict=Y) (V:A.handled=Y)
  (h:∀h' tk,(∀b o,s.heap.get? b=Z o->h'.get? b=Z o)->Q Y {s with heap:=h',toks:=tk}):
  wpAny (model prog w) A (getAttr? (.ref a) "keys") Q E s:=by
 let(c,ak,dat,sl):=o;simp only at K P hd;subst K P hd;let(hp,g,d,tk,os):=s;have hT:∀q,((hp,g,d,q,os):ϋ).TypeIs (.ref a) "tuple":=λ_=>(_,hx,U);have f1:=sub_AttributeError;have f3:=F.slot_tuple_getattribute.lookup;have f4:=F.slot_tuple_getattribute.bind (.ref a);have f5:=am_tuple_getattr_none;unfold getAttr? getAttrBy? getAttrBy;repeat (any_goals (first|assumption|exact hT _|((with_reducible show wpAny _ _ (call (B.builtin "tuple.__getattribute__") _ _) _ _ _);refine call_meets F.slot_tuple_getattribute (hT _) am_entry_tuple_getattribute (F.args_tuple_getattribute_2 _ _) (meets_getattribute_miss_tuple a xs k sl "keys" _ tI bn bn) (hx,V,λh' q e z=>?_))|wp_step))
 let(t',u',he):=z.there;show wpAny _ _ (getattributeRaised _ _ _ _ _ _ _) _ _ _;unfold getattributeRaised;repeat (any_goals (first|assumption|wp_step))
 exact h _ _ z.keeps
set_option maxRecDepth 8000 in
theorem vN{s:ϋ}{a:J}{o:Obj}{xs:Array B}{k:Nat}{Q:Option B->ϋ->Prop}
  (hx:s.heap.get? a=Z o) (K:o.cls=.type "list") (P:o.data=.seq xs k) (hd:o.dict=Y) (V:A.handled=Y)
  (h:∀h' tk,(∀b o,s.heap.get? b=Z o->h'.get? b=Z o)->Q Y {s with heap:=h',toks:=tk}):
  wpAny (model prog w) A (getAttr? (.ref a) "keys") Q E s:=by
 let(c,ak,dat,sl):=o;simp only at K P hd;subst K P hd;let(hp,g,d,tk,os):=s;have hT:∀q,((hp,g,d,q,os):ϋ).TypeIs (.ref a) "list":=λ_=>(_,hx,U);have f1:=sub_AttributeError;have f3:=F.slot_list_getattribute.lookup;have f4:=F.slot_list_getattribute.bind (.ref a);have f5:=am_list_getattr_none;unfold getAttr? getAttrBy? getAttrBy;repeat (any_goals (first|assumption|exact hT _|((with_reducible show wpAny _ _ (call (B.builtin "list.__getattribute__") _ _) _ _ _);refine call_meets F.slot_list_getattribute (hT _) am_entry_list_getattribute (F.args_list_getattribute_2 _ _) (meets_getattribute_miss_list a xs k sl "keys" _ vO bn bn) (hx,V,λh' q e z=>?_))|wp_step))
 let(t',u',he):=z.there;show wpAny _ _ (getattributeRaised _ _ _ _ _ _ _) _ _ _;unfold getattributeRaised;repeat (any_goals (first|assumption|wp_step))
 exact h _ _ z.keeps
end
namespace F
def fu:entryFor table "dict.update.loop"=Z Builtin.«dict.update.loop»:=entryFor_of_tree bv
def cP:plainId "dict.update.loop"=true:=bn
end F
section
variable{prog:Db}{w:Da}{A:Do}{R:Result->ϋ->Prop}{I:J}{fp wr:Θ}{n:Nat}{P:Nat->B->Prop}{St:Nat->Ev->Prop}{κ:Type}[DecidableEq κ]{knd:KeyKind prog w κ}
def xm(kvs:List (κ×B))(k:κ)(v:B):(stored kvs k v).length<=kvs.length+1:=by unfold stored;split <;> simp
def xE(kvs:List (κ×B)):∀(more:List (κ×B)),(merged kvs more).length<=kvs.length+more.length:=by intro more;induction more generalizing kvs with|nil=>exact mz _|cons p r g =>have h1:=g (stored kvs p.1 p.2);have h2:=xm kvs p.1 p.2;show(merged (stored kvs p.1 p.2) r).length<=_;simp only[tZ];lia
theorem iO(W:Walks prog w A.in1 I fp wr n P St)(S:J)(aW:S ∉ fp)(res:B)(h0:Ev)(kvs pairs:List (κ×B))(hsz:kvs.length+pairs.length<=lK)(a5:pairs.length=n)
  (hp:∀i v,P i v->∃(a:J)(o:Obj)(key val:B)(k:κ)(m:Nat),v=.ref a/\pairs[i]?=Z (k,val)/\knd.is k key=O/\h0.get? a=Z o/\o.cls=.type "tuple" /\ o.data=.seq #[key,val] m/\a ∉ wr/\a≠S):
  ∀(j i:Nat)(s:ϋ),n-i=j->i<=n->St i s.heap->s.heap.DictOf knd S (merged kvs (pairs.take i))->(∀b o,b ∉ wr->b≠S->h0.get? b=Z o->s.heap.get? b=Z o) ->
  (∀h' tk,(∀b o,b ∉ wr->b≠S->s.heap.get? b=Z o->h'.get? b=Z o)->h'.DictOf knd S (merged kvs pairs)->R (.ok (.ret res)) {s with heap:=h',toks:=tk}) ->
  codeAny (model prog w) A (.builtin "dict.update.loop" ([.ref S,.ref I,rawInt i,res],[])) R s:=by
 have aK:=λh=>aW (W.sub _ h);intro j;induction j with
 |zero =>
  intro i s hk hi Q hS V hR;have a9:i=n:=bd;subst a9;refine Z1 F.fu ?_;refine eB (W.done s _ _ Q λh' tk g=>?_);refine eB (nT (nT (hR h' tk (λb o K _ e=>g b o K e) ?_)));rw[<- a5,rV]at hS;let(o,es,ep,ho,r):=hS;exact(o,es,ep,g S o aK ho,r)
 |succ j ih =>
  intro i s hk hi Q hS V hR;have ar:=ad3 hk;refine Z1 F.fu ?_;refine eB (W.item i s _ _ ar Q λv h' tk hP Vu g=>?_);let(a,o,key,val,k,m,U,a4,Vy,ho,hc,hd,aF,bc):=hp i v hP;have ak:=g a o aF (V a o aF bc ho);have bG:h'.DictOf knd S (merged kvs (pairs.take i)):=by let(o,es,ep,ho,r):=hS;exact(o,es,ep,g S o aK ho,r)
  refine eB (Rw (eB (wpAny_tryCatch ?_)));refine eB (Yc (o,ak,hc) ?_);refine eB (wpAny_seqItems ak hd (nT ?_));have bQ:=by have h1:=xE kvs (pairs.take i);rw[tX]at h1;omega
  refine Rw (wpAny_dictSet_pairs Vy bG λbP QD a3=>?_);have e:=merged_take_succ kvs pairs i (k,val) a4;rw[<- e]at QD;have fr:∀b o,b≠S->h'.get? b=Z o->bP.get? b=Z o:=λb o K eb=>(a3.2 b K).trans eb;exact nT (ZY F.cP _,ih (i+1) _ (by rw[Nat.sub_succ,hk];rfl) ar (W.frame _ _ _ Vu λb K o eb=>fr b o (λz=>aW (z▸K)) eb) QD (λb o K q eb=>fr b o q (g b o K (V b o K q eb))) λh3 a0 a6 bA=>(hR h3 a0 (λb o K q eb=>a6 b o K q (fr b o q (g b o K eb))) bA))
end
section
variable{prog:Db}{w:Da}{A:Do}{s:ϋ}{κ:Type}[DecidableEq κ]{knd:KeyKind prog w κ}
theorem iS{S p:J}{its:Array B}{kvs pairs:List (κ×B)}{id:String}{res:B}{R:Result->ϋ->Prop}(Q:A.handled=Y)(hS:s.heap.DictOf knd S kvs)(ar:p≠S)
  (ho:∃(o:Obj)(n:Nat),s.heap.get? p=Z o/\o.dict=Y/\o.data=.seq its n/\(o.cls=.type "tuple" \/ o.cls=.type "list")) (hsz:kvs.length+pairs.length<=lK) (aF:pairs.length=its.size)
  (hp:∀(i:Nat)(v:B),its[i]?=Z v->∃(a:J)(o:Obj)(key val:B)(k:κ)(m:Nat),v=.ref a/\pairs[i]?=Z (k,val)/\knd.is k key=O/\s.heap.get? a=Z o/\o.cls=.type "tuple" /\ o.data=.seq #[key,val] m)
  (hR:∀h' tk,(∀b o,b≠S->s.heap.get? b=Z o->h'.get? b=Z o)->h'.DictOf knd S (merged kvs pairs)->R (.ok (.ret res)) {s with heap:=h',toks:=tk}):
  wpAny (model prog w) A.in1 (Builtin.Dict.updateFrom id S (.ref p) [] res) (λfin s'=>match fin with|.done f=>R (.ok f) s' |.again c'=>c'.quiet=O/\codeAny (model prog w) A c' R s') (λe s'=>R (.error e) s') s:=by
 let(o,n,hg,P,q,g):=ho;have fin:∀(h1:Ev) tk h2 I St,(∀b o,s.heap.get? b=Z o->h1.get? b=Z o)->(∀b o,h1.get? b=Z o->h2.get? b=Z o)->h1.objs.size<=I->Walks prog w A.in1 I [I,p] [I] its.size (λi v=>its[i]?=Z v) St->St 0 h2 ->
   codeAny (model prog w) A (.builtin "dict.update.loop" ([.ref S,.ref I,rawInt 0,res],[])) R {s with heap:=h2,toks:=tk}:=by
  intro h1 tk h2 I St k1 k2 hI W ak;have K:∀b o,s.heap.get? b=Z o->b≠I:=λb o e z=>by
   have:=kf (k1 b o e);exact absurd (rz this hI) (by rw[z];exact E3 _)
  have aK:S ∉ [I,p]:=λz=>by
   let(o,_,_,e,_):=hS;obtain z|z:=lb.mp z
   ·exact K S o e z
   exact ar (fy.mp z).symm
  refine iO (knd:=knd) W S aK res s.heap kvs pairs hsz aF (λi v hP=>?_) its.size 0 _ U (AY _) ak ?_ (λb o _ _ e=>k2 b o (k1 b o e)) λh' V hk aW=>?_
  ·let(a,oa,key,val,k,m,e1,e2,e3,e4,e5,e6):=hp i v hP;refine(a,oa,key,val,k,m,e1,e2,e3,e4,e5,e6,λz=>K a oa e4 (fy.mp z),λz=>?_);let(o,_,_,e,hc,hd,_):=hS;rw[<- z,e4]at e;cases e;rw[e6]at hd;cases hd
  ·let(o,es,ep,e,r):=hS;exact(o,es,ep,k2 _ _ (k1 _ _ e),r)
  exact hR h' V (λb o hb e=>hk b o (λz=>K b o e (fy.mp z)) hb (k2 b o (k1 b o e))) aW
 obtain g|g:=g
 ·refine eB (Yc (o,hg,g) ?_);refine eB (tJ hg g q P Q λh1 tk k1=>?_);refine eB (ZI ?_);have hT:h1.IsTuple p its:=(o,k1 _ _ hg,g,n,q);exact eB (wpAny_pyIter_tuple hT (nT (ZY F.cP _,(fin h1 tk _ h1.objs.size _ k1 (λb o e=>gi _ e) (mz _) (Walks.tuple (show A.in1.handled=Y from Q) _ p (uj (kf (k1 _ _ hg))) its) ((_,px _ U,U,U),hT.push _)))))
 refine eB (Yc (o,hg,g) ?_);refine eB (vN hg g q P Q λh1 tk k1=>?_);refine eB (ZI ?_);have hT:h1.IsList p its:=(o,k1 _ _ hg,g,n,q);exact eB (wpAny_pyIter_list hT (nT (ZY F.cP _,(fin h1 tk _ h1.objs.size _ k1 (λb o e=>gi _ e) (mz _) (Walks.list (show A.in1.handled=Y from Q) _ p (uj (kf (k1 _ _ hg))) its) ((_,px _ U,U,U),hT.push _)))))
end
end PySem
namespace L2
open PySem PySem.Spec PyProof.Rows
variable{gd:Ξ}{H:Hp}{a:J}
section
variable{X:Cx}
def Inv.Td{σ:St}{s:ϋ}{xs:Ω}(I:Inv X gd σ H s)(h:H a=Z (.tup xs)):∃its:Δ,Vals xs its/\lJ s.heap a its.toArray/\xs.length<=lK:=by let(z,its,r,p):=(I.hok a _ h);exact(its,r,p,z)
def BH{σ:St}{s:ϋ}(I:Inv X gd σ H s):∀{ps:Θ}{kvs:Ϗ}{us:Δ},Vals (ps.map V.ref) us->ps.length=kvs.length->(∀(i:Nat)(p:J)(kv:Key×V),ps[i]?=Z p->kvs[i]?=Z kv->H p=Z (.tup [kV kv.1,kv.2])) ->
  ∃pairs:List (Key×B),KV kvs pairs/\∀(i:Nat)(v:B),us[i]?=Z v->∃(a:J)(o:Obj)(key val:B)(k:Key)(m:Nat),v=.ref a/\pairs[i]?=Z (k,val)/\(bN X.prog X.w).is k key=O/\s.heap.get? a=Z o/\o.cls=.type "tuple" /\ o.data=.seq #[key,val] m:=by
 intro ps;induction ps with
 |nil =>
  intro kvs us r hl _;have e:kvs=[]:=by cases kvs with|nil=>rfl|cons _ _=>simp at hl
  subst e;cases r;exact([],.nil,λi v h=>by simp at h)
 |cons p ps Q =>
  intro kvs us r hl h;cases kvs with
  |nil=>simp at hl|cons kv kvs =>
   cases r with
   |@cons _ u _ us K z =>
    let(pairs,h1,h2):=Q z (hl:) λi p kv e1 g=>h (i+1) p kv (e1:) (g:);have hp:=h 0 p kv ba ba;let(its,q,(o,ho,hc,m,hd),_):=I.tuple (SqT.of hp);cases q with
    |@cons _ key _ rest k1 k2 =>
     cases k2 with
     |@cons _ val _ Zh k3 P =>
      cases P;refine((kv.1,val)::pairs,.cons (U,k3) h1,λi v hv=>?_);cases i with
      |zero =>
       simp at hv;subst hv;cases(K);exact(p,o,key,val,kv.1,m,U,ba,ph k1,ho,hc,hd)
      |succ i =>let(a,oa,YH,Yg,k,m',e1,g,e3):=h2 i v (hv:);exact(a,oa,YH,Yg,k,m',e1,(g:),e3)
inductive zK(xs:Ω)(H:Hp)(Q:VK):Prop
 |mk(p:J)(ps:Θ)(kvs:Ϗ)(h1:xs=[.ref p])(h2:(H p=Z (.tup (ps.map V.ref))\/H p=Z (.lst (ps.map V.ref))))(h3:ps.length=kvs.length)(h4:(∀(i:Nat)(a:J)(kv:Key×V),ps[i]?=Z a->kvs[i]?=Z kv->H a=Z (.tup [kV kv.1,kv.2])))(h5:∀d,H d=Y->Q (.ref d) (upd H d (.dK (gN [] kvs))))
theorem dF(hc:X.calm=O):dM X (.type "dict") zK:=by
 intro gd s σ H xs us Q I r h;let(p,ps,kvs,U,hp,hl,ak,q):=h;let(u,U,ru):=vals1 r;cases ru;have hh:=I.ok.hd hc;obtain⟨its,z,K,ob⟩:∃its:Δ,Vals (ps.map V.ref) its/\(ps.map V.ref).length<=lK/\∃(o:Obj)(n:Nat),s.heap.get? p=Z o/\o.dict=Y/\o.data=.seq its.toArray n/\(o.cls=.type "tuple" \/ o.cls=.type "list"):=by
  obtain hp|hp:=hp
  ·let(its,z,((o,ho,h1,n,h2),o',P,h3),K):=I.Td hp;rw[ho]at P;cases P;exact(its,z,K,o,n,ho,h3,h2,.inl h1)
  let(K,its,n,z,e):=(I.hok p _ hp);exact(its,z,K,_,n,e,U,U,.inr U)
 let(pairs,kv,EH):=BH I z hl ak;refine callType_codes (Q₁:=λobj g=>obj=.ref s.heap.objs.size/\g={s with heap:=s.heap.push {cls:=.type "dict",data:=.dict #[]}}) F.kt_called_dict (F.kt_typeCall_dict_1 _) F.entry_dict_init (kt_code_dict_new _ (U,U)) ?_;rintro obj g ⟨rfl,rfl⟩;have EI:(s.heap.push {cls:=.type "dict",data:=.dict #[]}).DictOf (bN X.prog X.w) s.heap.objs.size []:=Heap.DictOf.new s.heap;refine(EI.typeIs,F.args_dict_init_2 _ _,(eB (eB (wpAny_notOrdered_dict EI.typeIs (nT ?_)))));let(o,n,ho,aK,aF,aW):=ob;have ar:=z.length;rw[dN]at ar K;have a0:=kv.length;refine iS (pairs:=pairs) hh EI (uj (kf ho)) (o,n,gi _ ho,aK,aF,aW) (by simp only[ZJ];lia) (by rw[qg];lia) (λi v hv=>?_) λh' tk hk hd=>?_
 ·let(a,oa,key,val,k,m,e1,e2,e3,e4,e5,e6):=EH i v (hv:);exact(a,oa,key,val,k,m,e1,e2,e3,gi _ e4,e5,e6)
 refine(U,.ref s.heap.objs.size,_,I.laid (λb u e=>hk b u (uj (kf e)) (gi _ e)) (mz _) (vY ?_ ?_ (KV.merge kv .nil) hd),U,q _ (I.hok.fresh (mz _)))
 ·have:=fP kvs [];simp only[ZJ]at this;lia
 have:=I.big;exact beq_eq_false_iff_ne.mpr (Fq this)
end
def d9:ϑ->Option (ϓ)
 |[]=>Z []|.t [k,x]::r=>match k.key,d9 r with|some k,Z r=>Z ((Prod.mk k x)::r)|_,_=>Y
 |_=>Y
def ck(ks more:ϓ):ϓ:=more.foldl (λacc p=>mv acc p.1 p.2) ks
section
variable{K:Ch}{dl:Dl}
def BI{x:T}{r:ϑ}{g:ϓ}(h:d9 (x::r)=Z g):∃k y k0 q,x=.t [k,y]/\k.key=Z k0/\d9 r=Z q/\g=(k0,y)::q:=by
 unfold d9 at h;split at h
 ·rename_i z;cases z
 ·rename_i k y r' z;cases z;split at h
  ·cases h;exact(_,_,_,_,U,(by assumption),(by assumption),U)
  cases h
 cases h
def aB.pairs{vs:Ω}{xs:ϑ}{F:Θ}(h:aB K dl H vs xs F):∀{g:ϓ},F=[]->d9 xs=Z g ->
  ∃(ps:Θ)(kvs:Ϗ),vs=ps.map V.ref/\ps.length=kvs.length/\(∀(i:Nat)(a:J)(kv:Key×V),ps[i]?=Z a->kvs[i]?=Z kv->H a=Z (.tup [kV kv.1,kv.2]))/\bo K dl H kvs g []:=
 h.ind (M:=λvs xs F=>∀{g:ϓ},F=[]->d9 xs=Z g ->   ∃(ps:Θ)(kvs:Ϗ),vs=ps.map V.ref/\ps.length=kvs.length/\(∀(i:Nat)(a:J)(kv:Key×V),ps[i]?=Z a->kvs[i]?=Z kv->H a=Z (.tup [kV kv.1,kv.2]))/\bo K dl H kvs g []) (λ{g} _ h=>by cases h;exact([],[],U,U,λi a kv h=>by simp at h,.nil)) λ_ _ _ _ _ _ h _ ih g e q=>by
  let(e1,e2):=ye.mp e;let(k,y,k0,r0,U,ek,er,U):=BI q;let(ps,kvs,U,hl,ht,hk):=ih e2 er;let(a,ws,U,ha,Q):=h.tup;cases Q with|@cons w1 _ _ _ G1 G2 P z =>cases z with|@cons w2 _ _ _ G3 G4 h2 h3 =>cases h3;have e3:=P.key ek;subst e3;let(z1,z2):=ye.mp e1;rw[pq]at z2;subst z1 z2;refine(a::ps,(k0,w2)::kvs,U,by simp[hl],λi b kv h1 h2=>?_,.cons h2 hk);cases i with|zero =>simp at h1 h2;subst h1 h2;exact ha|succ i=>exact ht i b kv (h1:) (h2:)
theorem bo.ck{kvs':Ϗ}{kts':ϓ}{kvs:Ϗ}{g:ϓ}{F:Θ}(h:bo K dl H kvs g F):F=[]->∀{vs:Ϗ}{ts:ϓ},bo K dl H vs ts []->bo K dl H (gN vs kvs) (L2.ck ts g) []:=
 h.ind (λ_ _ _ h=>h) λ_ _ _ _ _ _ _ h1 _ q e _ _ h=>by
  let(e1,z):=ye.mp e;subst e1;exact q z (bo.put h1 h)
def O2:QC:=λts Q=>on1 ts λt=>match t with|.t xs=>T.ims xs=O/\Ex3 (λg=>d9 xs=Z g) (λg=>(.d (ck [] g))) Q|.l xs=>T.ims xs=O/\Ex3 (λg=>d9 xs=Z g) (λg=>(.d (ck [] g))) Q|_=>False
def fE:yc K zK O2:=by
 intro dl H vs ts F Q R D r hq k;have go:∀p ws xs,vs=[.ref p]->(H p=Z (.tup ws)\/H p=Z (.lst ws))->aB K dl H ws xs []->(Ex3 (λg=>d9 xs=Z g) (λg=>(.d (ck [] g))) Q)->zK vs H R:=by rintro p ws xs rfl hp rs ⟨g,e,hq⟩;let(ps,kvs,U,hl,P,hk):=rs.pairs U e;refine(p,ps,kvs,U,hp,hl,P,λd hd=>?_);have ev:=(Evo.refl D).new (o:=.dK (gN [] kvs)) hd;have h2:=bo.ck (kvs':=[]) (kts':=[]) hk U .nil;exact k _ _ [d] _ ev (.d ax (h2.dO (ev.tf D) (λ_ z=>z) nofun),λb q=>by rw[fy.mp q];exact D.nd0 hd) (λb q=>by rw[fy.mp q];exact hd) ba hq
 replace hq:=on1.inv hq;let(t,U,hq):=hq;cases t with|t xs =>let(v,U,r'):=r.one;let(p,ws,U,h1,h2):=r'.r.tup;have e:=h2.im hq.1;subst e;exact go p ws _ U (.inl h1) h2 hq.2|l xs =>let(v,U,r'):=r.one;let(p,ws,G,U,_,h1,h2):=r'.r.lst;have e:=h2.im hq.1;subst e;exact go p ws _ U (.inr h1) h2 hq.2|_=>exact hq.elim
end
variable{j:Nat}{x:Str}{py:Pos}{P:Db}{mg:Υ}{base:Ev}{fd:Cl}{ps:Γ}
section
variable{X:Cx}{K:Ch}{a b:EQ}{ta tb:TE}{qa qb:QE}{pos:Pos}
def KJ{i:Nat}{y:Str}{q pt:Pos}{kt k2 g}(hc:X.calm=O)(hN:X.N.Nodup)(hi:X.N[i]?=Z x)(hj:X.N[j]?=Z y)(z:i≠j)
  (hx:BT X x) (V:BT X y) (Q:QPE X K a ta qa) (P:QPE X K b tb qb)
  (hw:swappedStores [.Tuple [.Name x q,.Name y py] kt pt] (.Tuple [a,b] k2 g) X.env=pure (Z [x,y]))
  (hs:‹swapsWithSole [.Tuple [.Name x q,.Name y py] kt pt] (.Tuple [a,b] k2 g) pos.line X.env=pure false›)
  (h1:‹j7 [a,b] X.env=(ϊ,eval a X.env)::j7 [b] X.env›) (h2:‹AD X b []›):
  QPS X K (.Assign [.Tuple [.Name x q,.Name y py] kt pt] (.Tuple [a,b] k2 g) pos) (Tj i j (bR ta (bR tb gq))) (WL i j qa qb):=
 (Uu hc hN hi hj z hx V (bp Q.h (bp P.h cY h2) h1) hw hs,Oo Q.s P.s)
def vo:PSp:=λts Q=>on2 ts λt u=>match t with
 |.dE=>match u with|.i m=>0<m/\m<18446744073709551616/\∀r,0<=r->r<m->Q (.i r)|_=>False
 |_=>False
theorem lB{w:Da}{K:Ch}{k:Nat}{f:J}(F:aP P w K mg base CX0 k f fd ps JU):aP P w K mg base CX0 k f fd ps (spQ K vo):=by
 refine F.imp λvs H Q E h=>?_;let(dl,ts,Fp,Qp,D,r,h,fin):=h;replace h:=on2.inv h;let(t,u,U,h):=h;split at h
 ·split at h
  ·let(v,w',F1,F2,U,r1,r2):=r.two;let(a,l,U,hm,_):=r1.r.dea;let(U,_):=r2.r.int;refine(a,l,_,U,D _ hm,h.1,h.2.1,λr H' r0 ak D' q=>fin _ _ [] H' (λb o e n _=>q b o e (n _ hm).1 (n _ hm).2,λp hp=>?_,λb x e=>(x,RE _,by
    let(s2,n2,l2,Q2):=D _ hm;exact q b _ e (kS e Q2.hd (λz=>nomatch z)) (kS e Q2.hl (λz=>nomatch z)))) (.c (.i _)) nofun ot (h.2.2 r r0 ak))
   by_cases e:p=(a,l)
   ·rw[e];exact D'
   let(s1,n1,l1,Q1):=D p hp;let(s2,n2,l2,Q2):=D _ hm;let(s3,n3,l3,Q3):=D';have pa:p.1≠a:=λz=>by
    have z1:=Q1.hd;have z2:=Q2.hd;rw[z]at z1;rw[z1]at z2;have z3:=by injection (Option.some.inj z2)
    have z4:=congrArg (λkv=>gZ kv (.inr "left")) z3;exact e (Prod.ext z (V.ref.inj (Option.some.inj z4)))
   have pl:=kS Q1.hd Q2.hl (λz=>nomatch z);have ar:=kS Q1.hl Q2.hd (λz=>nomatch z);by_cases g:p.2=l
   ·exact(s1,n1,l3,q _ _ Q1.hd pa pl,by rw[g];exact Q3.hl,Q1.s0,Q1.s1,Q1.n0,Q3.l0)
   exact(s1,n1,l1,q _ _ Q1.hd pa pl,q _ _ Q1.hl ar g,Q1.s0,Q1.s1,Q1.n0,Q1.l0)
  exact h.elim
 exact h.elim
end
section
variable{X:Cx}{K:Ch}{a b e o:EQ}{tk tv:TE}{qk qv:QE}{pos pos':Pos}
theorem aB.set{dl:Dl}{H:Hp}{w:V}{t:T}(hw:aJ K dl H w t []):∀{vs:Ω}{xs:ϑ}{F:Θ}(j:Nat),aB K dl H vs xs F->F=[]->aB K dl H (vs.set j w) (xs.set j t) []
 |_,_,_,_,.nil,_=>.nil|_,_,_,0,.cons h r,e=>by
  let(e1,g):=ye.mp e;subst e1 g;exact .cons hw r
 |_,_,_,j+1,.cons h r,e=>by
  let(e1,g):=ye.mp e;subst e1 g;exact .cons h (aB.set hw j r U)
def JZ{i:Nat}(hk:iQ K tk qk)(hv:iQ K tv qv):nP K (kz tv (Mz (b8 i) tk Kq)) (RT i qk qv):=λdl bi hs H σ q Dq D (F,r) hq E=>by
 refine hv dl H σ q _ _ r.rd hq λw t F1 H1 e1 r1 hq=>?_;split at hq
 ·rename_i xs ei;let(v,P,rp):=(r.evo e1).g i _ _ ei U;refine(v,P,hk dl H1 σ q _ _ (r.rd.evo e1) hq λy u F2 H2 V r2 hq=>?_);split at hq
  ·let(j,hj,hm,ht,hq):=hq;let(U,_):=r2.r.int;obtain rfl:=r1.r.im ht;have Q:=rp.evo e1.d V;let(p,vs,G,U,eF,h1,h2):=Q.r.lst;have eG:=h2.im hm;subst eG;exact(p,vs,_,j,U,U,h1,by rw[h2.len];exact hj,(E.nx _ _ _ (r.vh ei P eF (e1.trans V) (aB.set (r1.evo e1.d V).r j h2 U) ot nofun) hq))
  exact hq.elim
 exact hq.elim
def OL{i:Nat}(ho:PE X o (b8 i))(hk:QPE X K a tk qk)(hv:QPE X K b tv qv)(hs:‹swapsWithSole [.Subscript o a pos'] b pos.line X.env=pure false›)(hw:‹swappedStores [.Subscript o a pos'] b X.env=pure none›)
  (h1:‹(assignEach [.Subscript o a pos'] X.env).map (·.2)=[assign (.Subscript o a pos') X.env]›)
  (q:∀v,assign (.Subscript o a pos') X.env v=(do
let g <- holding [v] (eval o X.env)
let iv <- holding [v,g] (eval a X.env)
standAt pos'
holding [v,g,iv] (setItem g iv v)
release [v,g,iv] []):=by intro _;rfl):QPS X K (.Assign [.Subscript o a pos'] b pos) (kz tv (Mz (b8 i) tk Kq)) (RT i qk qv):=
 (zX hv.h (Lu ho hk.h set_list q) hs hw h1,JZ hk.s hv.s)
end
variable{elts:List EQ}{pos':Pos}{t1:Bool}{t2:Bool}
section
variable{X:Cx}{K:Ch}
def sY(xs ys:ϑ):ϑ:=(xs.zip ys).map λp=>.t [p.1,p.2]
def Ft{xs ys:ϑ}{i:Nat}{z:T}(h:(sY xs ys)[i]?=Z z):∃x y,xs[i]?=Z x/\ys[i]?=Z y/\z=.t [x,y]:=by unfold sY at h;rw[fZ]at h;let(p,hp,U):=gV.mp h;rw[Rz]at hp;exact(p.1,p.2,hp.1,hp.2,U)
def uH{xs ys:ϑ}:(sY xs ys).length=min xs.length ys.length:=by simp[sY]
variable{a b:EQ}{ta:TE}{pos p:Pos}
def Pk{x1}{ta:TA}(z:X.K=K)(hg:Gl X "zip")(hm:X.mg "zip"=Y)(P:bootBuiltins "zip"=Z (.type "zip"))(q:PA X [a,b] ta)(hs:j7 [a,b] X.env=[(ϊ,eval a X.env),(ϊ,eval b X.env)])(g:AM X b):
  PI X (.Tuple elts x1 pos') (.Call (.Name "zip" p) [a,b] [] pos) (Vt K t1 t2 ta):=by subst z;exact UG hg hm P q hs g
end
variable{H2:Hp}
section
variable{X:Cx}{K:Ch}{e a b:EQ}{tl:TA}{ql:QA}{pos p fJ p2:Pos}{dl:Dl}
def Bv(ql:QA):QE:=λq Q=>ql q λts=>on2 ts λt u=>match t with|.t xs=>(match u with|.t ys=>T.ims xs=O/\T.ims ys=O/\Q (.l (sY xs ys))|_=>False)|_=>False
def HM{vs:Ω}{xs:ϑ}{F:Θ}(h:aB K dl H2 vs xs F):F=[]->∀{ws:Ω}{ys:ϑ}{G:Θ},aB K dl H2 ws ys G->G=[]->∀{ps:Θ},ps.length=min vs.length ws.length ->
  (∀(j:Nat) p x y,ps[j]?=Z p->vs[j]?=Z x->ws[j]?=Z y->H2 p=Z (.tup [x,y]))->aB K dl H2 (ps.map V.ref) (sY xs ys) []:=
 h.ind (λ_ _ _ _ _ _ ps hl _=>by have e:=uG.mp (by rw[hl];exact Nat.zero_min _);subst e;exact .nil) λv x vs xs F G h _ g e ws ys G' h' Q ps hl hp=>by
  let(e1,P):=ye.mp e;subst e1;cases h' with|nil =>have e:=uG.mp (by rw[hl];exact Nat.min_zero _);subst e;exact .nil|cons h' r' =>let(z,q):=ye.mp Q;subst z;cases ps with|nil=>simp at hl|cons p ps =>exact aB.cons (.t (hp 0 p _ _ U U U) (aB.cons h (aB.cons h' .nil))) (g P r' q (by simp at hl;omega) λj p x y h1 h2 h3=>hp (j+1) p x y h1 h2 h3)
def Bg(ha:Ru K 2 tl ql):jX K (uO K tl) (Bv ql):=by
 intro dl H σ q Q R rd hq k;refine ha dl H σ q _ _ rd hq λvs ts F H1 e1 r1 _ g=>?_;replace g:=on2.inv g;let(t,u,U,g):=g;split at g
 ·split at g
  ·let(v,w,F1,F2,U,ak,V):=r1.two;let(l1,aF,U,h1,h2):=ak.r.tup;let(l2,ar,U,h3,h4):=V.r.tup;let(i1,i2,g):=g;obtain rfl:=h2.im i1;obtain rfl:=h4.im i2;refine(l1,l2,aF,ar,U,SqT.of h1,SqT.of h3,λH2 L ps hL hl hn hf hk aK hp=>?_);have P:∀b o,H1 b=Z o->H2 b=Z o:=λb o e=>by
    rw[hk b (λz=>by rw[(hf b z).1]at e;cases e) (λz=>by rw[z,hL]at e;cases e)];exact e
   have ev:Evo dl H1 H2:=(λb o e _ _=>P b o e,λp hp=>(by let(s,n,ls,D):=e1.d p hp;exact(s,n,ls,P _ _ D.hd,P _ _ D.hl,D.s0,D.s1,D.n0,D.l0)),λb x e=>(x,RE _,P _ _ e));let(_,Zl,z1,b1,c1):=(ak.evo e1.d ev).r.tup;cases z1;rw[P _ _ h1]at b1;cases b1;let(_,Zk,z2,b2,c2):=(V.evo e1.d ev).r.tup;cases z2;rw[P _ _ h3]at b2;cases b2;exact k _ _ [L] H2 (e1.trans ev) (.l aK (HM c1 U c2 U hl hp),λb hb=>by rw[fy.mp hb];exact e1.d.nd0 hL) (λb hb=>by rw[fy.mp hb];exact e1.free hL) ba g
  exact g.elim
 exact g.elim
def DR(hK:X.K=K)(hg:Gl X "list")(hm:X.mg "list"=Y)(P:Gl X "zip")(z:X.mg "zip"=Y)(Q:QPA X K [a,b] tl ql)
  (hs:‹j7 [a,b] X.env=[(ϊ,eval a X.env),(ϊ,eval b X.env)]›) (q:‹AM X b›)
  (g:‹j7 [.Call (.Name "zip" p2) [a,b] [] fJ] X.env=(ϊ,eval (.Call (.Name "zip" p2) [a,b] [] fJ) X.env)::j7 [] X.env›) (V:‹X.calm=true›):
  QPF X K (.Call (.Name "list" p) [.Call (.Name "zip" p2) [a,b] [] fJ] [] pos) (uO K tl) (Bv ql):=(by subst hK;exact D3 hg hm P z Q.h hs q g V,Bg Q.s)
end
inductive uQ(K:Ch)(vs:Ω)(H:Hp)(Q:VK)(_:XK):Prop
 |mk(a:J)(ns:Ψ)(h1:vs=[.ref a])(h2:FzL K H a (ns.map V.int))(h3:ns.length<=63)(h4:∀H',Q (.bl O) H')
theorem XM{K:Ch}{xs:Ω}(h:Rx H)(g:SqL K H a xs):FzL K H a xs:=by
 obtain(z |⟨o,z⟩)|z:=g
 ·obtain e |⟨o,ys,e⟩:=h a
  ·rw[e]at z;cases z
  rw[e]at z;cases z
 ·exact .inl (o,z)
 exact .inr z
variable{H':Hp}
theorem FzL.same{K:Ch}{xs:Ω}(h:FzL K H a xs)(s:nQ H H'):FzL K H' a xs:=by
 obtain⟨o,z⟩|z:=h
 ·exact .inl (o,s _ _ z)
 exact .inr z
variable{qual:Str}{N:Γ}{n:Nat}{rest:List Fa}
theorem Fun.YF{w:Da}{K:Ch}{st:Fa}{f:J}{k:Nat}{s1:Fa}(F:Fun K x qual st f fd)(S:aD N ["_law_script"] (av st))(hN:N.length=n+2)(g:bZ st=s1::rest)
  (k9:∀(cdv:B)(A:Do)(outer:List Env)(s:ϋ)(H:Hp)(E:XK),dI k (A.deeper (envOfC qual (av st) s.heap.objs.size f cdv)) ->
∃t1 t qs,PS (rM CX0 P w K mg base N qual (av st) f cdv A outer s H E).nox s1 t1/\tV (rM CX0 P w K mg base N qual (av st) f cdv A outer s H E).nox K rest t qs /\
(∀(a:J)(ns:Ψ)(D:Ends),SqL K H a (ns.map V.int)->ns.length<=63->(∀(d l:J)(H':Hp),H d=Y->H l=Y->qi H' d l->nQ H H'->D.nx ([Z (.ref a),Z (.ref d)]++rY n Y) H')->t1 D ([Z (.ref a),Y]++rY n Y) H) /\
∀ns:Ψ,ns.length<=63->qs {nx:=λ_=>False,rt:=λt=>t=.b O} ([.r (.z ns),.r .dE]++rY n .no)):aP P w K mg base CX0 (k+1) f fd ["_law_script"] (uQ K):=by
 refine F.ok S (λvs H Q E h=>?_) (λcdv A outer s H vs Q E hr h=>?_)
 ·let(a,ns,U,_):=h;rfl
 let(a,ns,U,hS,hlen,k):=h;let(t1,t,qs,h1,q,r1,hq):=k9 cdv A outer s H E hr;rw[g];refine(_,bI h1 q.h,?_);have es:start N [V.ref a]=[Z (.ref a),Y]++rY n none:=by unfold start;rw[hN];rfl
 rw[es];refine r1 a ns _ hS.sq hlen λd l H' hd hl D1 sm=>?_;have Dq:Dls [(d,l)] H':=λp hp=>by rw[fy.mp hp];exact D1
 have rp:Rps K [(d,l)] H' [.ref a,.ref d] [.z ns,.dE] ([]++([]++[])):=(.cons (.z (hS.same sm)) (.cons (.x (l:=l) (fy.mpr U)) .nil),nofun);have R:=qQ (n:=n+2) Dq rp ba;refine q.s [(d,l)] H' [] H' _ _ _ _ R (hq ns hlen) (λ_ _ _ _ z=>z.elim,λ_ _ _ _ z=>z.elim,λ_ _ _ _ z=>z.elim,λv t F H2 _ r' _ _ _ hz=>?_,λ_ _ _ _ _ _ _ _ _ _ _ _ z=>z.elim);subst hz;let(U,_):=r'.r.bl;exact k H2
variable{tp:Bool}
section
variable{X:Cx}{K:Ch}{dl:Dl}
def jg(xs:ϑ):ϑ:=xs.zipIdx.map λp=>.t [.i (p.2:Nat),p.1]
def cT{xs:ϑ}{i:Nat}{z:T}(h:(jg xs)[i]?=Z z):∃x,xs[i]?=Z x/\z=.t [.i (i:Nat),x]:=by unfold jg at h;rw[fZ]at h;let(p,hp,U):=gV.mp h;rw[List.getElem?_zipIdx]at hp;let(x,hx,U):=gV.mp hp;exact(x,hx,ba)
def bC{xs:ϑ}:(jg xs).length=xs.length:=by simp[jg]
def Gh{xs:ϑ}:AX K dl (Ite K O a) (jg xs) [(.ref a,.t xs)] where
 go:=λH i D h hi=>by
  let(F,r):=h (.ref a,.t xs) ba;let(p,vs,e,h1,h2):=r.r.tup;cases e;rw[bC]at hi;have l1:i<vs.length:=by rw[h2.len];omega
  exact(vs,vs[i],SqT.of h1,by simp[l1])
 yld:=λH i x fp v H' D h hx y=>by
  have r:=h (.ref a,.t xs) ba;let(p,vs,e,h1,h2):=r.r.tup;cases e;let(x1,ak,U):=cT hx;let(w1,G1,ar,V,g):=h2.get ak;let(q,u1,hq,U,U,Q):=y;have e1:=Q vs (SqT.of h1);rw[ar]at e1;cases e1;have rs:Rps K dl H [.int (i),w1] [.i (i),x1] ([]++(G1++[])):=Rps.cons (.i _,nofun) (Rps.cons (V,λb P=>r.n b (g b P)) (.nil,nofun));refine((Evo.refl D).new hq,_,rs.tup D hq,λc P=>.inr ?_);rw[pq]at P;exact(_,ba,g c P)
 stop:=λH D h=>by
  let(F,r):=h (.ref a,.t xs) ba;let(p,vs,e,h1,h2):=r.r.tup;cases e;exact(vs,SqT.of h1,by rw[bC,h2.len];exact mz _)
variable{e a b:EQ}{te ta:TE}{qe:QE}{tl:TA}{ql:QA}{pos p:Pos}
def Y7(ql:QA):QI:=λq Q=>ql q λts=>match ts with|[.t xs]=>Q (jg xs)|_=>False
def kQ{x1}{ta:TA}(q:X.K=K)(hg:Gl X "enumerate")(hm:X.mg "enumerate"=Y)(z:bootBuiltins "enumerate"=Z (.type "enumerate"))(g:PA X [a] ta)(hs:AM X a):
  PI X (.Tuple elts x1 pos') (.Call (.Name "enumerate" p) [a] [] pos) (vT K tp ta):=by subst q;exact Pl hg hm z g hs
def zP{x1}(hg:Gl X "enumerate")(hm:X.mg "enumerate"=Y)(fW:bootBuiltins "enumerate"=Z (.type "enumerate"))(V:QPA X K [a] tl ql)(hs:‹AM X a›)(hK:‹X.K=K›):
  QPI X K (.Tuple elts x1 pos') (.Call (.Name "enumerate" p) [a] [] pos) (vT K O tl) (Y7 ql):=(kQ hK hg hm fW V.h hs,λdl H σ q Q R rd hq k=>V.s dl H σ q _ _ rd hq λvs ts F H' e1 r _ z=>by
 split at z
 ·let(v,U,P):=r.one;let(l1,g,U,h1,h2):=P.r.tup;exact(l1,U,(g,SqT.of h1),k _ _ _ H' e1 Gh (λp hp=>by rw[fy.mp hp];exact(_,P)) z)
 exact z.elim)
def aB.snoc{v:V}{t:T}(hv:aJ K dl H v t []){vs:Ω}{ts:ϑ}{F:Θ}(h:aB K dl H vs ts F):F=[]->aB K dl H (vs++[v]) (ts++[t]) []:=
 h.ind (λ_=>.cons hv .nil) λ_ _ _ _ _ _ h _ g e=>by
  let(e1,q):=ye.mp e;subst e1;exact .cons h (g q)
def aB.rev{vs:Ω}{ts:ϑ}{F:Θ}(h:aB K dl H vs ts F):F=[]->aB K dl H vs.reverse ts.reverse []:=
 h.ind (λ_=>.nil) λ_ _ _ _ _ _ h _ g e=>by
  let(e1,q):=ye.mp e;subst e1;rw[Z3,Z3];exact aB.snoc h (g q) U
inductive Kz(x:V)(vs:Ω)(H:Hp)(Q:VK):Prop
 |mk(a p:J)(ps:Θ)(kvs more:Ϗ)(h1:x=.ref a)(h2:vs=[.ref p])(h3:H a=Z (.dK kvs))(h4:H p=Z (.lst (ps.map V.ref)))(h5:ps.length=more.length)(h6:(∀(i:Nat)(b:J)(kv:Key×V),ps[i]?=Z b->more[i]?=Z kv->H b=Z (.tup [kV kv.1,kv.2])))(h7:kvs.length+more.length<=lK)(h8:Q .non (upd H a (.dK (gN kvs more))))
def L0(hc:X.calm=O):MtR X "dict.update" Kz:=by
 intro gd s σ H x vs v us Q I rx rv h;let(a,p,ps,kvs,more,U,U,ha,hp,hl,P,hz,q):=h;cases rx;let(u,U,ru):=rv.one;cases ru;have hh:=I.ok.hd hc;let(z1,ar,aF,r1,d1):=MI I.hok ha;let(aK,its,n,g,e):=(I.hok p _ hp);let(pairs,kv,EH):=BH I g hl P;have ak:=g.length;rw[dN]at ak;have aW:=Paired.length kv;have l1:=Paired.length r1;have V:=kS hp ha (λz=>nomatch z);refine call_meetsIn PySem.F.slot_dict_update d1.typeIs PySem.F.entry_dict_update (PySem.F.args_dict_update_2 _ _) (S:=λA R s'=>s'=s/\A=X.A/\R=wants (EP X gd σ Q) X.xe) (λA R s' (e1,e2,e3)=>?_) (U,U,U);subst e1 e2 e3;refine eB (eB (wpAny_notOrdered_dict d1.typeIs (nT (iS (pairs:=pairs) hh d1 V (_,n,e,U,U,.inr U) bd (by rw[qg];lia) (λi v hv=>?_) λh' tk hk hd=>?_))))
 ·let(b,ob,key,val,k,m,e1,e2,e3,e4,e5,e6):=EH i v (hv:);exact(b,ob,key,val,k,m,e1,e2,e3,e4,e5,e6)
 refine(.non,_,?_,U,q);have K:=tY (fP more kvs) hz;have he:∃q,h'.get? a=Z q:=let(q,_,_,hq,_):=hd;(q,hq);exact I.write (by rw[ha];exact True.intro) (.inl U) (λb q hb z=>hk b q hb z) he (vY K ar (KV.merge kv r1) hd)
def Ub(i:Nat)(qe:QE):QS:=λD q=>match q[i]? with
 |some (.o (.d xs))=>qe q λt=>match t with|.l ys=>T.imk xs=O/\T.ims ys=O/\Ex4 (λg=>d9 ys=Z g) (λg=>xs.length+g.length<=lK) (λg=>(q.set i (.o (.d (ck xs g))))) D.nx|_=>False
 |_=>False
variable{o:EQ}{apos aZ:Pos}
def Oh{i:Nat}(he:jX K te qe):nP K (oh (tBM K "dict" Kz (b8 i) (bR te gq))) (Ub i qe):=λdl bi hs H σ q Dq D (F,r) hq E=>by
 unfold Ub at hq;split at hq
 ·rename_i xs ei;let(v,hv,rp):=r.g i _ _ ei U;let(p,vs,G,U,eF,h1,h2):=rp.r.dic;refine(_,hv,.inr (.inr (.inl (U,.inl (_,h1)))),he dl H σ q _ _ r.rd hq λw t F' H' e1 r1 f1 n1 z=>?_);split at z
  ·let(ar,ak,aK,ek,hl,z):=z;have V:=rp.evo r.d e1;let(p',Q,G',e',a0,aF,P):=V.r.dic;cases e';obtain rfl:=P.im ar;let(p2,ws,G2,U,aW,h3,h4):=r1.r.lst;obtain rfl:=h4.im ak;let(ps,more,U,hlen,ht,hk):=h4.pairs U ek;exact(p,p2,ps,Q,more,U,U,aF,h3,hlen,ht,by rw[P.len,hk.len];exact hl,(E.nx _ _ _ (r.Km ei hv e1 (bo.ck (kvs':=[]) (kts':=[]) hk U P)) z))
  exact z.elim
 exact hq.elim
def TY{i:Nat}{fC:Pos}(z:X.calm=O)(ho:PE X o (b8 i))(he:QPF X K e te qe)(P:‹X.K=K›)(Q:‹attributeBase o "update" X.env (eval o X.env)=eval o X.env›)
  (q:‹AC X aZ [e]›)
  (V:‹(apos.endLine==aZ.line)=true›) (hs:‹AD X e []›) (eh:‹(backTo aZ (j7 [] X.env)).any (·.1)=false›)
  (g:‹swapsWith (.Call (.Attribute o "update" apos) [e] [] aZ) Y fC.line X.env=pure false›):
  QPS X K (.Expr (.Call (.Attribute o "update" apos) [e] [] aZ) fC) (oh (tBM K "dict" Kz (b8 i) (bR te gq))) (Ub i qe):=
 (oK (by subst P;exact BG PySem.F.plainAttrs_dict PySem.F.slot_dict_update PySem.F.type_dict_update (L0 z) ho (bp he.h cY hs) Q q V hs eh) g,Oh he.s)
end
variable{d:J}{l:J}
section
variable{K:Ch}{dl:Dl}{v:V}{F:Θ}
def aJ.Y1{o:Obj}{vs:Ϗ}{ts:ϓ}(h:aJ K dl H v (.fd o vs ts) F):∃a,v=.ref a/\F=[]/\H a=Z (.frz o (.dK vs))/\bo K dl H vs ts []:=by cases h with|fd h r=>exact(_,rfl,rfl,h,r)
variable{a:EQ}
def qi.oth{a:J}{o:HO}(D:qi H d l)(h1:a≠d)(h2:a≠l):qi (upd H a o) d l:=by let(s,n,ls,Q):=D;exact(s,n,ls,by rw[au h1.symm];exact Q.hd,by rw[au h2.symm];exact Q.hl,Q.s0,Q.s1,Q.n0,Q.l0)
end
variable{C:J}{ns:Γ}
section
variable{K:Ch}{dl:Dl}{v:V}{F:Θ}
def aJ.exc{ts:ϑ}(h:aJ K dl H v (.xc C ns ts) F):∃a b vs,v=.ref a/\F=[]/\ExH H a C b (ns.zip vs)/\aB K dl H vs ts []:=h.inv
theorem aB.lookup{f:Str}{vs:Ω}{ts:ϑ}{F:Θ}{u:T}(r:aB K dl H vs ts F)(h:(ns.zip ts).lookup f=Z u):∃w G,(ns.zip vs).lookup f=Z w/\aJ K dl H w u G/\∀b∈G,b∈F:=by
 induction ns generalizing vs ts F with
 |nil=>cases h
 |cons n ns q =>
   cases r with
   |nil=>cases h
   |cons h1 r =>
  rw[List.zip_cons_cons,v3]at h ⊢;cases e:(f==n)with
  |true =>
   rw[e]at h;cases h;exact(_,_,U,h1,λb g=>ui _ g)
  |false =>rw[e]at h;let(w,G,a1,a2,z):=q r h;exact(w,G,a1,a2,λb g=>p7 _ (z b g))
end
variable{u:B}
section
variable{X:Cx}{K:Ch}{e:EQ}{te:TE}{qe:QE}{pos p p2:Pos}{y:Str}{fn:Γ}{C':J}{bm bm':Δ}{Ar:Option J}{k:Nat}
inductive OI(K:Ch)(fn:Γ)(c:B)(xs:Ω)(H:Hp)(Q:VK):Prop
 |mk(a C b fs bm ini r y:_)(h1:xs=[.ref a,y])(h2:RelV y c)(h3:ExH H a C b fs)(h4:di K fn C bm ini)(h5:W.kitOne K (.ref C) c=Z r)(h6:Q (.bl r) H)
def gK(h:RelV (.ref a) u):u=.ref a:=h
def Cy{c:B}(hc:∀y u,RelV y u->RelV y c->u=c):dM X (.builtin "isinstance") (OI X.K fn c):=by intro gd s σ H xs us Q I r h;let(a,C,b,fs,bm,ini,z,y,U,g,ex,cx,ek,q):=h;cases r with|cons h1 V =>cases V with|cons h2 P =>cases P;cases(gK h1);cases hc _ _ h2 g;exact Vj I ex cx ek λtk=>(.bl z,H,I.tok tk,U,q)
def K4(K:Ch)(fn:Γ)(c:B)(qe:QE):QE:=λq Q=>qe q λt=>match t with|.xc C _ _=>∃bm ini,di K fn C bm ini/\Q (.b ((B.ref C::bm).contains c))|_=>False
theorem FE{c:B}{y:V}(ry:RelV y c)(hk:∀C bm ini,di K fn C bm ini->W.kitOne K (.ref C) c=Z ((B.ref C::bm).contains c))(h:iQ K te qe):jX K (tCB (OI K fn c) (bR te (bR (tC y) gq))) (K4 K fn c qe):=by
 intro dl H σ q Q R rd hq k;refine h dl H σ q _ _ rd hq λv t F H1 e1 r1 g=>?_;split at g
 ·let(bm,ini,P,g):=g;let(a,b,vs,U,U,ex,rs):=r1.r.exc;exact(a,_,b,_,bm,ini,_,y,U,ry,ex,P,hk _ bm ini P,k _ _ [] H1 e1 (.b _,nofun) nofun ot g)
 exact g.elim
def T7(V:X.K=K)(c':di K fn C' bm' Ar)(hg:Gl X "isinstance")(hm:X.mg "isinstance"=Y)(P:Gl X y)(q:X.mg y=Z (.ref C'))(h:QPE X K e te qe)(hd:autoParam (AT y) zdc._auto_1)
  (he:‹j7 [e,.Name y p2] X.env=(ϊ,eval e X.env)::j7 [.Name y p2] X.env›) (Q:‹j7 [.Name y p2] X.env=(ϊ,eval (.Name y p2) X.env)::j7 [] X.env›) (g:‹(backTo pos (j7 [.Name y p2] X.env)).any (·.1)=false›):
  QPF X K (.Call (.Name "isinstance" p) [e,.Name y p2] [] pos) (tCB (OI K fn (.ref C')) (bR te (bR (tC (.ref C')) gq))) (K4 K fn (.ref C') qe):=by
 subst V;exact(i7 (Cy λy u h1 h2=>by
  cases y with
  |ref b=>cases(gK h1);cases(gK h2);rfl
  |non=>cases(show B.ref C'=B.none from h2)
  |bl b=>cases(show B.ref C'=B.bool b from h2)
  |int i=>let(_,z):=(show ∃t,B.ref C'=B.int i t from h2);cases z
  |str i=>let(_,z):=(show ∃t,B.ref C'=B.str i t from h2);cases z
  |flt i=>let(_,z):=(show ∃t,B.ref C'=B.float i t from h2);cases z
  |ty n=>cases(show B.ref C'=B.type n from h2)
  |byt i=>(let(_,z):=h2;cases z)) hg hm U (bp h.h (bp (BF P q hd) cY Q) he) ad ad he g,FE (y:=.ref C') U (λC bm ini c=>Ge c c') h.s)
theorem T8{n:String}(hK:X.K=K)(hT:W.kitMeta n=O)(hg:Gl X "isinstance")(hm:X.mg "isinstance"=Y)(P:Gl X y)(q:X.mg y=Y)(hv:bootBuiltins y=Z (.type n))(h:QPE X K e te qe)(hn:autoParam (y ≠ "__name__") zdc._auto_1)(hd:autoParam (AT y) zdc._auto_1)
  (he:‹j7 [e,.Name y p2] X.env=(ϊ,eval e X.env)::j7 [.Name y p2] X.env›) (Q:‹j7 [.Name y p2] X.env=(ϊ,eval (.Name y p2) X.env)::j7 [] X.env›) (g:‹(backTo pos (j7 [.Name y p2] X.env)).any (·.1)=false›):
  QPF X K (.Call (.Name "isinstance" p) [e,.Name y p2] [] pos) (tCB (OI K fn (.type n)) (bR te (bR (tC (.ty n)) gq))) (K4 K fn (.type n) qe):=by
 subst hK;exact(i7 (Cy λy u h1 h2=>by
  cases y with
  |ref b=>cases(gK h2)
  |non=>cases(show B.type n=B.none from h2)
  |bl b=>cases(show B.type n=B.bool b from h2)
  |int i=>let(_,z):=(show ∃t,B.type n=B.int i t from h2);cases z
  |str i=>let(_,z):=(show ∃t,B.type n=B.str i t from h2);cases z
  |flt i=>let(_,z):=(show ∃t,B.type n=B.float i t from h2);cases z
  |byt i=>(let(_,z):=h2;cases z)|ty m =>
   have z1:u=B.type m:=h1;have V:B.type n=B.type m:=h2;rw[z1,V]) hg hm U (bp h.h (bp (Pu P q hv U hn hd) cY Q) he) ad ad he g,FE (y:=.ty n) U (λC bm ini c=>by
    rw[Mf c hT,x2];rfl) h.s)
end
abbrev QW:=J->Γ->ϑ->Prop
abbrev QX:=Sq->(T->Prop)->QW->Prop
def Zb(K:PySem.W.Frag)(te:(St->XK)->TE)(qx:QX):Prop:=∀(dl:Dl)(H:Hp)(σ:St)(q:Sq)(Q:T->Prop)(W:QW)(R:V->Hp->Prop)(Es:St->XK),RdR K dl H σ q->qx q Q W ->
 (∀v t F H',Evo dl H H'->Rp K dl H' v t F->(∀b∈F,H b=Y)->F.Nodup->Q t->R v H')->(∀a C ns us H',Evo dl H H'->Rp K dl H' (.ref a) (.xc C ns us) []->W C ns us->Es σ (.ref C) (Z a) H')->te Es σ H R
structure QPX(X:Cx)(K:Ch)(e:EQ)(te:(St->XK)->TE)(qx:QX):Prop where
 h:∀Es,jY (CX1 X.prog X.w) X Es->PE X e (te Es)
 s:Zb K te qx
abbrev QSX:=(Sq->QW)->QS
def XOk(K:PySem.W.Frag)(dl:Dl)(bi:Hp)(hs:List (V×T))(W:Sq->QW)(Es:St->XK):Prop:=∀H σ q a C ns us,gD K dl bi hs H σ q->Rp K dl H (.ref a) (.xc C ns us) []->W q C ns us->Es σ (.ref C) (Z a) H
def SQ(K:PySem.W.Frag)(ts:(St->XK)->TS)(qs:QSX):Prop:=∀(dl:Dl)(bi:Hp)(hs:List (V×T))(H:Hp)(σ:St)(q:Sq)(Dq:cM)(D:Ends)(W:Sq->QW)(Es:St->XK),gD K dl bi hs H σ q->qs W Dq q->Fi K dl bi hs Dq D->XOk K dl bi hs W Es->ts Es D σ H
structure CM(X:Cx)(K:Ch)(st:Fa)(ts:(St->XK)->TS)(qs:QSX):Prop where
 h:∀Es,jY (CX1 X.prog X.w) X Es->pV X Es->PS X st (ts Es)
 s:SQ K ts qs
structure sQ(X:Cx)(K:Ch)(st:List Fa)(ts:(St->XK)->TS)(qs:QSX):Prop where
 h:∀Es,jY (CX1 X.prog X.w) X Es->pV X Es->PSs X st (ts Es)
 s:SQ K ts qs
variable{dl:Dl}{bi:Hp}{q:Sq}
section
variable{X:Cx}{K:Ch}{st:Fa}{sa sb:List Fa}{e c:EQ}{pos p aZ:Pos}{tx:(St->XK)->TE}{qx:QX}{tc:TT}{qc:QT}{t:TS}{qt:QS}{ts us:(St->XK)->TS}{qs qr:QSX}
def cn(h:QPS X K st t qt):CM X K st (λ_=>t) (λ_=>qt):=(λ_ _ _=>h.h,λdl bi hs H σ q Dq D _ _ r hq E _=>h.s dl bi hs H σ q Dq D r hq E)
def lZ(h:tV X K rest t qt):sQ X K rest (λ_=>t) (λ_=>qt):=(λ_ _ _=>h.h,λdl bi hs H σ q Dq D _ _ r hq E _=>h.s dl bi hs H σ q Dq D r hq E)
def a8(h:CM X K st ts qs):sQ X K [st] ts qs:=(λEs a b=>gx (h.h Es a b),h.s)
def aT(h1:CM X K st ts qs)(h2:sQ X K rest us qr):sQ X K (st::rest) (λEs=>Ti (ts Es) (us Es)) (λW D q=>qs W {D with nx:=λq'=>qr W D q'} q):=
 (λEs a b=>bI (h1.h Es a b) (h2.h Es a b),λdl bi hs H σ q Dq D W Es r hq E x=>h1.s dl bi hs H σ q _ _ W Es r hq (λH σ q r' g=>h2.s dl bi hs H σ q _ _ W Es r' g E x,E.bk,E.ct,E.rt,E.ru) x)
def gL(z:QPT X K c tc qc)(Q:sQ X K sa ts qs)(P:sQ X K sb us qr):CM X K (.If c sa sb pos) (λEs=>Tp tc (ts Es) (us Es)) (λW D q=>qc q λb=>if b=O then qs W D q else qr W D q):=
 (λEs a b=>Lf z.h (Q.h Es a b) (P.h Es a b),λdl bi hs H σ q Dq D W Es (F,r) hq E x=>z.s dl H σ q _ _ r.rd hq λb H' e1 g=>by
  cases b with
  |true=>exact Q.s dl bi hs H' σ q Dq D W Es (F,r.evo e1) g E x
  |false=>exact P.s dl bi hs H' σ q Dq D W Es (F,r.evo e1) g E x)
def XOk.at{hs:List (V×T)}{W:Sq->QW}{Es:St->XK}{σ:St}{F:Nat->Θ}(x:XOk K dl bi hs W Es)(r:Rel K dl bi hs H σ q F):∀a C ns us H',Evo dl H H'->Rp K dl H' (.ref a) (.xc C ns us) []->W q C ns us->Es σ (.ref C) (Z a) H':=
 λa C ns us H' e1 g hw=>x H' σ q a C ns us (F,r.evo e1) g hw
def iX(he:QPX X K e tx qx)(hs:‹swapsWith e Y pos.line X.env=pure false›):CM X K (.Expr e pos) (λEs=>oh (tx Es)) (λW D q=>qx q (λ_=>D.nx q) (W q)):=
 (λEs a _=>oK (he.h Es a) hs,λdl bi hs H σ q Dq D W Es (F,r) hq E x=>he.s dl H σ q _ _ _ Es r.rd hq (λv t F' H' e1 _ _ _ g=>E.nx H' σ q (F,r.evo e1) g) (x.at r))
def lY(he:QPX X K e tx qx):CM X K (.Return (Z e) pos) (λEs=>N6 (tx Es)) (λW D q=>qx q D.rt (W q)):=
 (λEs a _=>qW (he.h Es a),λdl bi hs H σ q Dq D W Es (F,r) hq E x=>he.s dl H σ q _ _ _ Es r.rd hq (λv t F' H' e1 g f1 z P=>E.rt v t F' H' e1.d g (λb Q=>r.fz (f1 b Q)) z (r.evo e1).f P) (x.at r))
def zL{i:Nat}(Q:X.N.Nodup)(hi:X.N[i]?=Z x)(hx:Loc X.env.scope x)(he:QPX X K e tx qx)(hs:‹swapsWith e (Z (.Name x pos')) pos.line X.env=pure false›)(hf:BC X x:=by first|exact .inl rfl|exact .inr rfl|assumption):
  CM X K (.Assign [.Name x pos'] e pos) (λEs=>kz (tx Es) (gS i)) (λW D q=>qx q (λt=>D.nx (q.set i (.o t))) (W q)):=
 (λEs a _=>jE Q hi hx (he.h Es a) hs hf,λdl bi hs H σ q Dq D W Es (F,r) hq E x=>he.s dl H σ q _ _ _ Es r.rd hq (λv t F' H' e1 g f1 z P=>E.nx H' _ _ (r.La e1 g f1 z) P) (x.at r))
variable{fn:Γ}{bm:Δ}
def Yi{o o':HO}:upd (upd H a o) a o'=upd H a o':=by
 funext b;by_cases h:b=a
 ·rw[h,ax,ax]
 rw[au h,au h,au h]
theorem fI(V:X.K=K)(P:X.calm=O)(M:di K fn C bm Y)(kp:W.keepIn K (.ref C)=O)(hg:Gl X x)(hm:X.mg x=Z (.ref C))(g:autoParam (AT x) zdc._auto_1):
  CM X K (.Raise (Z (.Call (.Name x p) [] [] aZ)) Y pos) (λEs=>JN K fn Es (Fz C)) (λW _ q=>W q C [] []):=by
 subst V;refine(λEs _ b=>Le P b (Ib M kp hg hm g),λdl bi hs H σ q Dq D W Es (F,r) hq E x a Q=>(a,C,bm,Y,Y,U,M,ax,?_));rw[Yi];have ev:=(Evo.refl r.d).new (o:=.ext (XAt a C Y ϊ)) Q;exact x.at r a C [] [] _ ev (.e (vs:=[]) (.inl (U,ax)) .nil,nofun) hq
end
abbrev Nh:=ϑ->(T->Prop)->QW->Prop
inductive m7(K:Ch)(ps:Nh)(vs:Ω)(H:Hp)(Q:VK)(E:XK):Prop
 |mk(dl:Dl)(ts:ϑ)(F:Θ)(Qp:T->Prop)(Wp:QW)(h1:Dls dl H)(h2:Rps K dl H vs ts F)(h3:ps ts Qp Wp)(h4:(∀v t F' H',Evo dl H H'->Rp K dl H' v t F'->(∀b∈F',H b=Y)->F'.Nodup->Qp t->Q v H'))(h5:∀a C ns us H',Evo dl H H'->Rp K dl H' (.ref a) (.xc C ns us) []->Wp C ns us->E (.ref C) (Z a) H')
section
variable{X:Cx}{K:Ch}{e:EQ}{es:List EQ}{tl:TA}{ql:QA}{pos p:Pos}{k:Nat}{f:J}{prs:Γ}{ps:Nh}
theorem OJ(F:aP X.prog X.w X.K X.mg X.base (CX1 X.prog X.w) k f fd prs (m7 K ps))(hr:dI k X.A)(hg:Gl X x)(hm:X.mg x=Z (.ref f))(hk:W.keepIn X.K (.ref f)=O)(V:Binds X.K fd prs [])(ha:QPA X K (e::es) tl ql)
  (P:autoParam (AT x) zdc._auto_1) (he:‹AD X e es›) (z:‹AS X pos es›):
  QPX X K (.Call (.Name x p) (e::es) [] pos) (λEs=>Dv (m7 K ps) Es tl) (λq Q W=>ql q λts=>ps ts Q W):=
 (λEs a=>Lz F hr hg hm hk V a ha.h P he z,λdl H σ q Q W R Es rd hq k1 k2=>ha.s dl H σ q _ _ rd hq λvs ts F H1 e1 r1 _ g =>
(dl,ts,F,Q,W,e1.d,r1,g,λv t F' H' e r f n g=>k1 v t F' H' (e1.trans e) r (λb V=>e1.free (f b V)) n g,λa C ns us H' e r hw=>k2 a C ns us H' (e1.trans e) r hw))
end
theorem Fun.xA{w:Da}{K:PySem.W.Frag}{st:Fa}{f:J}{k:Nat}{g:Nh}(F:Fun K x qual st f fd)(S:aD N ps (av st))(len:∀ts Q W,g ts Q W->ts.length=ps.length)
  (k9:∀(cdv:B)(A:Do)(outer:List Env)(s:ϋ)(H:Hp)(E:XK),dI k (A.deeper (envOfC qual (av st) s.heap.objs.size f cdv)) ->
∃t qs,sQ (rM (CX1 P w) P w K mg base N qual (av st) f cdv A outer s H E) K (bZ st) t qs/\∀ts Q W,g ts Q W->qs (λ_=>W) {nx:=λ_=>Q .n,rt:=Q} (ts.map Sl.r++rY (N.length-ts.length) .no)):aP P w K mg base (CX1 P w) (k+1) f fd ps (m7 K g):=by
 have ak:ps.length<=N.length:=by have:=congrArg CP S.pre;rw[tX]at this;omega
 refine F.okX S (λvs H Q E h=>?_) (λcdv A outer s H vs Q E hr h=>?_)
 ·let(dl,ts,F,Qp,Wp,_,r,h,_):=h;rw[r.r.len];exact len ts Qp Wp h
 let(dl,ts,Fp,Qp,Wp,D,r,h,fin,fix):=h;let(t,qs,hb,hq):=k9 cdv A outer s H E hr;refine(t λ_=>E,hb.h _ D4 DP,?_);have hlen:=len ts Qp Wp h;have hl:=r.r.len;have z:=hq ts Qp Wp h;have R:=qQ (n:=N.length) D r bd;rw[<- hl]at z;refine hb.s dl H [] H _ _ _ _ _ _ R z (λH' σ q (F,r') V=>?_,λ_ _ _ _ V=>V.elim,λ_ _ _ _ V=>V.elim,λv t F H' D' r' f' n' fr V=>?_,λ_ _ _ _ _ _ _ _ _ _ _ _ z=>z.elim) λH' σ q a C ns us (F,r') rp hw=>?_
 ·exact fin .non .n [] H' (r'.f.evo r'.d) (.n,nofun) nofun ot V
 ·exact fin v t F H' (fr.evo D') r' f' n' V
 exact fix a C ns us H' (r'.f.evo r'.d) rp hw
abbrev QH:=J->Γ->ϑ->QS
def Ze(K:Ch)(th:TH)(qh:QH):Prop:=∀(dl:Dl)(bi:Hp)(hs:List (V×T))(H:Hp)(σ:St)(q:Sq)(Dq:cM)(D:Ends)(a C:J)(ns:Γ)(us:ϑ),gD K dl bi hs H σ q->Rp K dl H (.ref a) (.xc C ns us) []->qh C ns us Dq q->Fi K dl bi hs Dq D->th a C D σ H
structure QPH(X:Cx)(K:Ch)(hs:List ExceptHandler)(th:TH)(qh:QH):Prop where
 h:PH X hs th
 s:Ze K th qh
def cM.go(D:cM)(i:Nat):cM:={nx:=λq=>D.nx (q.set i .no),rt:=D.rt,bk:=λq=>D.bk (q.set i .no),ct:=λq=>D.ct (q.set i .no),ru:=λq t=>D.ru (q.set i .no) t}
theorem Rel.MX{K:Ch}{hs:List (V×T)}{σ:St}{F:Nat->Θ}(r:Rel K dl bi hs H σ q F)(i:Nat):Rel K dl bi hs H (σ.set i Y) (q.set i .no) (Bi F i []):=by
 refine(r.d,λj x t h1 h2=>?_,λj x h1 h2=>?_,λj P=>?_,λj u h1=>?_,λp hp=>?_,r.f,by simp[r.l])
 ·obtain⟨rfl,rfl,_⟩|⟨ne,h1⟩:=get_set h1
  ·cases h2
  let(w,h3,h4):=r.g j x t h1 h2;exact(w,by rw[Fe (λz=>ne z.symm)];exact h3,by rw[a7 ne];exact h4)
 ·obtain⟨rfl,rfl,_⟩|⟨ne,h1⟩:=get_set h1
  ·rw[bB]
  rw[a7 ne];exact r.n j x h1 h2
 ·by_cases ej:j=i
  ·rw[ej,bB]
  rw[a7 ej];rw[Xo]at P;exact r.z j P
 ·obtain⟨rfl,e,_⟩|⟨ne,h1⟩:=get_set h1
  ·cases e
  rw[a7 ne];let(o1,o2,o3):=r.o j u h1;refine(o1,o2,λk hk b Q=>?_);by_cases ek:k=i
  ·rw[ek,bB];exact λz=>nomatch z
  rw[a7 ek];exact o3 k hk b Q
 let(Fp,h1,h2):=r.h p hp;refine(Fp,h1,λj u P b Q z=>?_);obtain⟨rfl,e,_⟩|⟨ne,P⟩:=get_set P
 ·cases e
 rw[a7 ne]at Q;exact h2 j u P b Q z
theorem gD.clear{K:Ch}{hs:List (V×T)}{σ:St}(r:gD K dl bi hs H σ q)(i:Nat):gD K dl bi hs H (σ.set i Y) (q.set i .no):=r.elim λ_ r=>(_,r.MX i)
variable{hs:List ExceptHandler}{body:List Fa}
section
variable{X:Cx}{K:Ch}{fn:Γ}{C':J}{bm':Δ}{Ar:Option J}{n:Str}{p pos:Pos}{b0:Fa}{Be:List Fa}{rest:List ExceptHandler}{ts:TS}{qs:QS}{tr:TH}{qr:QH}{i:Nat}
def FO:QH:=λ_ _ _ _ _=>False
def KO:QPH X K hs Mw FO:=(Ls,λ_ _ _ _ _ _ _ _ _ _ _ _ _ _ h _=>h.elim)
def T6(K:Ch)(fn:Γ)(C':J)(i:Nat)(qs:QS)(qr:QH):QH:=λC ns us D q=>∃bm ini,di K fn C bm ini/\if(B.ref C::bm).contains (.ref C')=O then qs (D.go i) (q.set i (.r (.xc C ns us)))else qr C ns us D q
def WI(hK:X.K=K)(hN:X.N.Nodup)(hi:X.N[i]?=Z n)(hk:BT X n)(hg:Gl X x)(hm:X.mg x=Z (.ref C'))(c':di K fn C' bm' Ar)(g:∀a,tV (X.inX a) K (b0::Be) ts qs)(hr:QPH X K rest tr qr)(Q:autoParam (AT x) zdc._auto_1):
  QPH X K (.ExceptHandler (Z (.Name x p)) (Z n) (b0::Be) pos::rest) (hAs K fn C' i ts tr) (T6 K fn C' i qs qr):=by
 subst hK;refine(W5 hN hi hk hg hm c' (λa=>(g a).h) hr.h Q,λdl bi hs H σ q Dq D a C ns us r V hq E=>?_);let(bm,ini,c,hq):=hq;refine(bm,ini,c,λz=>?_,λz=>?_)
 ·rw[if_pos z]at hq;have r2:gD X.K dl bi hs H (σ.set i (Z (.ref a))) (q.set i (.r (.xc C ns us))):=by
   let(F,r):=r;by_cases P:i<q.length
   ·exact(_,r.O4 P V λ_ _ _ _ _ _ z=>nomatch z)
   have hl:=r.l;rw[Zy bd,Zy bd];exact(F,r)
  exact(g a).s dl bi hs H _ _ (Dq.go i) (D.go i) r2 hq (λH σ q r h=>E.nx H _ _ (r.clear i) h,λH σ q r h=>E.bk H _ _ (r.clear i) h,λH σ q r h=>E.ct H _ _ (r.clear i) h,E.rt,λH σ q F0 v t F r h1 h2 h3 h4 h=>E.ru H _ _ _ v t F (r.MX i) h1 h2 h3 (λj b hb z=>by unfold Bi at z;split at z;cases z;exact h4 j b hb z) h)
 rw[if_neg (by rw[z];decide)]at hq;exact hr.s dl bi hs H σ q Dq D a C ns us r V hq E
def T2{h0:ExceptHandler}{th:TH}{qh:QH}{tb:(St->XK)->TS}{qb:QSX}(P:∀pn xe,sQ (X.sZ pn xe) K body tb qb)(z:QPH X K (h0::hs) th qh)(g:‹X.stack=X.env::X.outer›)(hf:‹X.env.frame=Z X.env.locals›):
  QPS X K (.Try body (h0::hs) [] [] pos) (Wq th tb) (λD q=>qb (λq' C ns us=>qh C ns us D q') D q):=
 (Ut g hf (λEs pn xe a b=>(P pn xe).h Es a b) z.h,λdl bi hs H σ q Dq D r hq E=>(P [] λ_ _=>False).s dl bi hs H σ q Dq D _ _ r hq E λH σ q a C ns us r Q hw=>(a,C,U,U,z.s dl bi hs H σ q Dq D a C ns us r Q hw E))
end
section
variable{X:Cx}{K:Ch}{a b:EQ}{ta tb:TE}{qa qb:QE}{pos:Pos}
def Yp(qa qb:QE):QE:=λq Q=>qa q λt=>qb q λu=>match t,u with|.l xs,.i k=>Ex2 (λx=>atI xs k=Z x) Q|_,_=>False
def vk(ha:QPF X K a ta qa)(hb:QPE X K b tb qb)(hs:pW b:=by intro _ _;rfl)(hK:‹X.K=K›):QPF X K (.Subscript a b pos) (tOp (rIx K) ta tb) (Yp qa qb):=by
 refine(by subst hK;exact BE Mg ha.h hb.h hs,λdl H σ q Q R rd hq k=>(ha.s dl H σ q _ _ rd hq λv t F H1 e1 P f1 n1 V=>(hb.s dl H1 σ q _ _ (rd.evo e1) V λw u G H2 e2 r2 g=>?_)));have P:=P.evo e1.d e2;split at g
 ·let(U,U):=r2.r.int;let(p,vs,G,U,U,h1,h2):=P.r.lst;let(z,hz,hq):=g;let(j,hj,hi):=pT hz h2.len.symm;let(v,G',hv,rv,hs):=h2.XJ hj;have sub:∀c∈G',c∈p::G:=λc hc=>j6 _ (hs.subset hc);exact .inl (p,vs,_,v,U,U,SqL.of h1,wA hi hv,k v z G' H2 (e1.trans e2) (Rp.sub rv P.n sub) (λc hc=>f1 c (sub c hc)) ((wh.mp n1).2.sublist hs) hq)
 exact g.elim
end
section
variable{K:Ch}
def Qq{b:J}{xs ys:ϑ}:AX K dl (Itz K ϊ ϊ a b) (sY xs ys) [(.ref a,.l xs),(.ref b,.l ys)] where
 go:=λH i D h hi=>by
  let(F,r):=h (.ref a,.l xs) ba;let(F',r'):=h (.ref b,.l ys) ba;let(p,vs,G,e,eF,h1,h2):=r.r.lst;cases e;let(p',g,G',e',V,Q,P):=r'.r.lst;cases e';rw[uH]at hi;have l1:i<vs.length:=by rw[h2.len];omega
  have l2:i<g.length:=by rw[P.len];omega
  exact(vs,g,vs[i],g[i],SqL.of h1,SqL.of Q,by simp[l1],by simp[l2])
 yld:=λH i x fp v H' D h hx y=>by
  have r:=h (.ref a,.l xs) ba;have r':=h (.ref b,.l ys) ba;let(p,vs,G,e,eF,h1,h2):=r.r.lst;cases e;let(p',g,G',e',V,Q,P):=r'.r.lst;cases e';let(x1,y1,a0,aW,U):=Ft hx;let(w1,G1,a4,aK,a6):=h2.get a0;let(w2,G2,a3,aF,a5):=P.get aW;let(q,u1,u2,hq,U,U,ar,ak):=y;have e1:=ar vs (SqL.of h1);rw[a4]at e1;cases e1;have e2:=ak g (SqL.of Q);rw[a3]at e2;cases e2;have m1:∀c∈G1,c∈fp (.ref a,.l xs):=λc hc=>by rw[eF];exact j6 _ (a6 c hc)
  have m2:∀c∈G2,c∈fp (.ref b,.l ys):=λc hc=>by rw[V];exact j6 _ (a5 c hc)
  have rs:Rps K dl H [w1,w2] [x1,y1] (G1++(G2++[])):=Rps.cons (aK,λb hb=>r.n b (m1 b hb)) (Rps.cons (aF,λb hb=>r'.n b (m2 b hb)) (.nil,nofun));refine((Evo.refl D).new hq,_,rs.tup D hq,λc hb=>.inr ?_);rw[pq]at hb;obtain z|z:=lN.mp hb
  ·exact((.ref a,.l xs),ba,m1 c z)
  exact((.ref b,.l ys),ba,m2 c z)
 stop:=λH D h=>by
  let(F,r):=h (.ref a,.l xs) ba;let(F',r'):=h (.ref b,.l ys) ba;let(p,vs,G,e,eF,h1,h2):=r.r.lst;cases e;let(p',g,G',e',V,Q,P):=r'.r.lst;cases e';refine(vs,g,SqL.of h1,SqL.of Q,?_);rw[uH,h2.len,P.len];omega
end
variable{p1:Pos}{p2:Pos}{fJ:Pos}
section
variable{X:Cx}{K:Ch}{a e:EQ}{te:TE}{qe:QE}{tl:TA}{ql:QA}{pos p:Pos}
def X3(ql:QA):QJ:=λq Q=>ql q λts=>match ts with|[.t xs]=>T.ims xs=O/\Q (jg xs) q|_=>False
def ud{x1}(hg:Gl X "enumerate")(hm:X.mg "enumerate"=Y)(fW:bootBuiltins "enumerate"=Z (.type "enumerate"))(ha:QPA X K [a] tl ql)(hs:‹AM X a›)(hK:‹X.K=K›):
  QPJ X K (.Tuple elts x1 pos') (.Call (.Name "enumerate" p) [a] [] pos) (vT K O tl) (X3 ql):=(kQ hK hg hm fW ha.h hs,λdl bi hs H σ q Q R (F0,r0) hq k=>ha.s dl H σ q _ _ r0.rd hq λvs ts F H' e1 r _ g=>by
 split at g
 ·let(i1,g):=g;let(v,U,V):=r.one;obtain rfl:=V.r.im i1;have q1:=(r0.evo e1).hold V λj u hj b hb z=>nomatch z;let(l1,P,U,h1,h2):=V.r.tup;exact(l1,U,(P,SqT.of h1),k _ _ _ H' q (F0,q1) Gh g)
 exact g.elim)
def Uk(qe:QE):QE:=λq Q=>qe q λt=>match t with|.l xs=>T.ims xs=O/\Q (.l xs.reverse)|_=>False
def BD(hK:X.K=K)(hc:X.calm=O)(V:Gl X "list")(P:X.mg "list"=Y)(Q:Gl X "reversed")(z:X.mg "reversed"=Y)(he:PE X e te)
  (q:AM X e) (g:j7 [.Call (.Name "reversed" p2) [e] [] fJ] X.env=[(ϊ,eval (.Call (.Name "reversed" p2) [e] [] fJ) X.env)]):
  PE X (.Call (.Name "list" p1) [.Call (.Name "reversed" p2) [e] [] fJ] [] pos) (uP K te):=by subst hK;exact vv hc V P Q z he q g
def sC{p1 p2 fJ:Pos}(hc:X.calm=O)(aK:Gl X "list")(ar:X.mg "list"=Y)(aF:Gl X "reversed")(ak:X.mg "reversed"=Y)(he:QPE X K e te qe)
  (V:‹AM X e›) (P:‹j7 [.Call (.Name "reversed" p2) [e] [] fJ] X.env=[(ϊ,eval (.Call (.Name "reversed" p2) [e] [] fJ) X.env)]›) (hK:‹X.K=K›):
  QPF X K (.Call (.Name "list" p1) [.Call (.Name "reversed" p2) [e] [] fJ] [] pos) (uP K te) (Uk qe):=
 (BD hK hc aK ar aF ak he.h V P,λdl H σ q Q R rd hq k=>he.s dl H σ q _ _ rd hq λv t F H1 e1 r g=>by
  split at g
  ·let(i1,g):=g;let(l,vs,G,U,U,h1,h2):=r.r.lst;obtain rfl:=h2.im i1;refine(l,vs,U,SqL.of h1,λp hp=>?_);have rs:Rps K dl H1 vs.reverse _ []:=(h2.rev U,nofun);exact k _ _ [p] _ (e1.new hp) (rs.lst e1.d hp) (λb hb=>by rw[fy.mp hb];exact e1.free hp) ba g
  exact g.elim)
end
def qD1(qk qv:QE):QE:=λq Q=>qk q λt=>qv q λu=>match t.key with|some k=>u.fl=O/\Q (.d [(k,u)])|none=>False
section
variable{X:Cx}{K:Ch}{ek ev:EQ}{tk tv:TE}{qk qv:QE}{pos:Pos}
def TF.dict{p:J}{kv kw:Ϗ}(hp:H p=Z (.dK kv)):TF H (upd H p (.dK kw)):=
 have ne:∀{a:J}{o:HO},H a=Z o->(∀kv,o ≠ .dK kv)->a≠p:=λh n e=>by rw[e,hp]at h;exact n _ (Option.some.inj h).symm
 (λa vs h=>by rw[au (ne h nofun)];exact h,λa o u h=>by rw[au (ne h nofun)];exact h,λa φ h=>by rw[au (ne h nofun)];exact h,λa xs h=>(xs,by rw[au (ne h nofun)];exact h),λa x h=>(x,RE _,by rw[au (ne h nofun)];exact h))
def Bu(hk:QPE X K ek tk qk)(hv:QPE X K ev tv qv):QPF X K (.Dict [Z ek] [ev] pos) (JQ [(tk,tv)]) (qD1 qk qv):=by
 refine(z8 (kP hk.h hv.h zZ) U U ba (by show 1<=15;decide),λdl H σ q Q R rd hq k=>λp hp=>?_);have e0:=(Evo.refl rd.d).new (o:=.dK []) hp;have nd:=rd.d.nd0 hp;refine hk.s dl _ σ q _ _ (rd.evo e0) hq λv t F H1 e1 r1 aF=>(hv.s dl H1 σ q _ _ ((rd.evo e0).evo e1) aF λw u G H2 e2 r2 g=>?_);split at g
 ·rename_i kk a0;let(aK,g):=g;let(U,U):=r2.r.v aK;have aW:=r1.r.key a0;have ak:=e2.k p _ (e1.k p _ ax nd nofun) nd nofun;have tf:=TF.dict (kw:=[(kk,u.v)]) ak;refine(ak,[(kk,u.v)],by rw[aW];rfl,(by show 1<=15;decide),?_);have e3:Evo dl H (upd H2 p (.dK [(kk,u.v)])):=by
   refine(λb o V hn nr=>?_,λd hd=>?_,λb x V=>?_)
   ·have P:b≠p:=λz=>by rw[z,hp]at V;cases V
    rw[au P];exact e2.k b o (e1.k b o (by rw[au P];exact V) hn nr) hn nr
   ·let(s0,n0,ar,D0):=e2.d d hd;have n1:=(nd d hd).1;have n2:=(nd d hd).2;exact(s0,n0,ar,{D0 with hd:=by rw[au n1.symm];exact D0.hd,hl:=by rw[au n2.symm];exact D0.hl})
   have P:b≠p:=λz=>by rw[z,hp]at V;cases V
   let(y,hy,e4):=(e1.trans e2).r b x (by rw[au P];exact V);exact(y,hy,by rw[au P];exact e4)
  exact k _ _ [p] _ e3 (.d ax (.cons (r2.r.dO tf (λ_ z=>z) bX) .nil),λb V=>by rw[fy.mp V];exact nd) (λb V=>by rw[fy.mp V];exact hp) ba g
 exact g.elim
end
section
variable{X:Cx}{σ:St}{s:ϋ}{x:Int}
def Inv.RZ(I:Inv X gd σ H s){u:HO}(q:H a=Z u)(g:∀o v,u ≠ .frz o v):∀o v,X.bi a≠Z (.frz o v):=λo v e=>by
 have:=I.base.kC a o v e;rw[q]at this;exact g o v (Option.some.inj this)
def Inv.JL(I:Inv X gd σ H s)(g:H a=Z (.lst [.int x])):Inv X gd σ (upd H a (.room x)) s:=by let(_,its,n,r,e):=(I.hok a _ g);exact I.FJ g nofun nofun nofun (I.RZ g (λ_ _ z=>nomatch z)) (its,n,r,e)
def Inv.UT(I:Inv X gd σ H s)(g:H a=Z (.room x)):Inv X gd σ (upd H a (.lst [.int x])) s:=by let(its,n,r,e):=(I.hok a _ g);exact I.FJ g nofun nofun nofun (I.RZ g (λ_ _ z=>nomatch z)) (by show 1<=lK;decide,its,n,r,e)
end
section
variable{X:Cx}{K:Ch}{a b e o:EQ}{ta tb te:TE}{qa qb qe:QE}{pos:Pos}
inductive Kv(x:V)(y:V)(H:Hp)(Q:VK):Prop
 |mk(p r:_)(h1:x=.ref p)(h2:y=.int 0)(h3:H p=Z (.room r))(h4:Q (.int r) H)
def Gf:IxR X Kv:=by intro value slice gd s σ H x y v u Q I K z h hs;let(p,m,U,U,hq,q):=h;cases K;let(t,U):=z;let(its,n,r,e):=(I.hok p _ hq);have P:PlainL s.heap p its.toArray:=(_,n,e,U,U,U);let(w,ew,g):=r.get (show [V.int m][0]?=Z (.int m)from U);have fin:EP X gd σ Q w s:=(.int m,H,I,g,q);exact item_listR P.isList (RE 0) ad (ew:) fin hs
inductive Ko(o:V)(i:V)(v:V)(H:Hp)(Q:(Hp->Prop)):Prop
 |mk(p x y:_)(h1:o=.ref p)(h2:i=.int 0)(h3:v=.int y)(h4:H p=Z (.room x))(h5:Q (upd H p (.room y)))
def Kb:V1 X Ko:=by intro gd s σ H o i v ov iv u Q I P V K h;let(p,x,y,U,U,U,hp,q):=h;have I1:=I.UT hp;refine thn (set_list gd s σ _ (.ref p) (.int 0) (.int y) ov iv u (λH'=>H'=upd H p (.lst [.int y])) I1 P V K (p,[.int x],0,0,U,U,ax,U,by rw[g7];rfl)) λ_ s' z=>?_;let(H',I',z):=z;subst z;have g:=I'.JL ax;rw[g7]at g;exact(_,g,q)
def RH(te:TE):TE:=λσ H Q=>te σ H λv H1=>∃a x,v=.ref a/\H1 a=Z (.lst [.int x])/\Q v (upd H1 a (.room x))
def Pn(he:PE X e te):PE X e (RH te):=by left;refine thn (he gd s σ H _ I h) λu s' g=>?_;let(v,H',K,r,a,x,e1,z,q):=g;exact(v,_,K.JL z,r,q)
def Evo.fresh{a:J}{o:HO}(e:Evo dl H H')(g:H a=Y)(nd:Nd dl a):Evo dl H (upd H' a o):=
 (λb u h n r=>by rw[au (aX h g)];exact e.k b u h n r,λp hp=>(e.d p hp).oth (nd p hp).1 (nd p hp).2,λb x h=>let(y,q,z):=e.r b x h;(y,q,by rw[au (aX h g)];exact z))
def WK(qe:QE):QE:=λq Q=>qe q λt=>match t with|.l [.i x]=>Q (.rm x)|_=>False
def OQ(he:QPF X K e te qe):QPF X K e (RH te) (WK qe):=(Pn he.h,λdl H σ q Q R rd hq k=>he.s dl H σ q _ _ rd hq λv t F H1 e1 P f1 n1 g=>by
 cases t with
 |l xs =>
  cases xs with
  |cons y V =>
   cases y with
   |i x =>
    cases V with
    |nil =>
     let(p,vs,G,U,U,h1,h2):=P.r.lst;cases h2 with
     |cons h3 h4 =>
      cases h4;let(U,U):=h3.int;exact(p,x,U,h1,k _ (.rm x) [] _ (e1.fresh (f1 p j4) (P.n p j4)) (.rm ax (RE _),nofun) nofun ot g)
    |cons _ _=>exact g.elim
   |_=>exact g.elim
  |nil=>exact g.elim
 |_=>exact g.elim)
def Ul:Q2:=λt u Q=>match t,u with|.rm m,.i k=>k=0/\∀r,r<=m->Q (.i r)|_,_=>False
def Ow:Ng K Kv Ul:=by
 intro dl H x y t u F G Q R D q g hq k;unfold Ul at hq;cases t with
 |rm m =>
  cases u with|i k =>let(p,m,U,h1,h2,_):=q.r.roo;let(U,_):=g.r.int;let(U,hq):=hq;exact(p,m,U,U,h1,k _ (.i m) [] H (.refl D) (.i m,nofun) (hq m h2))|_=>exact hq.elim
 |_=>exact hq.elim
def OR(q:QPE X K a ta qa)(g:QPE X K b tb qb)(hs:pW b:=by intro _ _;rfl):QPE X K (.Subscript a b pos) (tOp Kv ta tb) (qOp Ul qa qb):=(BE Gf q.h g.h hs,zt Ow q.s g.s)
def DS(i:Nat)(qe:QE):QS:=λD q=>match q[i]? with
 |some x=>match x.get with
  |some (.rm u)=>qe q λt=>match t with|.i k=>0<=k/\D.nx (q.set i (.r (.rm (u-k))))|_=>False
  |_=>False
 |none=>False
def RQ:R2:=rI0 λi j=>.int (i-j)
def Ka{α:Type}{xs:List α}{i:Nat}{x:α}(h:xs[i]?=Z x):xs.set i x=xs:=by let(hl,e):=gs.mp h;subst e;exact List.set_getElem_self hl
def HH{i:Nat}(he:iQ K te qe):nP K (kz (tOp RQ (tOp Kv (b8 i) (tC (.int 0))) te) (Mz (b8 i) (tC (.int 0)) Ko)) (DS i qe):=λdl bi hs H σ q Dq D (F,r) hq E=>by
 unfold DS at hq;split at hq
 ·rename_i x ex;split at hq
  ·rename_i u eg;let(v,hv,rp):=r.g i x _ ex eg;let(p,m,U,h1,h2,hF):=rp.r.roo;refine(_,hv,p,m,U,U,h1,he dl H σ q _ _ r.rd hq λw t F1 H1 e1 r1 Q=>?_);split at Q
   ·rename_i k;let(hk,Q):=Q;let(U,_):=r1.r.int;let(y,hy,e2):=e1.r p m h1;have nd:=r.d.nd h1 nofun nofun;refine(m,k,U,U,_,hv,p,y,m-k,U,U,U,e2,?_);have ev:Evo dl H (upd H1 p (.room (m-k))):=by
     refine(λb o P n nr=>?_,λd hd=>(e1.d d hd).oth (nd d hd).1 (nd d hd).2,λb z P=>?_)
     ·have ne:b≠p:=λz=>by rw[z,h1]at P;exact nr _ (Option.some.inj P).symm
      rw[au ne];exact e1.k b o P n nr
     by_cases eb:b=p
     ·subst eb;rw[h1]at P;cases P;exact(_,Int.sub_le_self _ hk,ax)
     let(z',V,e3):=e1.r b z P;exact(z',V,by rw[au eb];exact e3)
    have R2:=(r.evo ev).O4 (t:=.rm (u-k)) (gs.mp ex).1 (.rm ax bd,nofun) (λ_ _ _ _ _ _=>xQ);rw[Ka hv]at R2;exact E.nx _ _ _ (_,R2) Q
   exact Q.elim
  exact hq.elim
 exact hq.elim
def Bs{i:Nat}{p3 p4 P z q:Pos}{j1 j2:Nat}(ho:PE X (.Name x p1) (b8 i))(Q:PE X (.Name x p3) (b8 i))(he:QPE X K e te qe)
  (hs:‹swapsWithSole [.Subscript (.Name x p1) (.Constant (.int 0) j1 p4) pos'] (.BinOp (.Subscript (.Name x p3) (.Constant (.int 0) j2 P) z) .Sub e q) pos.line X.env=pure false›) (hw:‹swappedStores [.Subscript (.Name x p1) (.Constant (.int 0) j1 p4) pos'] (.BinOp (.Subscript (.Name x p3) (.Constant (.int 0) j2 P) z) .Sub e q) X.env=pure none›)
  (h1:‹(assignEach [.Subscript (.Name x p1) (.Constant (.int 0) j1 p4) pos'] X.env).map (·.2)=[assign (.Subscript (.Name x p1) (.Constant (.int 0) j1 p4) pos') X.env]›)
  (V:∀v,assign (.Subscript (.Name x p1) (.Constant (.int 0) j1 p4) pos') X.env v=(do
let g <- holding [v] (eval (.Name x p1) X.env)
let iv <- holding [v,g] (eval (.Constant (.int 0) j1 p4) X.env)
standAt pos'
holding [v,g,iv] (setItem g iv v)
release [v,g,iv] []):=by intro _;rfl):
  QPS X K (.Assign [.Subscript (.Name x p1) (.Constant (.int 0) j1 p4) pos'] (.BinOp (.Subscript (.Name x p3) (.Constant (.int 0) j2 P) z) .Sub e q) pos) (kz (tOp RQ (tOp Kv (b8 i) (tC (.int 0))) te) (Mz (b8 i) (tC (.int 0)) Ko)) (DS i qe):=
 (zX (c6 D5 (BE Gf Q bV (λ_ _=>rfl)) he.h) (Lu ho bV Kb V) hs hw h1,HH he.s)
end
def T.dof:T->Option (ϓ)
 |.d ks=>Z ks|.fd _ _ ks=>Z ks|.dp _ ks=>Z ks|_=>Y
variable{kvs:Ϗ}{neg:Bool}{td:TE}
section
variable{X:Cx}{K:Ch}{v:V}{F:Θ}{a b c e:EQ}{ta tb tk tx te:TE}{qa qb qk qx qe:QE}{pos apos aZ:Pos}
theorem aJ.dof{t:T}{ks:ϓ}(h:aJ K dl H v t F)(e:t.dof=Z ks):∃a vs G,v=.ref a/\Rd H a (.dK vs)/\bo K dl H vs ks G/\∀b∈G,b∈F:=by
 cases t with
 |d g =>
  cases e;let(a,vs,G,U,U,h1,h2):=h.dic;exact(a,vs,G,U,.inl h1,h2,λ_ q=>j6 _ q)
 |fd o vs g =>
  cases e;let(a,U,U,h1,h2):=h.Y1;exact(a,vs,[],U,.inr (_,h1),h2,λ_ q=>q)
 |dp a g =>
  cases e;let(vs,G,U,U,h1,h2):=h.dpp;exact(a,vs,G,U,.inl h1,h2,λ_ q=>j6 _ q)
 |_=>cases e
def jt.rd{a:J}{k:Key}(e:Rd H a (.dK kvs)):jt H a (kV k) (gZ kvs k):=.inl (kvs,k,e,U,U)
def RV(neg:Bool):Q2:=λt u Q=>match u.dof with
 |some ks=>match t.key with|some k=>Q (.b (if neg then !(cL ks k).isSome else(cL ks k).isSome))|none=>False
 |none=>False
def uS:df K (TX neg) (RV neg):=by
 intro dl H x y t u F G Q R D r1 V hq k;unfold RV at hq;split at hq
 ·rename_i ks P;split at hq
  ·rename_i k0 ek;let(p,vs,G,U,h1,h2,_):=V.r.dof P;rw[r1.r.key ek];refine(p,_,U,jt.rd h1,k _ _ [] H (.refl D) (.c (.b _)) nofun ot ?_);have e:(gZ vs k0).isSome=(cL ks k0).isSome:=by
    obtain⟨q,g⟩|⟨_,_,_,q,g,_⟩:=h2.look k0
    ·rw[q,g];rfl
    rw[q,g];rfl
   rw[e];exact hq
  exact hq.elim
 exact hq.elim
def sD:Q2:=λt u Q=>match t.dof with
 |some ks=>match u.key with|some k=>Ex2 (λx=>cL ks k=Z x) Q|none=>False
 |none=>False
inductive Kw(x:V)(y:V)(H:Hp)(Q:VK):Prop
 |mk(a kvs k v:_)(h1:x=.ref a)(h2:y=kV k)(h3:Rd H a (.dK kvs))(h4:gZ kvs k=Z v)(h5:Q v H)
def Mh:IxR X Kw:=by intro value slice gd s σ H x y v u Q I P K h hs;let(a,kvs,k,w,U,U,V,hv,q):=h;cases P;let(z,hd,vs,rel,dd):=mI I.hok V;let(w',hw,g):=my.some_of (by rw[<- hv];exact rel.val k);exact subscriptTail_builtinR dd.typeIs PySem.F.slot_dict_getitem.lookup (wpAny_getItem_of (ph K) dd.mapOf hw (U,w,H,I.tok _,g,q)) hs
def J1:Ng K Kw sD:=by
 intro dl H x y t u F G Q R D r1 r2 hq k;unfold sD at hq;split at hq
 ·rename_i ks P;split at hq
  ·rename_i k0 ek;let(z,g,hq):=hq;let(p,vs,G,U,h1,h2,sub):=r1.r.dof P;rw[r2.r.key ek];obtain⟨q,V⟩|⟨t',v,G',q,V,z3,z4⟩:=h2.look k0
   ·rw[q]at g;cases g
   rw[q]at g;cases g;exact(p,vs,k0,v,U,U,h1,V,k v _ G' H (.refl D) (Rp.sub z3 r1.n λb hb=>sub b (z4 b hb)) hq)
  exact hq.elim
 exact hq.elim
def gw(q:QPE X K a ta qa)(g:QPE X K b tb qb)(hs:pW b:=by intro _ _;rfl):QPE X K (.Subscript a b pos) (tOp Kw ta tb) (qOp sD qa qb):=(BE Mh q.h g.h hs,zt J1 q.s g.s)
def WO(g qk qx:QE):QE:=λq Q=>g q λd=>match d.dof with
 |some ks=>qk q λu=>match u.key with|some k=>qx q λx=>Q ((cL ks k).getD x)|none=>False
 |none=>False
def OV{d f:EQ}{qd:QE}(hu:X.A.units+1<cLine)(hd:QPE X K d td qd)(hk:QPE X K e tk qk)(hx:QPE X K f tx qx)(m:M2 X d "get" apos e f aZ:=by exact(U,U,U,U)):QPE X K (.Call (.Attribute d "get" apos) [e,f] [] aZ) (JR td tk tx) (WO qd qk qx):=
 (Lx hu hd.h hk.h hx.h m,λdl H σ q Q R rd hq k=>hd.s dl H σ q _ _ rd hq λv t F H1 e1 r1 hq=>by
  split at hq
  ·rename_i ks g;let(p,vs,G,U,h1,h2,sub):=r1.r.dof g;refine(p,U,.inl (vs,h1),hk.s dl H1 σ q _ _ (rd.evo e1) hq λy u F2 H2 P r2 hq=>?_);split at hq
   ·rename_i k0 ek;refine hx.s dl H2 σ q _ _ ((rd.evo e1).evo P) hq λz w F3 H3 e3 r3 hq=>?_;have rp:=(r1.evo e1.d P).evo P.d e3;let(p',aF,G',e',ar,ak,Oc):=rp.r.dof g;cases e';rw[r2.r.key ek];refine(_,jt.rd ar,?_);obtain⟨z1,V⟩|⟨t,v,G2,z1,V,z3,z4⟩:=ak.look k0
    ·rw[V];rw[z1]at hq;exact k _ _ F3 H3 ((e1.trans P).trans e3) r3 hq
    rw[V];rw[z1]at hq;exact k _ _ G2 H3 ((e1.trans P).trans e3) (Rp.sub z3 rp.n λb hb=>Oc b (z4 b hb)) hq
   exact hq.elim
  exact hq.elim)
inductive yw(xs:Ω)(H:Hp)(Q:VK):Prop
 |mk(p:J)(kvs:Ϗ)(h1:xs=[.ref p])(h2:Rd H p (.dK kvs))(h3:∀d,H d=Y->Q (.ref d) (upd H d (.dK kvs)))
theorem fA:dM X (.type "dict") yw:=by
 intro gd s σ H xs us Q I r h;let(p,kvs,U,hp,q):=h;let(u,U,ru):=vals1 r;cases ru;let(z,V,vs,kv,dd):=mI I.hok hp;refine callType_codes (Q₁:=λobj g=>obj=.ref s.heap.objs.size/\g={s with heap:=s.heap.push {cls:=.type "dict",data:=.dict #[]}}) F.kt_called_dict (F.kt_typeCall_dict_1 _) F.entry_dict_init (kt_code_dict_new _ (U,U)) ?_;rintro obj g ⟨rfl,rfl⟩;have EI:(s.heap.push {cls:=.type "dict",data:=.dict #[]}).DictOf (bN X.prog X.w) s.heap.objs.size []:=Heap.DictOf.new s.heap;have ar:p<s.heap.objs.size:=by let(o,_,_,e,_):=dd;exact kf e
 have dd':(s.heap.push {cls:=.type "dict",data:=.dict #[]}).DictOf (bN X.prog X.w) p vs:=by let(o,es,ep,e,r):=dd;exact(o,es,ep,gi _ e,r)
 have P:(vs.map (·.1)).Nodup:=by let(o,es,ep,_,_,_,_,_,n):=dd;exact n
 have aK:=Paired.length kv;refine(EI.typeIs,F.args_dict_init_2 _ _,?_);refine eB ?_;refine eB (wpAny_notOrdered_dict EI.typeIs ?_);refine nT ?_;refine eB (Yc dd'.typeIs (eB (eB (eB (ZV dd'.typeIs isSubtype_dict_dict (eB (ZL dd'.typeIs F.slot_dict_iter.lookup (nT (wpAny_mergeDict (Fq ar) V EI dd' λh' K aF ak=>?_)))))))));rw[merged_nil_of_nodup _ P]at K;refine eB (nT (nT (U,.ref s.heap.objs.size,_,I.laid (λb u e=>?_) (mz _) (vY z ?_ kv K),U,q _ (I.hok.fresh (mz _)))))
 ·rw[ak.2 b (uj (kf e))];exact gi _ e
 have:=I.big;exact beq_eq_false_iff_ne.mpr (Fq this)
def qV:QC:=λts Q=>match ts with
 |[t]=>match t.dof with|some ks=>T.imk ks=O/\Q (.d ks)|none=>False
 |_=>False
def gu:yc K yw qV:=by
 intro dl H vs ts F Q R D r hq k;unfold qV at hq;split at hq
 ·split at hq
  ·rename_i ks q;let(v,U,P):=r.one;let(p,kvs,G,U,h1,h2,sub):=P.r.dof q;obtain rfl:=h2.im hq.1;refine(p,kvs,U,h1,λd hd=>?_);have ev:Evo dl H (upd H d (.dK kvs)):=(Evo.refl D).new hd;exact k _ _ [d] _ ev (.d ax (h2.dO (ev.tf D) (λ_ z=>z) nofun),λb g=>by rw[fy.mp g];exact D.nd0 hd) (λb g=>by rw[fy.mp g];exact hd) ba hq.2
  exact hq.elim
 exact hq.elim
def RK(te:TE):TE:=λσ H Q=>te σ H λv H1=>∃a kvs,v=.ref a/\H1 a=Z (.dK kvs)/\∀o,Q v (upd H1 a (.frz o (.dK kvs)))
def Pp(he:PE X e te):PE X e (RK te):=by left;refine thn (he gd s σ H _ I h) λu s' g=>?_;let(v,H',P,r,a,kvs,e1,z,q):=g;let(_,o,K):=P.freeze z;exact(v,_,K,r,q o)
def WQ(qe:QE):QE:=λq Q=>qe q λt=>match t with|.d ks=>T.imk ks=O/\∀o vs,Q (.fd o vs ks)|_=>False
def TF.XO{p:J}{kv:Ϗ}{o:Obj}{u:HO}(hp:H p=Z (.dK kv)):TF H (upd H p (.frz o u)):=
 have ne:∀{a:J}{o:HO},H a=Z o->(∀kv,o ≠ .dK kv)->a≠p:=λh n e=>by rw[e,hp]at h;exact n _ (Option.some.inj h).symm
 (λa vs h=>by rw[au (ne h nofun)];exact h,λa o u h=>by rw[au (ne h nofun)];exact h,λa φ h=>by rw[au (ne h nofun)];exact h,λa xs h=>(xs,by rw[au (ne h nofun)];exact h),λa x h=>(x,RE _,by rw[au (ne h nofun)];exact h))
def zS(he:QPF X K e te qe):QPF X K e (RK te) (WQ qe):=(Pp he.h,λdl H σ q Q R rd hq k=>he.s dl H σ q _ _ rd hq λv t F H1 e1 P f1 V g=>by
 split at g
 ·rename_i ks;let(p,vs,G,U,U,h1,h2):=P.r.dic;obtain rfl:=h2.im g.1;exact(p,vs,U,h1,λo=>k _ (.fd o vs ks) [] _ (e1.fresh (f1 p j4) (P.n p j4)) (.fd ax (h2.dO (TF.XO h1) (λ_ z=>z) nofun),nofun) nofun ot (g.2 o vs))
 exact g.elim)
end
section
variable{X:Cx}{K:Ch}{st:Fa}{t:TS}{qt:QS}
inductive JP(i:Nat)(t:TS)(D:Ends)(σ:St)(H:Hp):Prop
 |mk(a kvs:_)(h1:σ[i]?=Z (Z (.ref a)))(h2:H a=Z (.dK kvs))(h3:∀o,t D σ (upd H a (.frz o (.dK kvs))))
def Uv{i:Nat}(h:PS X st t):PS X st (JP i t):=by intro gd s σ H D I z;let(a,kvs,_,g,k):=z;let(_,o,q):=I.freeze g;exact h gd s σ _ D q (k o)
def K5(i:Nat)(qt:QS):QS:=λD q=>match q[i]? with|some (.o (.d ks))=>T.imk ks=O/\∀o vs,qt D (q.set i (.o (.fd o vs ks)))|_=>False
theorem Rel.frz{hs:List (V×T)}{σ:St}{F:Nat->Θ}{i:Nat}{vs:Ϗ}{ks:ϓ}{o:Obj}(r:Rel K dl bi hs H σ q F)(ei:q[i]?=Z (.o (.d ks)))(hv:σ[i]?=Z (Z (.ref a)))(eF:F i=[a])(rp:Rp K dl H (.ref a) (.d ks) (F i))(h1:H a=Z (.dK vs))(h2:bo K dl H vs ks []):gD K dl bi hs (upd H a (.frz o (.dK vs))) σ (q.set i (.o (.fd o vs ks))):=by
 refine(Bi F i [],?_);have tf:=TF.XO (o:=o) (u:=.dK vs) h1;have na:=rp.n a (by rw[eF];exact j4);let(o1,o2,o3):=r.o i _ ei;have st:∀{w:V}{u:T}{Fw:Θ},Rp K dl H w u Fw->a ∉ Fw->Rp K dl (upd H a (.frz o (.dK vs))) w u Fw:=λ{w u Fw} h np =>
  (h.r.dO tf (λ_ z=>z) λb P ob e=>(by have n0:b≠a:=λz=>np (by rw[<- z];exact P);rw[au n0];exact e),h.n)
 refine(λd hd=>(r.d d hd).oth (na d hd).1 (na d hd).2,λj x u h3 h4=>?_,λj x h3 h4=>?_,λj Q=>?_,λj u h3=>?_,λp hp=>?_,(λb ob P nb nr=>?_,λb x P=>?_),by simp[r.l])
 ·obtain⟨rfl,rfl,_⟩|⟨ne,h3⟩:=get_set h3
  ·cases h4;exact(_,hv,by rw[bB];exact(.fd ax (h2.dO tf (λ_ z=>z) nofun),nofun))
  let(w,h5,h6):=r.g j x u h3 h4;exact(w,h5,by rw[a7 ne];exact st h6 (o3 j ne a (by rw[eF];exact j4)))
 ·obtain⟨rfl,rfl,_⟩|⟨ne,h3⟩:=get_set h3
  ·cases h4
  rw[a7 ne];exact r.n j x h3 h4
 ·rw[Xo]at Q;by_cases e:j=i
  ·rw[e,bB]
  rw[a7 e];exact r.z j Q
 ·obtain⟨rfl,e,_⟩|⟨ne,h3⟩:=get_set h3
  ·rw[bB];exact(ot,λ_ z=>absurd z xQ,λ_ _ _ z=>absurd z xQ)
  rw[a7 ne];let(p1,p2,p3):=r.o j u h3;refine(p1,p2,λk hk b P=>?_);by_cases ek:k=i
  ·rw[ek,bB];exact xQ
  rw[a7 ek];exact p3 k hk b P
 ·let(Fp,h3,h4):=r.h p hp;refine(Fp,st h3 (h4 i _ ei a (by rw[eF];exact j4)),λj u Q b P z=>?_);obtain⟨rfl,e,_⟩|⟨ne,Q⟩:=get_set Q
  ·rw[bB]at P;cases P
  rw[a7 ne]at P;exact h4 j u Q b P z
 ·have n0:b≠a:=λz=>by rw[z,o2 a (by rw[eF];exact j4)]at P;cases P
  rw[au n0];exact r.f.k b ob P nb nr
 have n0:b≠a:=λz=>by rw[z,o2 a (by rw[eF];exact j4)]at P;cases P
 rw[au n0];exact r.f.r b x P
def J6{i:Nat}(h:nP K t qt):nP K (JP i t) (K5 i qt):=λdl bi hs H σ q Dq D (F,r) hq E=>by
 unfold K5 at hq;split at hq
 ·rename_i ks P;let(v,hv,z):=r.g i _ _ P U;let(a,vs,G,U,Q,h1,h2):=z.r.dic;obtain rfl:=h2.im hq.1;exact(a,vs,hv,h1,λo=>h dl bi hs _ σ _ Dq D (r.frz P hv Q z h1 h2) (hq.2 o vs) E)
 exact hq.elim
def zO{i:Nat}(h:QPS X K st t qt):QPS X K st (JP i t) (K5 i qt):=(Uv h.h,J6 h.s)
end
section
variable{X:Cx}{σ:St}{s:ϋ}{u1 u2 v1 v2:HO}{fs:List (Str×V)}
def Inv.Kk(I:Inv X gd σ H s)(ne:d≠a)(V:H a=Z v1)(hd:H d=Z v2)(t1:∀xs,v1 ≠ .tup xs)(t2:∀xs,v2 ≠ .tup xs)(b1:∀ps,v1 ≠ .tbl ps)(b2:∀ps,v2 ≠ .tbl ps)(z1:∀o v,v1 ≠ .frz o v)(z2:∀o v,v2 ≠ .frz o v)(w1:∀c,v1 ≠ .own c)(w2:∀c,v2=.own c->c=a)
  (YA:cz X.prog X.w (upd (upd H a u1) d u2) s.heap a u1) (Yz:cz X.prog X.w (upd (upd H a u1) d u2) s.heap d u2):Inv X gd σ (upd (upd H a u1) d u2) s:=by
 have g:∀{b:J}{o:HO},H b=Z o->o≠v1->b≠a:=λe n z=>by rw[z,V]at e;exact n (Option.some.inj e).symm
 have K:∀{b:J}{o:HO},H b=Z o->o≠v2->b≠d:=λe n z=>by rw[z,hd]at e;exact n (Option.some.inj e).symm
 have n0:∀{b:J},H b=Y->b≠a/\b≠d:=λ{b} e=>(λz=>(by rw[z,V]at e;cases e),λz=>(by rw[z,hd]at e;cases e));have st:∀{b:J},b≠a->b≠d->upd (upd H a u1) d u2 b=H b:=λh1 h2=>by rw[au h2,au h1]
 refine(I.ok,I.os,I.bare,(I.base.keep,I.base.slot,λb o e n hx=>?_,I.base.there,λb xs e=>?_,λb o v e=>?_,λb ps e=>?_),I.loc,I.cell,?_,λx c e=>?_,λp hp=>?_,λb o e=>?_,I.len)
 ·have:=I.base.free b o e n hx;rw[st (n0 this).1 (n0 this).2];exact this
 ·have:=I.base.n8 b xs e;rw[st (g this λz=>t1 _ z.symm) (K this λz=>t2 _ z.symm)];exact this
 ·have:=I.base.kC b o v e;rw[st (g this λz=>z1 _ _ z.symm) (K this λz=>z2 _ _ z.symm)];exact this
 ·let(more,this):=I.base.og b ps e;refine(more,?_);rw[st (g this λz=>b1 _ z.symm) (K this λz=>b2 _ z.symm)];exact this
 ·rw[st (n0 I.free).1 (n0 I.free).2];exact I.free
 ·rw[st (n0 (I.eJ x c e)).1 (n0 (I.eJ x c e)).2];exact I.eJ x c e
 ·let(p1,p2,p3):=I.pin p hp;exact(p1,by rw[st (n0 p2).1 (n0 p2).2];exact p2,p3)
 by_cases P:b=d
 ·subst P;rw[ax]at e;cases e;exact Yz
 by_cases Q:b=a
 ·subst Q;rw[au P,ax]at e;cases e;exact YA
 rw[st Q P]at e;refine(I.hok b o e).dO (λ_ _ _ q=>q) (λc q=>?_) λc xs q=>?_
 ·rw[st (g q λz=>w1 _ z.symm) (λz=>by rw[z,hd]at q;exact Q (w2 b (Option.some.inj q)))];exact q
 rw[st (g q λz=>t1 _ z.symm) (K q λz=>t2 _ z.symm)];exact q
def Inv.Wn(I:Inv X gd σ H s)(g:H a=Z (.ins C d fs)):d≠a/\fs.length<=1000/\H d=Z (.own a)/\Inv X gd σ (upd (upd H a (.ext (AW a C d))) d (.ext (XD d fs))) s:=by
 let(hd,hl,ne,e,mA,n,r,w):=(I.hok a _ g);exact(ne,hl,hd,I.Kk ne g hd nofun nofun nofun nofun (λ_ _ z=>nomatch z) (λ_ _ z=>nomatch z) nofun (λc z=>by cases z;rfl)
(e,(_,e),λh1 h2 p k=>k _ p) (XD.ok (mA,n,r,w)))
def Inv.Ys(I:Inv X gd σ H s)(ne:d≠a)(hl:fs.length<=1000)(g:H a=Z (.ext (AW a C d)))(hd:H d=Z (.ext (XD d fs))):Inv X gd σ (upd (upd H a (.ins C d fs)) d (.own a)) s:=by have e:=(I.hok a _ g).1;let(mA,n,r,w):=(I.hok d _ hd).1;refine I.Kk ne g hd nofun nofun nofun nofun (λ_ _ z=>nomatch z) (λ_ _ z=>nomatch z) nofun (λc z=>nomatch z) (ax,hl,ne,e,mA,n,r,w) ?_;let(o,_,_,q,_):=n;exact(o,q)
end
variable{prs:Γ}
section
variable{X:Cx}{K:Ch}{e:EQ}{es:List EQ}{te:TE}{qe:QE}{tl:TA}{ql:QA}{pos p:Pos}{f:Str}
def RM(K:Ch)(ta:TE)(f:Str):TE:=λσ H Q=>ta σ H λx H1=>∃a C fs v,x=.ref a/\ObH H1 a C fs/\fs.length<=1000/\Cls K C/\b7 K C f/\fs.lookup f=Z v/\Q v H1
def Pr(he:PE X e te)(hb:attributeBase e f X.env (eval e X.env)=eval e X.env):PE X (.Attribute e f pos) (RM X.K te f):=by
 left;refine Q9 hb (thn (he gd s σ H _ I h) λu s1 z=>?_);let(x,H1,I1,rx,a,C,fs,v,ex,(dx,ne,h1,h2),hl,c,n,l,q):=z;subst ex;obtain rfl:=rx;refine EN (I1.Ys ne hl h1 h2) (by rw[au ne.symm,ax]) c n l λu' s2 I2 ru=>(v,H1,?_,ru,q);let(_,_,_,V):=I2.Wn (by rw[au ne.symm,ax]);have e:upd (upd (upd (upd H1 a (.ins C dx fs)) dx (.own a)) a (.ext (AW a C dx))) dx (.ext (XD dx fs))=H1:=by
  funext b;by_cases g:b=dx
  ·rw[g,ax,h2]
  by_cases P:b=a
  ·rw[au g,P,ax,h1]
  rw[au g,au P,au g,au P]
 rw[e]at V;exact V
def WT(C:J)(f:Str)(qe:QE):QE:=λq Q=>qe q λt=>match t with|.ob C' ns ts=>C'=C/\ns.length<=1000/\Ex2 (λx=>(ns.zip ts).lookup f=Z x) Q|_=>False
def bz(hc:Cls K C)(hn:b7 K C f)(he:QPE X K e te qe)(z:‹attributeBase e f X.env (eval e X.env)=eval e X.env›)(hK:‹X.K=K›):QPE X K (.Attribute e f pos) (RM K te f) (WT C f qe):=(by subst hK;exact Pr he.h z,λdl H σ q Q R rd hq k=>he.s dl H σ q _ _ rd hq λv t F H1 e1 V g=>by
 split at g
 ·let(U,hl,x,hx,g):=g;let(a,vs,U,U,ho,rs):=V.r.obj;let(w,G,e2,P,s2):=rs.lookup hx;refine(a,_,_,w,U,ho,?_,hc,hn,e2,k _ _ G H1 e1 (P,λb z=>nomatch s2 b z) g);rw[Zt];exact tY (Nat.min_le_left _ _) hl
 exact g.elim)
inductive zr(C:J)(ns:Γ)(vs:Ω)(H:Hp)(Q:VK)(_:XK):Prop
 |mk(x dx args:_)(h1:vs=.ref x::args)(h2:args.length=ns.length)(h3:H x=Z (.ins C dx []))(h4:Q .non (upd H x (.ins C dx (ns.zip args))))
def JO(C:J)(ns:Γ)(t:TA):TE:=λσ H Q=>t σ H λvs H1=>vs.length=ns.length/\∀x dx,H1 x=Y->H1 dx=Y->dx≠x->Q (.ref x) (upd (upd H1 x (.ext (AW x C dx))) dx (.ext (XD dx (ns.zip vs))))
theorem Lw{g:J}{k:Nat}(M:Mk X.K C g)(G:aP X.prog X.w X.K X.mg X.base CX0 k g fd prs (zr C ns))(hr:dI (k+1) X.A)(hg:Gl X x)(hm:X.mg x=Z (.ref C))(hb:Binds X.K fd prs [])(ha:PA X (e::es) tl)
  (ak:autoParam (AT x) zdc._auto_1) (he:‹AD X e es›) (V:‹AS X pos es›):
  PE X (.Call (.Name x p) (e::es) [] pos) (JO C ns tl):=by
 left;refine RA (l9 I hg hm (W.callWith_K I.ok.mod.kin M.kp (thn (ha pos gd s σ H _ I h) λus s1 (vs,H1,I1,r,q)=>(I1.kIn,(thn (Kj (Q:=λv H2=>∃a dx fs,v=.ref a/\H2 a=Z (.ins C dx fs)/\Q v (upd (upd H2 a (.ext (AW a C dx))) dx (.ext (XD dx fs)))) M G hr hb .nil FX I1 r λx dx hx hd ne=>(x,dx,vs,ba,q.1,ax,U,x,dx,ns.zip vs,U,ax,?_)) λu s' (v,H',I',rv,a,dx,fs,e1,e2,qq)=>?_))) he V) ak)
 ·have e:upd (upd (upd (upd (upd H1 dx (.own x)) x (.ins C dx [])) x (.ins C dx (ns.zip vs))) x (.ext (AW x C dx))) dx (.ext (XD dx (ns.zip vs)))=upd (upd H1 x (.ext (AW x C dx))) dx (.ext (XD dx (ns.zip vs))):=by
   funext b;by_cases z:b=dx
   ·rw[z,ax,ax]
   by_cases P:b=x
   ·rw[au z,au z,P,ax,ax]
   rw[au z,au P,au P,au P,au z,au z,au P]
  rw[e];exact q.2 x dx hx hd ne
 let(_,_,_,I2):=I'.Wn e2;exact(v,_,I2,rv,qq)
def Uj(C:J)(ns:Γ)(ql:QA):QE:=λq Q=>ql q λts=>T.ims ts=O/\ts.length=ns.length/\Q (.ob C ns ts)
def i4{g:J}{k:Nat}(hK:X.K=K)(M:Mk K C g)(G:aP X.prog X.w X.K X.mg X.base CX0 k g fd prs (zr C ns))(hr:dI (k+1) X.A)(hg:Gl X x)(hm:X.mg x=Z (.ref C))(hb:Binds X.K fd prs [])(ha:QPA X K (e::es) tl ql)
  (ak:autoParam (AT x) zdc._auto_1) (he:‹AD X e es›) (V:‹AS X pos es›):
  QPF X K (.Call (.Name x p) (e::es) [] pos) (JO C ns tl) (Uj C ns ql):=by
 subst hK;refine(Lw M G hr hg hm hb ha.h ak he V,λdl H σ q Q R rd hq k=>ha.s dl H σ q _ _ rd hq λvs ts F H1 e1 P _ hz=>?_);let(z1,z2,z3):=hz;obtain rfl:=P.r.im z1;refine(P.r.len.trans z2,λx dx hx hd ne=>?_);have ev:Evo dl H1 (upd (upd H1 x (.ext (AW x C dx))) dx (.ext (XD dx (ns.zip vs)))):=((Evo.refl e1.d).new hx).new (by rw[au ne];exact hd);have r2:=P.evo e1.d ev;exact k _ _ [] _ (e1.trans ev) (.ob (dx,ne,by rw[au ne.symm,ax],ax) r2.r,nofun) nofun ot z3
end
variable{tg:EQ}{e:EQ}{g:Tg}
section
variable{X:Cx}{K:Ch}
inductive Kr(K:Ch)(x:V)(y:V)(H:Hp)(Q:VK):Prop
 |mk(p q vs:_)(h1:x=.ref p)(h2:y=.ref q)(h3:SqL K H p vs)(h4:SqL K H q [])(h5:Q (.bl (!vs.isEmpty)) H)
def BJ(hu:X.A.units+1<cLine)(hK:X.K=K):OpR X (compareOp .NotEq) (Kr K):=by
 subst hK;intro gd s σ H x y v u Q I V P h;let(p,q,vs,U,U,h1,h2,k):=h;cases V;cases P;let(its,r1,p1,_):=I.list h1;let(z,g,p2,_):=I.list h2;have l1:=r1.length;have l2:=g.length;have e2:z.length=0:=l2.symm;by_cases hl:its.length=z.length
 ·refine SeqAt.RcNeAt.lists (e:=λ_=>O) p1.isList p2.isList (hl:) bd (λj g1 g2=>?_) X.prog X.w X.xe _ (.bl _,H,I,U,?_)
  ·let(a,ea,ra):=g.at' g2;simp at ea
  have e:vs=[]:=uG.mp bd;subst e;have e3:its.toArray.size=0:=by simp;exact uG.mp bd
  rw[e3];exact k
 refine SeqAt.RcNeAt.lists_lengths p1.isList p2.isList (hl:) bd X.prog X.w X.xe _ (.bl _,H,I,U,?_);cases vs with|nil=>exact absurd l1.symm (by rw[<- l2]at hl;exact hl)|cons _ _=>exact k
def KZ:Q2:=λt u Q=>match t,u with|.l xs,.l []=>Q (.b (!xs.isEmpty))|_,_=>False
def yp:df K (Kr K) KZ:=by
 intro dl H x y t u F G Q R D P q hq k;unfold KZ at hq;cases t with
 |l xs =>
  cases u with
  |l ys =>
   cases ys with
   |nil =>
    let(p,vs,G1,U,U,h1,h2):=P.r.lst;let(V,g,G2,U,U,h3,h4):=q.r.lst;cases h4;refine(p,V,vs,U,U,SqL.of h1,SqL.of h3,k _ _ [] H (.refl D) (.c (.b _)) nofun ot ?_);have e:vs.isEmpty=xs.isEmpty:=by have:=h2.len;cases vs <;> cases xs <;> simp at this ⊢
    rw[e];exact hq
   |cons _ _=>exact hq.elim
  |_=>exact hq.elim
 |_=>exact hq.elim
def W4{q g:TI}(h1:PI X tg e q)(h2:PI X tg e g):PI X tg e (λσ H R=>q σ H R\/g σ H R):=by
 intro gd s σ H R I h;obtain h|h:=h
 ·exact h1 gd s σ H R I h
 exact h2 gd s σ H R I h
def asP(i:Nat):QJ:=λq Q=>match q[i]? with|some (.r (.l xs))=>Q xs q|some (.r (.t xs))=>Q xs q|_=>False
def T5{i:Nat}(h:PE X e (b8 i))(hK:‹X.K=K›):QPJ X K tg e (λσ H R=>yF K (b8 i) σ H R\/Mj K (b8 i) σ H R) (asP i):=(W4 (oO hK h) (z7 hK h),λdl bi hs H σ q Q R (F0,P) hq k=>by
 have hold:∀{t:T}{v:V},q[i]?=Z (.r t)->Rp K dl H v t (F0 i)->Rel K dl bi ((v,t)::hs) H σ q F0:=λ{t v} e r=>P.hold r λj u hj b hb=>by
  have ne:i≠j:=λz=>by rw[z,hj]at e;cases e
  exact(P.o j u hj).2.2 i ne b hb
 unfold asP at hq;split at hq
 ·rename_i xs e1;let(v,hv,r):=P.g i _ _ e1 U;have r1:=hold e1 r;let(p,vs,G,U,_,h1,h2):=r.r.lst;exact .inl (_,hv,p,U,(vs,SqL.of h1),k _ _ _ H q (F0,r1) pj hq)
 ·rename_i xs e1;let(v,hv,r):=P.g i _ _ e1 U;have r1:=hold e1 r;let(p,vs,U,h1,h2):=r.r.tup;exact .inr (_,hv,p,U,(vs,SqT.of h1),k _ _ _ H q (F0,r1) EB hq)
 exact hq.elim)
def KU(g:Tg)(i:Nat):QS:=λD q=>match q[i]? with|some (.r t)=>Ex2 (λq'=>g.put t q=Z q') D.nx|_=>False
def JX{i:Nat}:nP K (kz (b8 i) (g.h K)) (KU g i):=λdl bi hs H σ q Dq D (F,r) hq E=>by
 unfold KU at hq;split at hq
 ·rename_i t Q;let(q',P,hz):=hq;let(v,hv,rp):=r.g i _ _ Q U;exact(v,hv,DO r rp (λj u V b hb=>(r.o j u V).2.2 i (λz=>by rw[z,V]at Q;cases Q) b hb) P λak r'=>E.nx _ _ _ r' hz)
 exact hq.elim
def zM{i:Nat}{pos:Pos}(he:PE X e (b8 i))(hg:PG X tg (g.h K))(hs:‹swapsWithSole [tg] e pos.line X.env=pure false›)(hw:‹swappedStores [tg] e X.env=pure none›)
  (h1:‹(assignEach [tg] X.env).map (·.2)=[assign tg X.env]›):QPS X K (.Assign [tg] e pos) (kz (b8 i) (g.h K)) (KU g i):=(zX he hg hs hw h1,JX)
def pz{xs:ϑ}:AX K dl (Ite K ϊ a) (jg xs) [(.ref a,.l xs)] where
 go:=λH i D h hi=>by
  let(F,r):=h (.ref a,.l xs) ba;let(p,vs,G,e,_,h1,h2):=r.r.lst;cases e;rw[bC]at hi;have l1:i<vs.length:=by rw[h2.len];omega
  exact(vs,vs[i],SqL.of h1,by simp[l1])
 yld:=λH i x fp v H' D h hx y=>by
  have r:=h (.ref a,.l xs) ba;let(p,vs,G,e,eF,h1,h2):=r.r.lst;cases e;let(x1,V,U):=cT hx;let(w1,G1,ak,Q,ar):=h2.get V;let(q,u1,hq,U,U,P):=y;have e1:=P vs (SqL.of h1);rw[ak]at e1;cases e1;have sub:∀b∈G1,b∈fp (.ref a,.l xs):=λb g=>by rw[eF];exact j6 _ (ar b g)
  have rs:Rps K dl H [.int (i),w1] [.i (i),x1] ([]++(G1++[])):=Rps.cons (.i _,nofun) (Rps.cons (Q,λb g=>r.n b (sub b g)) (.nil,nofun));refine((Evo.refl D).new hq,_,rs.tup D hq,λc g=>.inr ?_);rw[pq]at g;exact(_,ba,sub c g)
 stop:=λH D h=>by
  let(F,r):=h (.ref a,.l xs) ba;let(p,vs,G,e,_,h1,h2):=r.r.lst;cases e;exact(vs,SqL.of h1,by rw[bC,h2.len];exact mz _)
def SJ(i:Nat):QJ:=λq Q=>match q[i]? with|some (.o (.l xs))=>Q (jg xs) (q.set i (.r (.l xs)))|some (.r (.l xs))=>Q (jg xs) q|_=>False
def KL{a:EQ}{x1}{pos p:Pos}{i:Nat}(hg:Gl X "enumerate")(hm:X.mg "enumerate"=Y)(fW:bootBuiltins "enumerate"=Z (.type "enumerate"))(h:PE X a (b8 i))(hs:‹AM X a›)(ak:‹AD X a []›)(hK:‹X.K=K›):
  QPJ X K (.Tuple elts x1 pos') (.Call (.Name "enumerate" p) [a] [] pos) (vT K ϊ (bR (b8 i) gq)) (SJ i):=(kQ hK hg hm fW (bp h cY ak) hs,λdl bi hs H σ q Q R (F0,V) hq k=>by
 unfold SJ at hq;split at hq
 ·rename_i xs e1;let(v,hv,r):=V.g i _ _ e1 U;have r1:=(V.down e1).hold r λj u P b hb=>by
   obtain⟨_,z,_⟩|⟨ne,P⟩:=get_set P
   ·cases z
   exact(V.o j u P).2.2 i (λz=>ne z.symm) b hb
  let(p,vs,G,U,_,h1,h2):=r.r.lst;exact(_,hv,p,U,(vs,SqL.of h1),k _ _ _ H _ (F0,r1) pz hq)
 ·rename_i xs e1;let(v,hv,r):=V.g i _ _ e1 U;have r1:=V.hold r λj u P b hb=>(V.o j u P).2.2 i (λz=>by subst z;rw[e1]at P;cases P) b hb;let(p,vs,G,U,_,h1,h2):=r.r.lst;exact(_,hv,p,U,(vs,SqL.of h1),k _ _ _ H _ (F0,r1) pz hq)
 exact hq.elim)
end
section
variable{X:Cx}{K:Ch}{es:List EQ}{te:TE}{qe:QE}{tx:(St->XK)->TE}{qx:QX}{ts:(St->XK)->TS}{tl:TA}{ql:QA}
abbrev QAX:=Sq->(ϑ->Prop)->QW->Prop
def X8(K:PySem.W.Frag)(n:Nat)(te:(St->XK)->TA)(qx:QAX):Prop:=∀(dl:Dl)(H:Hp)(σ:St)(q:Sq)(Q:ϑ->Prop)(W:QW)(R:Ω->Hp->Prop)(Es:St->XK),RdR K dl H σ q->qx q Q W ->
 (∀vs ts F H',Evo dl H H'->Rps K dl H' vs ts F->vs.length=n->Q ts->R vs H')->(∀a C ns us H',Evo dl H H'->Rp K dl H' (.ref a) (.xc C ns us) []->W C ns us->Es σ (.ref C) (Z a) H')->te Es σ H R
structure Jp(X:Cx)(K:Ch)(es:List EQ)(te:(St->XK)->TA)(qx:QAX):Prop where
 h:∀Es,jY (CX1 X.prog X.w) X Es->PA X es (te Es)
 s:X8 K es.length te qx
variable{ta:(St->XK)->TA}{qa:QAX}
def jD(h:QPA X K es tl ql):Jp X K es (λ_=>tl) (λq Q _=>ql q Q):=(λ_ _=>h.h,λdl H σ q Q _ R _ rd hq k _=>h.s dl H σ q Q R rd hq k)
def e9(he:QPX X K e tx qx)(hr:Jp X K es ta qa)(hs:‹AD X e es›):Jp X K (e::es) (λEs=>bR (tx Es) (ta Es)) (λq Q W=>qx q (λt=>qa q (λts=>Q (t::ts)) W) W):=
 (λEs a=>bp (he.h Es a) (hr.h Es a) hs,λdl H σ q Q W R Es rd hq k V=>he.s dl H σ q _ _ _ Es rd hq (λv t F H1 e1 r1 _ _ hz=>hr.s dl H1 σ q _ _ _ Es (rd.evo e1) hz (λvs ts G H2 g P l2 z=>k _ _ _ H2 (e1.trans g) (.cons (r1.evo e1.d g) P) (by simp[l2]) z) λa C ns us H' g P hw=>V a C ns us H' (e1.trans g) P hw) V)
def bL(he:QPE X K e te qe)(hr:Jp X K es ta qa)(hs:‹AD X e es›):Jp X K (e::es) (λEs=>bR te (ta Es)) (λq Q W=>qe q λt=>qa q (λts=>Q (t::ts)) W):=
 (λEs a=>bp he.h (hr.h Es a) hs,λdl H σ q Q W R Es rd hq k kx=>he.s dl H σ q _ _ rd hq λv t F H1 e1 V hz=>hr.s dl H1 σ q _ _ _ Es (rd.evo e1) hz (λvs ts G H2 g P l2 z=>k _ _ _ H2 (e1.trans g) (.cons (V.evo e1.d g) P) (by simp[l2]) z) λa C ns us H' g P hw=>kx a C ns us H' (e1.trans g) P hw)
end
variable{cs:Θ}
section
variable{X:Cx}{K:Ch}{es:List EQ}{te:TE}{qe:QE}{pos p:Pos}{fn:Γ}{bm:Δ}{ini:Option J}
def tCs:Θ->TA
 |[]=>gq|c::r=>bR (tC (.ref c)) (tCs r)
structure PCs(X:Cx)(K:Ch)(fn:Γ)(es:List EQ)(cs:Θ):Prop where
 h:PA X es (tCs cs)
 c:∀c∈cs,∃bm ini,di K fn c bm ini
 l:cs.length=es.length
def Pw:PCs X K fn [] []:=(cY,nofun,U)
def i8{y:Str}(q:di K fn C bm ini)(hg:Gl X y)(hm:X.mg y=Z (.ref C))(hr:PCs X K fn es cs)(hd:autoParam (AT y) zdc._auto_1)(hs:‹j7 (.Name y p::es) X.env=(ϊ,eval (.Name y p) X.env)::j7 es X.env›):PCs X K fn (.Name y p::es) (C::cs):=
 (bp (BF hg hm hd) hr.h hs,λc g=>(lb.mp g).elim (λz=>z▸(bm,ini,q)) (hr.c c),by simp[hr.l])
def N7{σ:St}{R:Ω->Hp->Prop}:∀{cs:Θ},R (cs.map V.ref) H->tCs cs σ H R:=by intro cs;induction cs generalizing R with|nil=>exact λh=>h|cons c r g=>exact λh=>g (R:=λvs H1=>R (V.ref c::vs) H1) h
theorem Ez(c:di K fn C bm ini):∀{cs:Θ},(∀x∈cs,∃bm ini,di K fn x bm ini)->W.kitAny K (.ref C) (cs.map B.ref)=Z (cs.any λx=>(B.ref C::bm).contains (.ref x)):=by intro cs;induction cs with|nil=>exact λ_=>rfl|cons x r g =>intro h;let(bm',Ar,z):=h x j4;show(match W.kitOne K (.ref C) (.ref x)with|some O=>Z O|some ϊ=>W.kitAny K (.ref C) (r.map B.ref)|none=>Y)=_;rw[Ge c z,GP];cases e:(B.ref C::bm).contains (.ref x)with|true=>rfl|false=>exact g λy q=>h y (j6 _ q)
def Hy:∀{cs:Θ}{us:Δ},Vals (cs.map V.ref) us->us=cs.map B.ref:=by
 intro cs;induction cs with
 |nil=>intro us r;cases r;rfl
 |cons c r g =>intro us h;cases h with|cons h1 h2=>rw[gK h1,g h2];rfl
def Kx(K:Ch)(fn:Γ)(cs:Θ):Ω->Hp->VK->Prop:=λxs H Q=>∃a C b fs bm ini tp,xs=[.ref a,.ref tp]/\ExH H a C b fs/\di K fn C bm ini/\H tp=Z (.tup (cs.map V.ref))/\(∀c∈cs,∃bm ini,di K fn c bm ini)/\Q (.bl (cs.any λx=>(B.ref C::bm).contains (.ref x))) H
theorem Jf:dM X (.builtin "isinstance") (Kx X.K fn cs):=by intro gd s σ H xs us Q I r h;let(a,C,b,fs,bm,ini,tp,U,ex,g,ht,hc,q):=h;cases r with|cons h1 V =>cases V with|cons h2 P =>cases P;cases(gK h1);cases(gK h2);let(_,its,hv,hi):=I.hok tp _ ht;have e:=Hy hv;subst e;let(((oc,od,ak,osl),h3,h4,n,h5),_):=hi;cases h4;cases h5;exact W.kia_tup (B7 g) I.kIn (ex.cls I.hok) h3 (Ez g hc) (λz=>nomatch z) λtk=>(.bl _,H,I.tok tk,U,q)
def K3(K:Ch)(fn:Γ)(cs:Θ)(qe:QE):QE:=λq Q=>qe q λt=>match t with|.xc C _ _=>∃bm ini,di K fn C bm ini/\Q (.b (cs.any λx=>(B.ref C::bm).contains (.ref x)))|_=>False
def J3(hc:∀c∈cs,∃bm ini,di K fn c bm ini)(hl:cs.length<=1000)(h:iQ K te qe):jX K (tCB (Kx K fn cs) (bR te (bR (JM (tCs cs)) gq))) (K3 K fn cs qe):=by
 intro dl H σ q Q R rd hq k;refine h dl H σ q _ _ rd hq λv t F H1 e1 r1 g=>?_;split at g
 ·let(bm,ini,cx,g):=g;refine N7 (v5 (aG (by rw[dN];exact hl)),λp hp=>?_);have ev:=(Evo.refl e1.d).new (o:=.tup (cs.map V.ref)) hp;have P:=r1.evo e1.d ev;let(a,b,vs,U,U,ex,rs):=P.r.exc;exact(a,_,b,_,bm,ini,p,U,ex,cx,ax,hc,k _ _ [] _ (e1.trans ev) (.b _,nofun) nofun ot g)
 exact g.elim
def OU{x1}(P:X.K=K)(hg:Gl X "isinstance")(hm:X.mg "isinstance"=Y)(z:PCs X K fn es cs)(h:QPE X K e te qe)(hl:cs.length<=1000:=by simp)
  (he:‹j7 [e,.Tuple es x1 p2] X.env=(ϊ,eval e X.env)::j7 [.Tuple es x1 p2] X.env›) (q:‹j7 [.Tuple es x1 p2] X.env=(ϊ,eval (.Tuple es x1 p2) X.env)::j7 [] X.env›) (g:‹(backTo pos (j7 [.Tuple es x1 p2] X.env)).any (·.1)=false›):
  QPF X K (.Call (.Name "isinstance" p) [e,.Tuple es x1 p2] [] pos) (tCB (Kx K fn cs) (bR te (bR (JM (tCs cs)) gq))) (K3 K fn cs qe):=by
 subst P;exact(i7 Jf hg hm U (bp h.h (bp (DZ z.h) cY q) he) ad ad he g,J3 z.c hl h.s)
end
def Dep:Nat->T->Prop
 | 0,t=>(∃x,t=.s x)\/∃x,t=.i x|n+1,t=>(∃x,t=.s x)\/(∃x,t=.i x)\/∃ts,t=.t ts/\∀x∈ts,Dep n x
theorem Dep.s:Dep n (.s x):=by cases n <;> exact .inl (x,U)
theorem Dep.i{x:Int}:Dep n (.i x):=by
 cases n
 ·exact .inr (x,U)
 exact .inr (.inl (x,U))
theorem Dep.t{ts:ϑ}(h:∀x∈ts,Dep n x):Dep (n+1) (.t ts):=.inr (.inr (ts,U,h))
def Dep.mono{m:Nat}{t:T}(h:Dep n t)(hm:n<=m):Dep m t:=by
 induction n generalizing m t with
 |zero =>
  obtain⟨x,rfl⟩|⟨x,rfl⟩:=h
  ·exact Dep.s
  exact Dep.i
 |succ n g =>
  obtain⟨x,rfl⟩|⟨x,rfl⟩|⟨ts,rfl,h⟩:=h
  ·exact Dep.s
  ·exact Dep.i
  obtain⟨k,rfl⟩:∃k,m=k+1:=(m-1,bd);exact Dep.t λx hx=>g (h x hx) bd
variable{N':Γ}{sc:Scope}{fp:Θ}
section
variable{X:Cx}{K:Ch}{a b:EQ}{es:List EQ}{te ta tb:TE}{qe qa qb:QE}{tl:TA}{ql:QA}{pos p:Pos}{st:Fa}{k k':Nat}{f:J}
structure Dn(K:Ch)(mg:Υ)(x:Str)(st:Fa)(f:J)(fd:Cl)(ps:Γ):Prop where
 F:Fun K x x st f fd
 m:mg x=Z (.ref f)
 b:Binds K fd ps []
def aI{ps:PSp}(F:aP X.prog X.w X.K X.mg X.base CX0 k f fd prs (spQ K ps))(hr:dI k' X.A)(D:Dn X.K X.mg x st f fd prs)(z:QPA X K (e::es) tl ql)(hk:k<=k':=by first|decide|omega)(hg:Gl X x:=by exact U)
  (q:autoParam (AT x) zdc._auto_1) (he:‹AD X e es›) (g:‹AS X pos es›):
  QPF X K (.Call (.Name x p) (e::es) [] pos) (Bd (spQ K ps) [] E0 tl) (fD ps ql):=OX F (hr.mono hk) hg D.m D.F.kp D.b z q he g
def nt{ps:Nh}(F:aP X.prog X.w X.K X.mg X.base (CX1 X.prog X.w) k f fd prs (m7 K ps))(hr:dI k' X.A)(D:Dn X.K X.mg x st f fd prs)(P:QPA X K (e::es) tl ql)(hk:k<=k':=by first|decide|omega)(hg:Gl X x:=by exact U)
  (z:autoParam (AT x) zdc._auto_1) (he:‹AD X e es›) (g:‹AS X pos es›):
  QPX X K (.Call (.Name x p) (e::es) [] pos) (λEs=>Dv (m7 K ps) Es tl) (λq Q W=>ql q λts=>ps ts Q W):=OJ F (hr.mono hk) hg D.m D.F.kp D.b P z he g
def aw:QPA X K [] gq cH:=AV.w ai
def ah{i j}:QPE X K (.Constant (.int i) j pos) (tC (.int i)) (qC (.i i)):=ZB bF
def bq(hm:X.mg "len"=Y)(q:QPA X K (e::es) tl ql)(hg:Gl X "len":=by exact U)(z:X.K=K:=by exact U)
  (he:‹AD X e es›) (g:‹AS X pos es›):QPF X K (.Call (.Name "len" p) (e::es) [] pos) (tCB (Ku K) tl) (qCB Bw ql):=vm (Je z) Ov hg hm bv q ad ad he g
def az(i:Nat)(g:X.N.Nodup)(he:QPF X K e te qe)(hi:‹X.N[i]?=Z x›)(hx:Loc X.env.scope x:=by first|exact .inl rfl|exact .inr U)(hs:‹swapsWith e (Z (.Name x pos')) pos.line X.env=pure false›)(hf:BC X x:=by first|exact .inl rfl|exact .inr rfl|assumption):
  QPS X K (.Assign [.Name x pos'] e pos) (kz te (gS i)) (nu i qe):=T4 g hi hx he hs hf
def br(i:Nat)(g:X.N.Nodup)(hi:‹X.N[i]?=Z x›)(hx:Loc X.env.scope x:=by first|exact .inl rfl|exact .inr U)(hf:BC X x:=by first|exact .inl rfl|exact .inr rfl|assumption):PG X (.Name x pos) (gS i):=oR g hi hx hf
def dh{cl:List (Str×J)}{s₂:ϋ}{H₂:Hp}(i:Nat)(g:N'.Nodup:=by decide +kernel)(hi:‹N'[i]?=Z x›)(hx:Loc (blk X N' sc cl C s₂ H₂ fp).env.scope x:=by first|exact .inl rfl|exact .inr U)(hf:‹(blk X N' sc cl C s₂ H₂ fp).env.scope.names.lookup x=Z .local›):PG (blk X N' sc cl C s₂ H₂ fp) (.Name x pos) (gS i):=oR g hi hx (.inr hf)
def eV{x1 g:Str}{t1 t2:TG}{j:Nat}(h1:PG X (.Name x1 p1) t1)(h2:PG X (.Name g p2) t2)(P:X.K=K:=by exact U)(z:X.calm=true:=by exact U)
  (hn:‹(assignEach [.Name x1 p1,.Name g p2] X.env).length=2›) (q:‹(assignEach [.Name x1 p1,.Name g p2] X.env).findIdx? (·.1)=none›):PG X (.Tuple [.Name x1 p1,.Name g p2] j pos) (QM K 2 (Gm t1 (Gm t2 VC))):=oQ P z (cj h1 (cj h2 oP)) hn q
def bf(g:X.A.units+1<cLine)(z:QPE X K a ta qa)(q:QPE X K b tb qb)(P:X.K=K:=by exact U):QPT X K (.Compare a [.Eq] [b] pos) (ym (tOp (TV K) ta tb)) (eI (qOp DT qa qb)):=bD (D7 g P) zv (bW _) z q
def KG(q:QPE X K a ta qa)(g:QPE X K b tb qb):=bD (pos:=pos) FZ (iz (K:=K) (g':=λi j=>.b (decide (i<j))) λ_ _ _ _=>.b _) (bW _) q g
def RR(q:QPE X K a ta qa)(g:QPE X K b tb qb):=bD (pos:=pos) F5 (iz (K:=K) (g':=λi j=>.b (decide (j<i))) λ_ _ _ _=>.b _) (bW _) q g
end
abbrev NI(K:Ch)(x:Str)(f:J):Prop:=W.nsIn K mainGlobals x=Z (Z (.ref f))
abbrev LK(K:Ch)(f:J)(x q:Str)(st:Fa)(oc:B)(od:Option J)(kV dc pm:B)(an:Option J)(cd ct:B)(sl:Array (Option B)):Prop:=K.lookup f=Z (oc,od,.func (W.fnOf x q (d5 st) (bZ st) (av st) .none kV dc pm an cd ct),sl)
abbrev CI(K:Ch)(cd:B)(x:Str):Prop:=W.codeIn K cd x=O
abbrev KI(K:Ch)(f:J):Prop:=W.keepIn K (.ref f)=O
variable{p3:Str}{p4:Str}
section
variable{K:Ch}{q:Str}{f:J}{st:Fa}{oc kV dc pm cd ct:B}{od an:Option J}{sl:Array (Option B)}
abbrev NB(K:Ch)(x:Str):Prop:=W.nsIn K mainGlobals x=Z Y
inductive DY(K:Ch)(x:Str)(st:Fa)(f:J):Prop
 |mk(n:NI K x f)(fd:Cl)(F:Fun K x x st f fd)
inductive DM(K:Ch)(C:J)(x q:Str)(st:Fa)(f:J):Prop
 |mk(M:Meth K C x f)(fd:Cl)(F:Fun K x q st f fd)
def DY.of(n:NI K x f)(l:LK K f x x st oc od kV dc pm an cd ct sl)(c:CI K cd x)(k:KI K f):DY K x st f:=(n,_,nI l c k)
theorem DM.of(m:W.findIn K (.ref C) x=Z (Z (.ref f)))(l:LK K f x q st oc od kV dc pm an cd ct sl)(c:CI K cd q)(k:KI K f)(i:W.isFn K (.ref f)=O):DM K C x q st f:=((m,i,k),_,nI l c k)
theorem Fun.b1{p1:Str}(F:Fun K x q st f fd)(g:∀kV dc pm an cd ct u1,bindArgs (W.fnOf x q (d5 st) (bZ st) (av st) .none kV dc pm an cd ct) ([u1],[])=pure [(p1,u1)]:=by intros;rfl):Binds K fd [p1] []:=F.binds λkV dc pm an cd ct us hl=>Xk (P:=λus=>bindArgs _ (us,[])=pure (ad9 _ us)) (g kV dc pm an cd ct) us hl
theorem Fun.b2{p1 p2:Str}(F:Fun K x q st f fd)(g:∀kV dc pm an cd ct u1 u2,bindArgs (W.fnOf x q (d5 st) (bZ st) (av st) .none kV dc pm an cd ct) ([u1,u2],[])=pure [(p1,u1),(p2,u2)]:=by intros;rfl):Binds K fd [p1,p2] []:=F.binds λkV dc pm an cd ct us hl=>Xj (P:=λus=>bindArgs _ (us,[])=pure (ad9 _ us)) (g kV dc pm an cd ct) us hl
theorem Fun.b3{p1 p2:Str}(F:Fun K x q st f fd)(z:∀kV dc pm an cd ct u1 u2 g,bindArgs (W.fnOf x q (d5 st) (bZ st) (av st) .none kV dc pm an cd ct) ([u1,u2,g],[])=pure [(p1,u1),(p2,u2),(p3,g)]:=by intros;rfl):Binds K fd [p1,p2,p3] []:=F.binds λkV dc pm an cd ct us hl=>Xi (P:=λus=>bindArgs _ (us,[])=pure (ad9 _ us)) (z kV dc pm an cd ct) us hl
theorem Fun.b4{p1 p2:Str}(F:Fun K x q st f fd)(Q:∀kV dc pm an cd ct u1 u2 z g,bindArgs (W.fnOf x q (d5 st) (bZ st) (av st) .none kV dc pm an cd ct) ([u1,u2,z,g],[])=pure [(p1,u1),(p2,u2),(p3,z),(p4,g)]:=by intros;rfl):Binds K fd [p1,p2,p3,p4] []:=F.binds λkV dc pm an cd ct us hl=>Xh (P:=λus=>bindArgs _ (us,[])=pure (ad9 _ us)) (Q kV dc pm an cd ct) us hl
theorem Fun.b5{p1 p2 V:Str}(F:Fun K x q st f fd)(hb:∀kV dc pm an cd ct u1 u2 Q z g,bindArgs (W.fnOf x q (d5 st) (bZ st) (av st) .none kV dc pm an cd ct) ([u1,u2,Q,z,g],[])=pure [(p1,u1),(p2,u2),(p3,Q),(p4,z),(V,g)]:=by intros;rfl):Binds K fd [p1,p2,p3,p4,V] []:=F.binds λkV dc pm an cd ct us hl=>Xg (P:=λus=>bindArgs _ (us,[])=pure (ad9 _ us)) (hb kV dc pm an cd ct) us hl
end
mutual
def T.pln:T->Bool
 |.n=>O|.b _=>O|.i _=>O|.s _=>O|.t xs=>T.oM xs|.zl xs=>T.oM xs|.fd _ _ ks=>T.UD ks|.fz _=>O|_=>ϊ
def T.oM:ϑ->Bool
 |[]=>O|x::r=>x.pln&&T.oM r
def T.UD:ϓ->Bool
 |[]=>O| (_,x)::r=>x.pln&&T.UD r
end
def nof{A:Prop}(h:ϊ=O):A:=absurd h ri
theorem aJ.plain{K:Ch}{dl:Dl}{H H':Hp}(kt:∀a vs,H a=Z (.tup vs)->H' a=Z (.tup vs))(z:∀a o u,H a=Z (.frz o u)->H' a=Z (.frz o u)){v:V}{t:T}{F:Θ}(h:aJ K dl H v t F):t.pln=O->aJ K dl H' v t F:=
 aJ.rec (motive_2:=λv t F _=>T.oM t=O->aB K dl H' v t F) (motive_3:=λv t F _=>T.UD t=O->bo K dl H' v t F)
  (λ_=>.n) (λx _=>.b x) (λx _=>.i x) (λx _=>.s x) (λ_ h=>nof h) (λh _ g q=>.t (kt _ _ h) (g q)) (λ_ _ _ h=>nof h) (λ_ _ _ h=>nof h) (λ_ h=>nof h) (λ_ h=>nof h) (λ_ h=>nof h) (λh _ g q=>.fd (z _ _ _ h) (g q)) (λ_ h=>nof h) (λ_ _ _ h=>nof h)
  (λ_ _ h=>nof h) (λ_ _ _ h=>nof h) (λ_ _ _ h=>nof h) (λ_ _ _ h=>nof h) (λh _ g q=>.zl (z _ _ _ h) (g q)) (λ_ h=>nof h) (λ_ _ _ _ _ h=>nof h) (λh _=>.fz (z _ _ _ h)) (λ_=>.nil) (λ_ _ i1 i2 q=>.cons (i1 (rX _ _▸q).1) (i2 (rX _ _▸q).2)) (λ_=>.nil) (λ_ _ i1 i2 q=>.cons (i1 (rX _ _▸q).1) (i2 (rX _ _▸q).2)) h
theorem aB.plain{K:Ch}{dl:Dl}{H H':Hp}(kt:∀a vs,H a=Z (.tup vs)->H' a=Z (.tup vs))(g:∀a o u,H a=Z (.frz o u)->H' a=Z (.frz o u)){vs:Ω}{ts:ϑ}{F:Θ}(h:aB K dl H vs ts F):T.oM ts=O->aB K dl H' vs ts F:=
 h.ind (λ_=>.nil) (λ_ _ _ _ _ _ h _ z q=>.cons (h.plain kt g (rX _ _▸q).1) (z (rX _ _▸q).2))
theorem aJ.UE{K:Ch}{v:V}{t:T}{F:Θ}(h:aJ K dl H v t F):t.pln=O->F=[]:=
 aJ.rec (motive_3:=λ_ _ _ _=>True)
  (λ_=>rfl) (λ_ _=>rfl) (λ_ _=>rfl) (λ_ _=>rfl) (λ_ h=>nof h) (λ_ _ g=>g) (λ_ _ _ h=>nof h) (λ_ _ _ h=>nof h) (λ_ h=>nof h) (λ_ h=>nof h) (λ_ h=>nof h) (λ_ _ _ _=>rfl) (λ_ h=>nof h) (λ_ _ _ h=>nof h)
  (λ_ _ h=>nof h) (λ_ _ _ h=>nof h) (λ_ _ _ h=>nof h) (λ_ _ _ h=>nof h) (λ_ _ _ _=>rfl) (λ_ h=>nof h) (λ_ _ _ _ _ h=>nof h) (λ_ _=>rfl) (λ_=>rfl) (λ_ _ i1 i2=>vS i1 i2) trivial (λ_ _ _ _=>trivial) h
theorem aB.UE{K:Ch}{dl:Dl}{H:Hp}{vs:Ω}{ts:ϑ}{F:Θ}(h:aB K dl H vs ts F):T.oM ts=O->F=[]:=h.ind (λ_=>rfl) (λ_ _ _ _ _ _ h _ g=>vS h.UE g)
section
variable{X:Cx}{K:Ch}{σ:St}{s:ϋ}{o:EQ}{te:TE}{qe:QE}
def Inv.QN{xs:Ω}(I:Inv X gd σ H s)(g:H a=Z (.lst xs)):∃o,Inv X gd σ (upd H a (.frz o (.lst xs))) s:=by
 have q:∀o v,X.bi a≠Z (.frz o v):=λo v e=>by
  have:=I.base.kC a o v e;rw[g]at this;cases this
 let(z,its,n,r,e):=(I.hok a _ g);exact(_,I.FJ g nofun nofun nofun q (e,z,its,n,r,e))
def RL(te:TE):TE:=λσ H Q=>te σ H λv H1=>∃a xs,v=.ref a/\H1 a=Z (.lst xs)/\∀o,Q v (upd H1 a (.frz o (.lst xs)))
def Pq(he:PE X e te):PE X e (RL te):=by left;refine thn (he gd s σ H _ I h) λu s' g=>?_;let(v,H',P,r,a,xs,e1,z,q):=g;let(o,K):=P.QN z;exact(v,_,K,r,q o)
def WR(qe:QE):QE:=λq Q=>qe q λt=>match t with|.l ts=>T.oM ts=O/\Q (.zl ts)|_=>False
def oG(he:QPF X K e te qe):QPF X K e (RL te) (WR qe):=(Pq he.h,λdl H σ q Q R rd hq k=>he.s dl H σ q _ _ rd hq λv t F H1 e1 P f1 n1 g=>by
 split at g
 ·let(p,vs,G,U,U,h1,h2):=P.r.lst;obtain rfl:=h2.UE g.1;refine(p,vs,U,h1,λo=>?_);have V:=e1.fresh (o:=.frz o (.lst vs)) (f1 p j4) (P.n p j4);have ne:∀{a:J}{u:HO},H1 a=Z u->(∀xs,u ≠ .lst xs)->a≠p:=λh n z=>by rw[z,h1]at h;exact n _ (Option.some.inj h).symm
  have ts:=h2.plain (H':=upd H1 p (.frz o (.lst vs))) (λa us h=>by rw[au (ne h nofun)];exact h) (λa o u h=>by rw[au (ne h nofun)];exact h) g.1;exact k _ (.zl _) [] _ V (.zl ax ts,nofun) nofun ot g.2
 exact g.elim)
end
end L2
namespace L2
open PySem PySem.Spec PyProof.Rows
section
def kT:Key->T
 |.inl i=>.i i|.inr x=>.s x
end
variable{elts:List EQ}{pos':Pos}
section
variable{X:Cx}{K:Ch}{a b:EQ}{ta:TE}{qa:QE}{pos p:Pos}
def SK(qa:QE):QJ:=λq Q=>qa q λt=>match t with|.l xs=>Q (jg xs) q|_=>False
def Bt{x1}(hm:X.mg "enumerate"=Y)(ha:QPF X K a ta qa)(hg:Gl X "enumerate":=by exact U)(hs:‹AM X a›)(ak:‹AD X a []›)(hK:‹X.K=K›):
  QPJ X K (.Tuple elts x1 pos') (.Call (.Name "enumerate" p) [a] [] pos) (vT K ϊ (bR ta gq)) (SK qa):=(kQ hK hg hm bv (bp ha.h cY ak) hs,λdl bi hs H σ q Q R (F0,P) hq k=>ha.s dl H σ q _ _ P.rd hq λv t F H' e1 r f n V=>by
 split at V
 ·have r1:=(P.evo e1).hold r λj u hj b hb z=>(P.ju hb).no (f b z);let(l1,g,G,U,U,h1,h2):=r.r.lst;exact(l1,U,(g,SqL.of h1),k _ _ _ H' q (F0,r1) pz V)
 exact V.elim)
end
end L2
namespace L2
open PySem PySem.Spec PyProof.Rows
section
variable{K:Ch}{dl:Dl}{H:Hp}
end
section
variable{X:Cx}{K:Ch}{dl:Dl}{bi H H':Hp}{hs:List (V×T)}{σ:St}{q:Sq}{F:Nat->Θ}{e o:EQ}{te:TE}{qe:QE}{apos aZ fC:Pos}
inductive Br(K:Ch)(x:V)(vs:Ω)(H:Hp)(Q:VK):Prop
 |mk(l b xs zs:_)(h1:x=.ref l)(h2:vs=[.ref b])(h3:H l=Z (.lst xs))(h4:SqT K H b zs)(h5:xs.length+zs.length<=lK)(h6:Q .non (upd H l (.lst (xs++zs))))
theorem Eg:MtM X "list.extend" (Br X.K):=by
 intro gd s σ H x vs v us Q I rx rv h;let(l,b,xs,zs,U,U,V,hB,hz,q):=h;cases rx;let(u,U,ru):=rv.one;cases ru;let(z,its,n,r,hl,e):=I.En V;let(gh,P,p2,z2):=I.tuple hB;let(o2,e2,g,n2,hd2):=(p2);have ak:=P.length;have hsz:its.toArray.size+gh.toArray.size<=lK:=by rw[qg,qg];lia
 have Mp:¬(!its.toArray.isEmpty&&Builtin.List.listTooLong (its.toArray.size+gh.toArray.size))=true:=by rw[BQ hsz,ab3];exact ri
 refine Js F.slot_list_extend (_,e,U) F.entry_list_extend ?_ (F.args_list_extend_2 _ _);show wpAny _ _ (Builtin.List.listExtendWith (.ref l) (.ref b) .none) _ _ s;refine eB (Yc (o2,e2,g) ?_);rw[if_pos ba];refine eB (listItems_at e2 hd2 (eB (listItems_at e U ?_)));rw[if_neg Mp];refine eB (listUpdate_at e U (nT (_,U,(.non,_,I.P7 V e ba (r.append P) ?_,U,q))) bd (by rw[Array.size_append];lia));rw[g5];lia
def RU(i:Nat)(qe:QE):QS:=λD q=>match q[i]? with
 |some (.o (.l xs))=>qe q λt=>match t with|.t ys=>T.ims ys=O/\xs.length+ys.length<=lK/\D.nx (q.set i (.o (.l (xs++ys))))|_=>False
 |_=>False
def FN{i:Nat}(ho:PE X o (b8 i))(he:QPE X K e te qe)(hK:‹X.K=K›)(fq:‹attributeBase o "extend" X.env (eval o X.env)=eval o X.env›)
  (nH:‹AC X aZ [e]›)
  (fk:‹(apos.endLine==aZ.line)=true›) (hs:‹AD X e []›) (eh:‹(backTo aZ (j7 [] X.env)).any (·.1)=false›)
  (ar:‹swapsWith (.Call (.Attribute o "extend" apos) [e] [] aZ) Y fC.line X.env=pure false›):
  QPS X K (.Expr (.Call (.Attribute o "extend" apos) [e] [] aZ) fC) (oh (tBM K "list" (Br K) (b8 i) (bR te gq))) (RU i qe):=
 (oK (by subst hK;exact BG PySem.F.plainAttrs_list PySem.F.slot_list_extend PySem.F.type_list_extend Eg ho (bp he.h cY hs) fq nH fk hs eh) ar,λdl bi hs H σ q Dq D (F,r) hq E=>by
 unfold RU at hq;split at hq
 ·rename_i xs ei;let(v,hv,rp):=r.g i _ _ ei U;let(o1,o2,o3):=r.o i _ ei;let(p,vs,G,U,V,h1,h2):=rp.r.lst;refine(_,hv,.inl (U,vs,SqL.of h1),he.s dl H σ q _ _ r.rd hq λw t F' H' e1 r1 P=>?_);split at P
  ·let(im,hl,P):=P;let(p2,ws,U,h3,h4):=r1.r.tup;obtain rfl:=h4.im im;have pn:=rp.n p (by rw[V];exact j4);refine(p,p2,vs,ws,U,U,e1.k p _ h1 pn nofun,SqT.of h3,by rw[h2.len,h4.len];exact hl,?_);have hG:=λb Q=>rp.n b (by rw[V];exact j6 _ Q);have ak:=h2.dO (e1.tf r.d) (λ_ z=>z) λb Q o eo=>e1.k b o eo (hG b Q) (.of (h2.there b Q) eo);refine E.nx _ σ _ (r.vh ei hv V e1 (ak.append h4) ?_ λb Q=>?_) P
   ·rw[V]at o1;rw[pq];exact(wh.mp o1).2
   rw[pq]at Q;exact .inl Q
  exact P.elim
 exact hq.elim)
end
abbrev QPR:=Sq->(ϓ->Prop)->Prop
def X6(K:Ch)(trs:List (TE×TE))(qp:QPR):Prop:=∀(dl:Dl)(H:Hp)(σ:St)(q:Sq)(Q:ϓ->Prop)(R:List (V×V)->Hp->Prop),RdR K dl H σ q->qp q Q ->
 (∀kvs g H',Evo dl H H'->bo K dl H' kvs g []->kvs.length=trs.length->Q g->R (kvs.map λkv=>(kV kv.1,kv.2)) H')->zp trs σ H R
structure Rv(X:Cx)(K:Ch)(pos:Pos)(keys:List (Option EQ))(values:List EQ)(trs:List (TE×TE))(qp:QPR):Prop where
 h:PPs X pos keys values trs
 s:X6 K trs qp
section
variable{X:Cx}{K:Ch}{pos:Pos}{ek ev:EQ}{ks:List (Option EQ)}{vs:List EQ}{tk tv:TE}{qk qv:QE}{trs:List (TE×TE)}{qp:QPR}
def OM:Rv X K pos [] [] [] (λ_ Q=>Q []):=(zZ,λdl H σ q Q R rd hq k=>k [] [] H (.refl rd.d) .nil U hq)
def WM(qk qv:QE)(qp:QPR):QPR:=λq Q=>qk q λt=>qv q λu=>match t.key with|some k=>u.im=O/\qp q λg=>Q ((k,u)::g)|none=>False
def vj(hk:QPE X K ek tk qk)(hv:QPE X K ev tv qv)(hr:Rv X K pos ks vs trs qp):Rv X K pos (Z ek::ks) (ev::vs) ((tk,tv)::trs) (WM qk qv qp):=(kP hk.h hv.h hr.h,λdl H σ q Q R rd hq k=>by
 refine hk.s dl H σ q _ _ rd hq λv t F H1 e1 r1 P=>(hv.s dl H1 σ q _ _ (rd.evo e1) P λw u G H2 e2 r2 g=>?_);split at g
 ·rename_i kk ar;let(V,g):=g;obtain rfl:=r2.r.im V;have ak:=r1.r.key ar;subst ak;exact hr.s dl H2 σ q _ _ ((rd.evo e1).evo e2) g λkvs z H3 e3 r3 hl hz=>(k ((kk,w)::kvs) ((kk,u)::z) H3 ((e1.trans e2).trans e3) (.cons (F:=[]) (G:=[]) (r2.evo e2.d e3).r r3) (by simp[hl]) hz)
 exact g.elim)
def qDN(qp:QPR):QE:=λq Q=>qp q λg=>Q (.d (ck [] g))
def KR(h:Rv X K pos ks vs trs qp)(Mu:‹ks.all (·.isSome)=true›)(hl:‹ks.length=vs.length›)(h0:ks ≠ []:=by exact T1 _ _)(ar:autoParam (ks.length<=15) zdc._auto_1)(h16:autoParam (trs.length<=15) zdc._auto_1):
  QPF X K (.Dict ks vs pos) (JQ trs) (qDN qp):=(z8 h.h Mu hl h0 ar,λdl H σ q Q R rd hq k=>λp hp=>by
 have e0:=(Evo.refl rd.d).new (o:=.dK []) hp;have nd:=rd.d.nd0 hp;refine h.s dl _ σ q _ _ (rd.evo e0) hq λkvs aF H2 e2 r2 hlen hz=>?_;have V:=e2.k p _ ax nd nofun;have tf:=TF.dict (kw:=gN [] kvs) V;refine(V,kvs,U,bd,?_);have e3:Evo dl H (upd H2 p (.dK (gN [] kvs))):=by
  refine(λb o P hn nr=>?_,λd hd=>?_,λb x P=>?_)
  ·have g:b≠p:=λz=>by rw[z,hp]at P;cases P
   rw[au g];exact e2.k b o (by rw[au g];exact P) hn nr
  ·let(s0,n0,ak,D0):=e2.d d hd;have n1:=(nd d hd).1;have n2:=(nd d hd).2;exact(s0,n0,ak,{D0 with hd:=by rw[au n1.symm];exact D0.hd,hl:=by rw[au n2.symm];exact D0.hl})
  have g:b≠p:=λz=>by rw[z,hp]at P;cases P
  let(y,hy,e4):=e2.r b x (by rw[au g];exact P);exact(y,hy,by rw[au g];exact e4)
 have rm:=bo.ck (kvs':=[]) (kts':=[]) r2 U .nil;exact k _ _ [p] _ e3 (.d ax (rm.dO tf (λ_ z=>z) bX),λb P=>by rw[fy.mp P];exact nd) (λb P=>by rw[fy.mp P];exact hp) ba hz)
end
namespace TM
open Sem (wp)
open Builtin
def rn:fillsNumberSlot (.type "tuple") "mul"=pure false:=
 PySem.fillsNumberSlot_seq (id:="tuple.__mul__") (r:=Z (.builtin "tuple.__rmul__")) PySem.F.slot_tuple_mul.lookup bn PySem.F.slot_tuple_rmul.lookup bn
def zJ:seqRepeat? (.type "tuple")=pure (Z (.builtin "tuple.__mul__")):=by unfold seqRepeat?;rw[PySem.seqSlot_of (T:="tuple") (name:="__mul__") (id:="tuple.__mul__") PySem.F.slot_tuple_mul.lookup bn,PySem.seqSlot_of (T:="tuple") (name:="__rmul__") (id:="tuple.__rmul__") PySem.F.slot_tuple_rmul.lookup bn];rfl
def DN(a:Int)(t:Tok)(l:J)(items:Array B)(n:Nat)(d:Option J)(sl:Array (Option B)):
  Meets (Builtin.«int.__rmul__» ([.int a t,.ref l],[])) (λ_ R s=>s.heap.get? l=Z {cls:=.type "tuple",dict:=d,data:=.seq items n,slots:=sl}/\R (.ok (.ret B.notImplemented)) s):=
 .of_wp λprog w A R s h=>by let(hp,g,d,tk,os):=s;let(hl,h):=h;wp_walk;exact(_,U,h)
end TM
variable{op:CmpOp}{op':CmpOp}{r':R2}{rq:Q2}
section
variable{X:Cx}{K:Ch}{a b c:EQ}{ta tb tc:TE}{qa qb qc:QE}{pos:Pos}
def kN(rq g:Q2)(qa qb qc:QE):QE:=λq Q=>qa q λt=>qb q λu=>rq t u λz=>match z with|.b k=>if k=O then qc q λw=>g u w Q else Q (.b ϊ)|_=>False
def KS{r:R2}{V:Q2}(ho:OpR X (compareOp op) r)(hs:df K r rq)(ar:OpR X (compareOp op') r')(ak:df K r' V)(ha:QPE X K a ta qa)(hb:QPE X K b tb qb)(hc:QPE X K c tc qc)
  (hm:lastMarks [op,op'] [b,c]=false:=by with_unfolding_all rfl):QPF X K (.Compare a [op,op'] [b,c] pos) (zq r r' ta tb tc) (kN rq V qa qb qc):=(Ly ho ar ha.h hb.h hc.h hm,λdl H σ q Q R rd hq k =>
ha.s dl H σ q _ _ rd hq λv t F H1 e1 r1 hq=>hb.s dl H1 σ q _ _ (rd.evo e1) hq λw u G H2 e2 r2 hq=>hs dl H2 v w t u F G _ _ e2.d (r1.evo e1.d e2) r2 hq λx z F3 H3 e3 r3 _ _ P=>by
  cases z with
  |b l =>
   let(U,_):=r3.r.bl;refine(l,U,?_);have g:=(e1.trans e2).trans e3;cases l with|false=>exact k _ _ [] H3 g (.c (.b ϊ)) nofun ot P|true =>exact hc.s dl H3 σ q _ _ (rd.evo g) P λy s F4 H4 e4 r4 P=>ak dl H4 w y u s G F4 _ _ e4.d ((r2.evo e2.d e3).evo e3.d e4) r4 P λx z F' H5 e5 r5 f5 n5 P=>k x z F' H5 ((g.trans e4).trans e5) r5 (λb hb=>(g.trans e4).free (f5 b hb)) n5 P
  |_=>exact P.elim)
end
variable{elts:List EQ}{pos':Pos}{tl:TA}{ql:QA}
section
variable{X:Cx}{K:Ch}{a:EQ}{pos:Pos}
def X2(ql:QA):QI:=λq Q=>ql q λts=>match ts with|[.l xs]=>Q (jg xs)|_=>False
def KN{x1}{p:Pos}(hg:Gl X "enumerate")(hm:X.mg "enumerate"=Y)(fW:bootBuiltins "enumerate"=Z (.type "enumerate"))(V:QPA X K [a] tl ql)(hs:‹AM X a›)(hK:‹X.K=K›):
  QPI X K (.Tuple elts x1 pos') (.Call (.Name "enumerate" p) [a] [] pos) (vT K ϊ tl) (X2 ql):=(kQ hK hg hm fW V.h hs,λdl H σ q Q R rd hq k=>V.s dl H σ q _ _ rd hq λvs ts F H' e1 r _ z=>by
 split at z
 ·let(v,U,P):=r.one;let(l1,g,G,U,_,h1,h2):=P.r.lst;exact(l1,U,(g,SqL.of h1),k _ _ _ H' e1 pz (λp hp=>by rw[fy.mp hp];exact(_,P)) z)
 exact z.elim)
end
end L2
namespace L2
open PySem PySem.Spec PyProof.Rows
section
def MD{α:Type}{x:α}:∀n:Nat,(List.foldl (λx1 g=>x1++g) #[] (rY n #[x]))=(rY n x).toArray:=by
 have go:∀n acc,List.foldl (λx1 g=>x1++g) acc (rY n #[x])=acc++(rY n x).toArray:=by intro n;induction n with|zero=>simp|succ n q =>intro acc;rw[RD,List.foldl_cons,q];apply Array.ext';simp[RD]
 intro n;rw[go];simp
end
variable{p3:Str}{p4:Str}{fd:Cl}
section
variable{K:Ch}{x q:Str}{st:Fa}{f:J}
def YE{P:Δ->Prop}(h:∀a b c d e g,P [a,b,c,d,e,g])(us:Δ)(e:us.length=6):P us:=by
 cases us with
 |nil=>cases e
 |cons a r=>exact Xg (P:=λr=>P (a::r)) (h a) r (Nat.succ.inj e)
theorem Fun.b6{p1 p2 p5 p6:Str}(F:Fun K x q st f fd)(hb:∀kV dc pm an cd ct u1 u2 V Q z g,bindArgs (W.fnOf x q (d5 st) (bZ st) (av st) .none kV dc pm an cd ct) ([u1,u2,V,Q,z,g],[])=pure [(p1,u1),(p2,u2),(p3,V),(p4,Q),(p5,z),(p6,g)]:=by intros;rfl):Binds K fd [p1,p2,p3,p4,p5,p6] []:=F.binds λkV dc pm an cd ct us hl=>YE (P:=λus=>bindArgs _ (us,[])=pure (ad9 _ us)) (hb kV dc pm an cd ct) us hl
end
variable{op:CmpOp}{op':CmpOp}{r':R2}{rq:Q2}{neg:Bool}{x:Str}{prs:Γ}{es:List EQ}
section
variable{X:Cx}{K:Ch}{a b c e o:EQ}{ta tb tc:TE}{qa qb qc:QE}{pos:Pos}
def vi{r:R2}{g:Q2}(ho:OpR X (compareOp op) r)(hs:df K r rq)(q:OpR X (compareOp op') r')(z:df K r' g)(V:QPE X K a ta qa)(Q:QPE X K b tb qb)(P:QPE X K c tc qc)
  (hm:lastMarks [op,op'] [b,c]=false:=by with_unfolding_all rfl):QPT X K (.Compare a [op,op'] [b,c] pos) (ym (zq r r' ta tb tc)) (eI (kN rq g qa qb qc)):=
 (Ld ho q V.h Q.h P.h hm,Bf (ZB (KS (pos:=pos) ho hs q z V Q P hm)).s)
def Um(neg:Bool):Q2:=λt u Q=>match u with|.zl xs=>(t.fl&&fls xs)=O/\Q (.b (if neg then !inT t xs else inT t xs))|_=>False
def Ox:df K (Ky K neg) (Um neg):=by
 intro dl H x y t u F G Q R D q g hq k;cases u with
 |zl xs =>
  let(f,hq):=hq;rw[rX]at f;let(p,o,vs,U,_,h1,h2):=g.r.zls;let(U,U):=q.r.v f.1;let(U,_):=h2.vs f.2;refine .inl (p,_,U,.inl (.inl (.inr (o,h1))),Gq f.1,rJ f.2,k _ (.b _) [] H (.refl D) (.c (.b _)) nofun ot ?_);have e:inV t.v (xs.map T.v)=inT t xs:=by unfold inV inT;rw[ZF];rfl
  rw[e];exact hq
 |_=>exact hq.elim
theorem e7{f:J}{k:Nat}{ps:PSp}{ta:(St->XK)->TA}{qa:QAX}{p:Pos}(F:aP X.prog X.w X.K X.mg X.base CX0 k f fd prs (spQ K ps))(hr:dI k X.A)(hg:Gl X x)(hm:X.mg x=Z (.ref f))(hk:W.keepIn X.K (.ref f)=O)(V:Binds X.K fd prs [])(ha:Jp X K (e::es) ta qa)
  (P:autoParam (AT x) zdc._auto_1) (he:‹AD X e es›) (z:‹AS X pos es›):QPX X K (.Call (.Name x p) (e::es) [] pos) (λEs=>Bd (spQ K ps) [] E0 (ta Es)) (λq Q W=>qa q (λts=>ps ts Q) W):=
 (λEs a=>z9 F hr hg hm hk V .nil FX (ha.h Es a) P he z,λdl H σ q Q W R Es rd hq k1 k2=>ha.s dl H σ q _ _ _ Es rd hq (λvs ts F H1 e1 r1 _ g=>by rw[pq];exact(dl,ts,F,Q,e1.d,r1,g,λv t F' H' e r f n g=>k1 v t F' H' (e1.trans e) r (λb V=>e1.free (f b V)) n g)) k2)
end
namespace TM
open Sem (wp)
open Builtin
def YB(l:J)(v:B)(n:Nat)(d:Option J)(sl:Array (Option B))(u:Tok)(z:Int)(h0:2<=z)(h1:z<=16000000):
  Meets (Builtin.«tuple.__mul__» ([.ref l,.int z u],[])) (λ_ R s=>s.heap.get? l=Z {cls:=.type "tuple",dict:=d,data:=.seq #[v] n,slots:=sl}/\R (.ok (.ret (B.ref s.heap.objs.size))) {s with heap:=s.heap.push {cls:=B.type "tuple",data:=Data.seq (rY z.toNat v).toArray}}):=
 .of_wp λprog w A R s h=>by
  let(hp,g,d,tk,os):=s;let(hl,h):=h;have K:lK=16777216:=ZE;unfold Builtin.«tuple.__mul__»
  wp_walk
  rw[if_neg (by simp;omega)]
  wp_walk
  rw[if_neg (by simp;omega)];rw[if_neg (by simp;omega)];rw[if_neg (by simp;omega)];rw[if_neg (by unfold Builtin.Tuple.tupleTooMany;simp;omega)]
  wp_walk
  have e:List.foldl (λx1 q=>x1++q) #[] (rY z.toNat #[v])=(rY z.toNat v).toArray:=MD _;rw[e];have h3:¬(rY z.toNat v).toArray.size > lK:=by simp;omega
  rw[if_neg h3]
  wp_walk
  exact(_,U,h)
end TM
variable{dl:Dl}{H:Hp}{b:EQ}{ta:TE}{qa:QE}{qb:QE}
section
variable{X:Cx}{K:Ch}
inductive Ks(K:Ch)(x:V)(y:V)(H:Hp)(Q:VK):Prop
 |mk(a n z:_)(h1:x=.ref a)(h2:y=.int n)(h3:SqT K H a [z])(h4:2<=n)(h5:n<=16000000)(h6:∀p,H p=Y->Q (.ref p) (upd H p (.tup (rY n.toNat z))))
def PL(hK:X.K=K):OpR X (binaryOp .Mult) (Ks K):=by
 subst hK;intro gd s σ H x y v u Q I rx V h;let(a,n,z,U,U,ha,h0,h16,h):=h;cases rx;let(t,U):=V;let(its,r1,p1,_):=I.tuple ha;let((cls,dd,data,sl),ho,P,k,hd):=id p1;simp only at P hd;subst P hd;obtain⟨w,rfl,g⟩:∃w,its=[w]/\RelV z w:=by cases r1 with|cons h1 h2=>cases h2;exact(_,U,h1)
 have ak:lK=16777216:=ZE;refine wpAny_binaryOp_repeat_ref (show(PySem.Value.type "tuple"==PySem.Value.type "int")=false from by decide) (_,ho,U) (λs'=>typeIs_int s' _ t) TM.rn PySem.F.fills_int_mul PySem.F.slot_int_rmul TM.zJ PySem.F.slot_int_index.lookup
  (call_meets PySem.F.slot_int_rmul (typeIs_int s _ t) PySem.F.entry_int_rmul (PySem.F.args_int_rmul_2 _ _) (TM.DN _ t a _ k dd sl)
(ho,U,(_,ho,U),call_meets PySem.F.slot_tuple_mul (_,ho,U) PySem.F.entry_tuple_mul (PySem.F.args_tuple_mul_2 _ _) (TM.YB a w k dd sl t n h0 h16) (ho,?_)))
 refine(.ref s.heap.objs.size,_,I.laid (t':=s.toks) (o:=.tup (rY n.toNat z)) (λb ob q=>gi _ q) (mz _) (by rw[ad1];omega,rY n.toNat w,?_,lJ.new _ _),U,h _ (I.hok.fresh (mz _)));generalize n.toNat=j;induction j with|zero=>exact .nil|succ j ih=>rw[RD,RD];exact .cons g ih
def aB.Yj{vs:Ω}{z:T}{F:Θ}(h:aB K dl H vs [z] F)(hi:z.im=O):∃w,vs=[w]/\aJ K dl H w z []:=by cases h with|cons g1 g2=>cases g2;rw[g1.im hi]at g1;exact(_,U,g1)
def K0:Q2:=λt u Q=>match t,u with|.t [x],.i n=>x.im=O/\2<=n/\n<=16000000/\Q (.t (rY n.toNat x))|_,_=>False
def J0:df K (Ks K) K0:=by
 intro dl H x y t u F G Q R D V P hq k;have no:∀b:J,b∈([]:Θ)->H b=none:=nofun;unfold K0 at hq;split at hq
 ·rename_i z n;let(a,vs,U,h1,s1):=V.r.tup;let(U,U):=P.r.int;let(hi,n0,n2,hq):=hq;obtain rfl:=s1.im (by show(z.im&&O)=O;rw[hi];rfl);let(w,U,g):=s1.Yj hi;refine(a,n,w,U,U,SqT.of h1,n0,n2,λp hp=>?_);have q:∀j:Nat,aB K dl H (rY j w) (rY j z) []:=by intro j;induction j with|zero=>exact .nil|succ j ih=>rw[RD,RD];exact .cons g ih
  have rs:Rps K dl H (rY n.toNat w) _ []:=(q _,λc hc=>nomatch hc);exact k _ _ _ _ ((Evo.refl D).new hp) (rs.tup D hp) no ot hq
 exact hq.elim
def OS{a:EQ}{tb:TE}{pos:Pos}(q:QPE X K a ta qa)(g:QPE X K b tb qb)(z:‹X.K=K›):QPF X K (.BinOp a .Mult b pos) (tOp (Ks K) ta tb) (qOp K0 qa qb):=qU (PL z) J0 q g
end
variable{elts:List EQ}{pos':Pos}
section
variable{X:Cx}{K:Ch}
def XZ(i:Nat)(qb:QE):QJ:=λq Q=>match q[i]? with
 |some (.o (.l xs))=>qb q λt=>match t with|.l ys=>Q (sY xs ys) (q.set i (.r (.l xs)))|_=>False
 |_=>False
def ON{a:EQ}{tb:TE}{i:Nat}{pos p:Pos}{x1}(hg:Gl X "zip")(hm:X.mg "zip"=Y)(fW:bootBuiltins "zip"=Z (.type "zip"))(ha:PE X a (b8 i))(hb:QPF X K b tb qb)(hs:‹j7 [a,b] X.env=[(ϊ,eval a X.env),(ϊ,eval b X.env)]›)(aK:‹AM X b›)(aF:‹j7 [a,b] X.env=(ϊ,eval a X.env)::j7 [b] X.env›)(ar:‹AD X b []›)(hK:‹X.K=K›):
  QPJ X K (.Tuple elts x1 pos') (.Call (.Name "zip" p) [a,b] [] pos) (Vt K ϊ ϊ (bR (b8 i) (bR tb gq))) (XZ i qb):=(Pk hK hg hm fW (bp ha (bp hb.h cY ar) aF) hs aK,λdl bi hs H σ q Q R (F0,V) hq k=>by
 unfold XZ at hq;split at hq
 ·rename_i xs e1;let(v,hv,r):=V.g i _ _ e1 U;refine(v,hv,hb.s dl H σ q _ _ V.rd hq λw t F H' e2 r2 hn _ hz=>?_);split at hz
  ·rename_i ys;have r1:=r.evo V.d e2;have q1:=((V.evo e2).down e1).hold r2 λj u P b hb aW=>by
    obtain⟨_,z,_⟩|⟨ne,P⟩:=get_set P
    ·cases z
    let(_,_,rj):=V.g j _ u P U;exact(rj.r.there b hb).no (hn b aW)
   have q2:=q1.hold r1 λj u P b hb=>by
    obtain⟨_,z,_⟩|⟨ne,P⟩:=get_set P
    ·cases z
    exact(V.o j u P).2.2 i (λz=>ne z.symm) b hb
   let(p,vs,G,U,_,h1,h2):=r1.r.lst;let(p',ak,G',U,_,a0,a3):=r2.r.lst;exact(p,p',U,(vs,SqL.of h1),(ak,SqL.of a0),k _ _ _ H' _ (F0,q2) Qq hz)
  exact hz.elim
 exact hq.elim)
end
end L2
namespace K57
open PySem L2
open L2.T renaming ims→Ϙ,s→ϙ,i→Ϛ,t→ϛ,imk→Ϝ,dof→ϝ
abbrev We:Str:="piece"
abbrev WF:Str:="_law_deal_here"
abbrev WP:Str:="_law_scope"
abbrev W1:Str:="body"
abbrev Th:Str:="_law_f"
abbrev Tk:Str:="_law_world"
abbrev Tl:Str:="_law_room"
abbrev Tm:Str:="_law_piece"
abbrev Tu:Str:="_law_many"
abbrev Ty:Str:="_law_words_here"
abbrev TD:Str:="_law_function"
abbrev TW:Str:="_law_script"
abbrev TZ:Str:="_law_body_here"
abbrev T0:Str:="_law_program_here"
abbrev Sa:Str:="_law_k"
abbrev Su:Str:="_law_some"
abbrev SB:Str:="_law_kind"
abbrev SC:Str:="_law_n"
abbrev SL:Str:="_law_turn"
abbrev ST:Str:="_law_kinds_here"
abbrev SZ:Str:="_law_cell"
abbrev Re:Str:="_law_names"
abbrev Rs:Str:="_law_paper"
abbrev Q4:Str:="_law_base"
abbrev Pi:Str:="_law_other"
abbrev Ps:Str:="_law_found"
abbrev PM:Str:="_law_fields"
abbrev PP:Str:="_law_heads"
abbrev P3:Str:="_law_name"
abbrev Of:Str:="_law_most"
def tgT:L2.T->Nat
 |.t [_,_]=>0|.t [_,.i _,_]=>1|.t [_,_,_]=>2|.t [_,_,_,_]=>3|.t [.s w,_,_,_,_]=>if w="make" then 4 else 5|_=>6
def top(i:Nat):Fa:=PySem.Challenge.pw_pursewright_k57_turns_refused.main.body.getD i (.Pass (0,0,0,0))
abbrev fns:Γ:=[]
abbrev yq:Fa:=inClass (top 24) 0
abbrev ou:Fa:=inClass (top 25) 0
abbrev uT:Fa:=inClass (top 27) 0
abbrev uU:Fa:=inClass (top 29) 0
abbrev jv:Fa:=inClass (top 8) 0
theorem zy:aD ["self",We,"above","arm"] ["self",We,"above","arm"] (av jv):=by symm
abbrev iy:Fa:=inClass (top 45) 0
theorem xq:aD ["self","f","free","spent","kinds","holdings"] ["self","f","free","spent","kinds","holdings"] (av iy):=by symm
abbrev kI:Fa:=top 1
theorem jw:aD ["functions","name","number","function"] ["functions","name"] (av kI):=by symm
abbrev kK:Fa:=top 3
theorem jx:aD ["kinds","kind","name","makers"] ["kinds","kind"] (av kK):=by symm
abbrev u9:Fa:=top 4
theorem iV:aD ["kinds","kind","reached","names","name","makers"] ["kinds","kind"] (av u9):=by symm
abbrev gc:Fa:=top 5
theorem b9:aD ["kinds","kind","reached","waiting","here","maker","field"] ["kinds","kind"] (av gc):=by symm
abbrev gf:Fa:=top 6
theorem fF:aD ["kinds","maker","name","makers"] ["kinds","maker"] (av gf):=by symm
abbrev zC:Fa:=top 9
theorem ox:aD [W1,"told","waiting","spot"] [W1] (av zC):=by symm
abbrev gb:Fa:=top 10
theorem qL:aD [We,"number"] [We,"number"] (av gb):=by symm
abbrev va:Fa:=top 11
theorem HJ:aD [W1] [W1] (av va):=by symm
abbrev Kh:Fa:=top 12
theorem DE:aD [W1,"n","found","told"] [W1,"n"] (av Kh):=by symm
abbrev iF:Fa:=top 13
theorem dq:aD ["program","f","told","found","spot","kinds"] ["program","f"] (av iF):=by symm
abbrev nj:Fa:=top 14
theorem kH:aD ["program",We,"arm","kinds","word","fields"] ["program",We,"arm","kinds"] (av nj):=by symm
abbrev ni:Fa:=top 16
theorem Bk:aD ["program","f"] ["program","f"] (av ni):=by symm
abbrev kJ:Fa:=top 17
abbrev Bn:Fa:=top 18
abbrev iW:Fa:=top 19
abbrev yu:Fa:=top 20
abbrev mB:Fa:=top 21
abbrev yt:Fa:=top 35
abbrev FH:Fa:=top 36
abbrev vd:Fa:=top 38
abbrev ve:Fa:=top 39
abbrev sy:Fa:=top 40
abbrev oB:Fa:=top 41
abbrev yr:Fa:=top 42
abbrev mE:Fa:=top 43
abbrev nc:Fa:=top 46
theorem cK:aD ["program","f","n","found","numbers","stand","above","beneath",We] ["program","f","n"] (av nc):=by symm
abbrev fG:Fa:=top 47
theorem eZ:aD ["program","f","params","holdings"] ["program","f"] (av fG):=by symm
abbrev jA:Fa:=top 48
theorem dP:aD ["program","n",We,"stand","holdings","name","family","free"] ["program","n",We,"stand"] (av jA):=by symm
abbrev gJ:Fa:=top 49
theorem bb:aD ["program","n",We,"arm","stand","family","free","g","kinds","holdings","name","kind"] ["program","n",We,"arm","stand"] (av gJ):=by symm
abbrev DG:Fa:=top 50
theorem zw:aD ["program","f","n",We,"word","g"] ["program","f","n",We] (av DG):=by symm
abbrev jz:Fa:=top 51
theorem xp:aD ["program","f","n",We] ["program","f","n",We] (av jz):=by symm
abbrev nh:Fa:=top 52
theorem Bj:aD [We] [We] (av nh):=by symm
abbrev kL:Fa:=top 54
theorem oy:aD ["program","f","n","laid"] ["program","f","n"] (av kL):=by symm
abbrev Bm:Fa:=top 55
abbrev d7:Fa:=top 56
theorem aN:aD ["program","f","n","laid","call","g","called","end","told","k","param",We,"source"] ["program","f","n"] (av d7):=by symm
abbrev mD:Fa:=top 57
abbrev jC:Fa:=top 58
theorem cD:aD ["program","f","n","laid",We,"behind","begins","told","number"] ["program","f","n"] (av jC):=by symm
abbrev jB:Fa:=top 59
theorem cU:aD ["program","f","n","x","laid","holdings","new","end","told"] ["program","f","n","x"] (av jB):=by symm
abbrev iB:Fa:=top 61
theorem uX:aD ["program","f","n"] ["program","f","n"] (av iB):=by symm
abbrev zE:Fa:=top 62
theorem Kf:aD ["program","f","n"] ["program","f","n"] (av zE):=by symm
abbrev zD:Fa:=top 63
theorem Ke:aD ["program","f","n","x"] ["program","f","n","x"] (av zD):=by symm
abbrev sr:Fa:=top 64
abbrev m9:Fa:=top 66
theorem eD:aD ["program","told","f","function","k","param"] ["program"] (av m9):=by symm
abbrev iC:Fa:=top 67
theorem uY:aD ["program","family","kind"] ["program","family","kind"] (av iC):=by symm
abbrev fH:Fa:=top 68
theorem bS:aD ["program","f","told","ahead","n",We,"family"] ["program","f"] (av fH):=by symm
abbrev sv:Fa:=top 70
abbrev f9:Fa:=top 72
theorem qK:aD ["program","f","n","paper"] ["program","f","n","paper"] (av f9):=by symm
abbrev iE:Fa:=top 73
theorem u7:aD ["program","f","n","paper"] ["program","f","n","paper"] (av iE):=by symm
abbrev iD:Fa:=top 74
theorem uZ:aD ["program","f","n","x","paper"] ["program","f","n","x","paper"] (av iD):=by symm
abbrev sx:Fa:=top 75
abbrev DJ:Fa:=top 77
theorem oA:aD [TW,Q4,"_law_cells","_law_number",SZ] [TW,Q4] (av DJ):=by symm
abbrev DI:Fa:=top 78
theorem t9:aD [WF,Tu,"_law_number","_law_one",Pi] [WF,Tu] (av DI):=by symm
abbrev zA:Fa:=top 79
theorem cc:aD [WF,Tu,"_law_letters","_law_core","_law_at",SL,Ps,Sa,"_law_own","_law_word","_law_near"] [WF,Tu] (av zA):=by symm
abbrev zG:Fa:=top 80
theorem cF:aD [WF,Ty,"_law_form","_law_a","_law_b","_law_m",Ps,Tu,"_law_made",Sa,"_law_makers","_law_j","_law_wide",PM] [WF,Ty] (av zG):=by symm
abbrev DH:Fa:=top 81
theorem t8:aD [WF,WP,Su,Ps,SB,"_law_own"] [WF,WP,Su] (av DH):=by symm
abbrev zH:Fa:=top 82
theorem dQ:aD [WF,Tk,WP,SB,Th,ST,PP,Ty,"_law_own","_law_x","_law_maker",PM,Re] [WF,Tk,WP,SB,Th] (av zH):=by symm
abbrev DK:Fa:=top 83
theorem dU:aD [WF,Tk,WP,Th,Tl,ST,PP,Ty,"_law_x",SB,"_law_makers","_law_arms","_law_maker",PM,"_law_more",Re] [WF,Tk,WP,Th,Tl] (av DK):=by symm
abbrev DL:Fa:=top 84
theorem cm:aD [WF,Tk,WP,Th,Tl,ST,PP,Ty,SB,"_law_form","_law_x","_law_coins","_law_word","_law_y",Pi,"_law_g",Re,P3,"_law_makers","_law_maker",PM] [WF,Tk,WP,Th,Tl] (av DL):=by symm
abbrev qN:Fa:=top 85
theorem cf:aD [WF,Of,Tl,Ty,ST,PP,Th,Tu,"_law_params","_law_functions","_law_head",TZ] [WF,Of,Tl] (av qN):=by symm
abbrev qP:Fa:=top 86
theorem DF:aD [Tm] [Tm] (av qP):=by symm
abbrev qO:Fa:=top 87
theorem m8:aD [TZ,Ps,"_law_inner"] [TZ] (av qO):=by symm
abbrev vb:Fa:=top 88
theorem lU:aD [TD,Re,Tm,"_law_arm"] [TD] (av vb):=by symm
abbrev nk:Fa:=top 89
theorem Bl:aD [TZ] [TZ] (av nk):=by symm
abbrev zI:Fa:=top 90
theorem cS:aD [TD,SC,Re,TZ,"_law_left","_law_at","_law_goal",Sa,"_law_inner",Tu] [TD,SC] (av zI):=by symm
abbrev zF:Fa:=top 91
theorem Kg:aD [Tm] [Tm] (av zF):=by symm
abbrev zB:Fa:=top 92
theorem Kc:aD [Tm] [Tm] (av zB):=by symm
abbrev zz:Fa:=top 93
theorem cE:aD [WF,T0,"_law_form","_law_sort",Th,TD,Su,SC,"_law_x","_law_beyond","_law_others"] [WF,T0] (av zz):=by symm
abbrev qM:Fa:=top 94
theorem dm:aD [T0,Rs,SL,"_law_sort",Th,SC,"_law_x","_law_caught","e"] [T0,Rs,SL] (av qM):=by symm
abbrev sA:Fa:=top 95
theorem jy:aD [TW,WF,ST,"_law_functions",T0,Rs,SL,"_law_wrong_here",Su] [TW] (av sA):=by symm
set_option genInjectivity false in
structure Adr where
 aF:J
 cy:J
 fj:J
 yI:Cl
 bA:J
 cw:J
 pI:Cl
 cb:J
 bT:J
 dw:J
 vZ:Cl
 a9:J
 bU:J
 dy:J
 v7:Cl
 dG:J
 aK:J
 eQ:J
 lE:Cl
 aW:J
 dD:J
 jU:Cl
 hJ:J
 sL:Cl
 ia:J
 sN:Cl
 pE:J
 Co:Cl
 dY:J
 kj:Cl
 dZ:J
 kl:Cl
 ux:J
 GD:Cl
 dX:J
 kh:Cl
 pF:J
 Cq:Cl
 Gv:J
 SE:Cl
 fU:J
 mO:Cl
 jS:J
 wk:Cl
 jQ:J
 we:Cl
 gT:J
 wc:Cl
 lr:J
 wg:Cl
 dC:J
 jj:Cl
 gG:J
 ml:Cl
 iL:J
 xV:Cl
 rK:J
 IV:Cl
 Ay:J
 QZ:Cl
 jR:J
 wj:Cl
 nJ:J
 EU:Cl
 hV:J
 sM:Cl
 jP:J
 AH:Cl
 jf:J
 rL:Cl
 iM:J
 xW:Cl
 jN:J
 v9:Cl
 dA:J
 jh:Cl
 gA:J
 pK:Cl
 ft:J
 lD:Cl
 Ax:J
 MO:Cl
 gy:J
 pJ:Cl
 jO:J
 wa:Cl
 ib:J
 sO:Cl
 lj:J
 wb:Cl
 cR:J
 gU:Cl
 fV:J
 mP:Cl
 gC:J
 pM:Cl
 gB:J
 pL:Cl
 fQ:J
 mJ:Cl
 uz:J
 GG:Cl
 uy:J
 GF:Cl
 eM:J
 ig:Cl
 jM:J
 v8:Cl
 fR:J
 mK:Cl
 dB:J
 ji:Cl
 lg:J
 Cp:Cl
 dW:J
 kg:Cl
 fT:J
 mM:Cl
 fS:J
 mL:Cl
 eO:J
 ij:Cl
 AB:J
 MR:Cl
 AA:J
 MQ:Cl
 uv:J
 GB:Cl
 uB:J
 GI:Cl
 Az:J
 MP:Cl
 uC:J
 GJ:Cl
 AE:J
 MS:Cl
 vW:J
 EV:Cl
 mf:J
 yK:Cl
 mj:J
 yM:Cl
 mh:J
 yL:Cl
 pH:J
 Cr:Cl
 jT:J
 wm:Cl
 uD:J
 GK:Cl
 uA:J
 GH:Cl
 uw:J
 GC:Cl
 uu:J
 GA:Cl
 me:J
 yJ:Cl
 yH:J
 SF:Cl
 dH:J
structure Txt(K:Ch)(mg:Υ)(a:Adr):Prop where
 zj:di K fns a.aF (bmV) Y
 xD:mg "PurseError"=Z (.ref a.aF)
 Ny:W.keepIn K (.ref a.aF)=O
 Jy:di K fns a.cy (.ref a.aF::bmV) (Z a.fj)
 Io:mg "NoText"=Z (.ref a.cy)
 Wa:W.keepIn K (.ref a.cy)=O
 sd:Fun K "__init__" "NoText.__init__" yq a.fj a.yI
 Wb:W.isFn K (.ref a.fj)=O
 Wd:Binds K a.yI ["self","row"] []
 A7:di K fns a.bA (.ref a.aF::bmV) (Z a.cw)
 Ah:mg "NoProgram"=Z (.ref a.bA)
 Qm:W.keepIn K (.ref a.bA)=O
 j9:Fun K "__init__" "NoProgram.__init__" ou a.cw a.pI
 QP:W.isFn K (.ref a.cw)=O
 Q7:Binds K a.pI ["self","word","name"] []
 Hs:di K fns a.cb (.ref a.aF::bmV) Y
 Ed:mg "NoValue"=Z (.ref a.cb)
 U9:W.keepIn K (.ref a.cb)=O
 Ht:di K fns a.bT (.ref a.aF::bmV) (Z a.dw)
 Ee:mg "NoPaper"=Z (.ref a.bT)
 Va:W.keepIn K (.ref a.bT)=O
 nU:Fun K "__init__" "NoPaper.__init__" uT a.dw a.vZ
 VD:W.isFn K (.ref a.dw)=O
 VM:Binds K a.vZ ["self","row"] []
 dj:di K fns a.a9 (.ref a.aF::bmV) Y
 fL:mg "NoTurn"=Z (.ref a.a9)
 gF:W.keepIn K (.ref a.a9)=O
 Hu:di K fns a.bU (.ref a.aF::bmV) (Z a.dy)
 Ef:mg "NoChain"=Z (.ref a.bU)
 Vb:W.keepIn K (.ref a.bU)=O
 nV:Fun K "__init__" "NoChain.__init__" uU a.dy a.v7
 VE:W.isFn K (.ref a.dy)=O
 VN:Binds K a.v7 ["self","maker"] []
 NY:di K fns a.dG (.ref a.aF::bmV) Y
 LY:mg "NoRow"=Z (.ref a.dG)
 Xn:W.keepIn K (.ref a.dG)=O
 c9:Cls K a.aK
 Ag:mg "Spot"=Z (.ref a.aK)
 Ai:Mk K a.aK a.eQ
 dR:b7 K a.aK "piece"
 cV:b7 K a.aK "above"
 kU:b7 K a.aK "arm"
 il:Fun K "__init__" "Spot.__init__" jv a.eQ a.lE
 P5:Meth K a.aK "__init__" a.eQ
 lG:Binds K a.lE ["self",We,"above","arm"] []
 bG:Cls K a.aW
 vG:mg "Stand"=Z (.ref a.aW)
 vH:Mk K a.aW a.dD
 fK:b7 K a.aW "f"
 iJ:b7 K a.aW "free"
 gM:b7 K a.aW "spent"
 fe:b7 K a.aW "kinds"
 c7:b7 K a.aW "holdings"
 gE:Fun K "__init__" "Stand.__init__" iy a.dD a.jU
 Nx:Meth K a.aW "__init__" a.dD
 jW:Binds K a.jU ["self","f","free","spent","kinds","holdings"] []
 nd:[a.aF,a.cy,a.bA,a.cb,a.bT,a.a9,a.bU,a.dG].Nodup
 eU:Dn K mg "number_of" kI a.hJ a.sL ["functions","name"]
 lR:Dn K mg "makers_of" kK a.ia a.sN ["kinds","kind"]
 CW:Dn K mg "within" u9 a.pE a.Co ["kinds","kind"]
 ky:Dn K mg "reached_kinds" gc a.dY a.kj ["kinds","kind"]
 gj:Dn K mg "kind_of_maker" gf a.dZ a.kl ["kinds","maker"]
 qw:Dn K mg "spots" zC a.ux a.GD [W1]
 ku:Dn K mg "spots_beneath" gb a.dX a.kh [We,"number"]
 w6:Dn K mg "pieces" va a.pF a.Cq [W1]
 SU:Dn K mg "way" Kh a.Gv a.SE [W1,"n"]
 m5:Dn K mg "kinds_ahead" iF a.fU a.mO ["program","f"]
 nX:Dn K mg "bound_by" nj a.jS a.wk ["program",We,"arm","kinds"]
 nW:Dn K mg "laid_out" ni a.jQ a.we ["program","f"]
 Nr:Dn K mg "many_beneath" kJ a.gT a.wc [We]
 CZ:Dn K mg "end_of" Bn a.lr a.wg ["laid","n"]
 sg:Dn K mg "begins_beneath" iW a.dC a.jj ["laid","n"]
 dJ:Dn K mg "body_of" yu a.gG a.ml ["laid"]
 NL:Dn K mg "with_bodies" mB a.iL a.xV [We,"bodies"]
 Wf:Dn K mg "is_name" yt a.rK a.IV ["text"]
 Yf:Dn K mg "is_of" FH a.Ay a.QZ ["text","signs","longest"]
 Fl:Dn K mg "bound_in" vd a.jR a.wj ["function"]
 V4:Dn K mg "bound_at" ve a.nJ a.EU [We]
 CY:Dn K mg "new_names" sy a.hV a.sM ["taken","many"]
 RG:Dn K mg "letters_of" oB a.jP a.AH ["number"]
 y4:Dn K mg "renamed" yr a.jf a.rL [We,"called"]
 NM:Dn K mg "all_renamed" mE a.iM a.xW ["names","called"]
 wZ:Dn K mg "stand_at" nc a.jN a.v9 ["program","f","n"]
 jo:Dn K mg "stand_at_begin" fG a.dA a.jh ["program","f"]
 qm:Dn K mg "stand_with" jA a.gA a.pK ["program","n",We,"stand"]
 lQ:Dn K mg "stand_behind" gJ a.ft a.lD ["program","n",We,"arm","stand"]
 Fj:Dn K mg "uses" DG a.Ax a.MO ["program","f","n",We]
 qj:Dn K mg "taken_free" jz a.gy a.pJ ["program","f","n",We]
 w5:Dn K mg "spent_by" nh a.jO a.wa [We]
 ip:Dn K mg "laid_with" kL a.ib a.sO ["program","f","n"]
 xa:Dn K mg "naming" Bm a.lj a.wb ["new","old","source"]
 eC:Dn K mg "laid_written_out" d7 a.cR a.gU ["program","f","n"]
 yi:Dn K mg "called_anew" mD a.fV a.mP ["program","f","g"]
 kb:Dn K mg "laid_moved" jC a.gC a.pM ["program","f","n"]
 ka:Dn K mg "laid_named" jB a.gB a.pL ["program","f","n","x"]
 mY:Dn K mg "written_out" iB a.fQ a.mJ ["program","f","n"]
 Ha:Dn K mg "moved" zE a.uz a.GG ["program","f","n"]
 G9:Dn K mg "named" zD a.uy a.GF ["program","f","n","x"]
 cB:Dn K mg "with_body" sr a.eM a.ig ["program","f",W1]
 wY:Dn K mg "unknowns" m9 a.jM a.v8 ["program"]
 cX:Dn K mg "unknowns_of" iC a.fR a.mK ["program","family","kind"]
 jq:Dn K mg "piece_unknowns" fH a.dB a.ji ["program","f"]
 SV:Dn K mg "prices_of" sv a.lg a.Cp ["program","paper"]
 kr:Dn K mg "written_paper" f9 a.dW a.kg ["program","f","n","paper"]
 m4:Dn K mg "moved_paper" iE a.fT a.mM ["program","f","n","paper"]
 mZ:Dn K mg "named_paper" iD a.fS a.mL ["program","f","n","x","paper"]
 cC:Dn K mg "paper_for" sx a.eO a.ij ["program","f","laid","paper"]
 A1:Dn K mg "_law_deal" DJ a.AB a.MR [TW,Q4]
 a6:Dn K mg "_law_draw" DI a.AA a.MQ [WF,Tu]
 G7:Dn K mg "_law_words" zA a.uv a.GB [WF,Tu]
 Hc:Dn K mg "_law_kinds" zG a.uB a.GI [WF,Ty]
 xf:Dn K mg "_law_fill" DH a.Az a.MP [WF,WP,Su]
 A0:Dn K mg "_law_ended" zH a.uC a.GJ [WF,Tk,WP,SB,Th]
 Nt:Dn K mg "_law_case" DK a.AE a.MS [WF,Tk,WP,Th,Tl]
 nY:Dn K mg "_law_body" DL a.vW a.EV [WF,Tk,WP,Th,Tl]
 y8:Dn K mg "_law_program" qN a.mf a.yK [WF,Of,Tl]
 se:Dn K mg "_law_bodies" qP a.mj a.yM [Tm]
 jr:Dn K mg "_law_pieces" qO a.mh a.yL [TZ]
 xb:Dn K mg "_law_bound" vb a.pH a.Cr [TD]
 gY:Dn K mg "_law_all_gets" nk a.jT a.wm [TZ]
 He:Dn K mg "_law_ahead" zI a.uD a.GK [TD,SC]
 Hb:Dn K mg "_law_uses" zF a.uA a.GH [Tm]
 G8:Dn K mg "_law_stays" zB a.uw a.GC [Tm]
 G6:Dn K mg "_law_wrong" zz a.uu a.GA [WF,T0]
 y7:Dn K mg "_law_refused" qM a.me a.yJ [T0,Rs,SL]
 Ye:Dn K mg "law" sA a.yH a.SF [TW]
 bP:mg "len"=Y
 Zj:mg "all"=Y
 nL:mg "list"=Y
 d6:mg "tuple"=Y
 SI:mg "int"=Y
 iP:mg "dict"=Y
 nK:mg "reversed"=Y
 M4:mg "max"=Y
 Zi:mg "sum"=Y
 fB:mg "range"=Y
 jV:mg "isinstance"=Y
 SH:mg "zip"=Y
 bQ:mg "enumerate"=Y
 AK:mg "ValueError"=Y
 Q6:mg "KEPT_WORDS"=Z (.ref a.dH)
 OY:∀H:Hp,SqT K H a.dH ([("kind":Str),"def","to","let","make","call","name","case","end","pay","get","give"].map V.str)
 Wc:∃t,mg "LETTERS"=Z (.str "abcdefghijklmnopqrstuvwxyz" t)
 M0:∃t,mg "LONGEST_NAME"=Z (.int 8 t)
def Ak:Str:="abcdefghijklmnopqrstuvwxyz"
def B8:Γ:=["kind","def","to","let","make","call"]
def mH:Γ:=["name","case","end","pay","get","give"]
def kept:Γ:=B8++mH
def near:Γ:=["lets","callx","payer","ender","tom","nameb","makes","gets","giver","kinds","defs","cases"]
theorem Gd{i:Int}(h0:0<=i)(h1:i<26):atI (Str.cps Ak).toList i=Z (tu i.toNat):=by obtain⟨n,rfl⟩:∃n:Nat,i=n:=(i.toNat,bd);have h2:n<26:=bd;have h3:∀n:Fin 26,atI (Str.cps Ak).toList (n.val)=Z (tu n.val):=bn;have:=h3 (n,h2);simpa using this
theorem LX:∀w∈near,1<=w.length/\w.length<=20:=bn
def tM(m:Mk1):T:=.t [.s m.1,.t (m.2.map .s)]
def tMs(ms:List Mk1):T:=.t (ms.map tM)
def tK(k:Kd):T:=.t [.s k.1,tMs k.2]
def tKs(ks:ϕ):T:=.t (ks.map tK)
inductive Lj(ts:ϑ)(Q:ϔ):Prop
 |mk(ks:ϕ)(k:Str)(h1:ts=[tKs ks,.s k])(h2:Q (tMs (ja ks k)))
theorem aY{α:Type}{f:α->T}(h:∀x,(f x).im=O):∀xs:List α,T.ims (xs.map f)=O
 |[]=>rfl|x::r=>by show((f x).im&&T.ims (r.map f))=O;rw[h x,aY h r];rfl
theorem Gk(m:Mk1):(tM m).im=true:=by show(O&&(T.ims (m.2.map T.s)&&O))=O;rw[aY (λ_=>rfl)];rfl
theorem vQ(m:List Mk1):(tMs m).im=true:=aY Gk m
theorem B9(m:Kd):(tK m).im=true:=by show(O&&((tMs m.2).im&&O))=O;rw[vQ];rfl
theorem rG(m:ϕ):(tKs m).im=true:=aY B9 m
def zz8:Str:="zzzzzzzz"
def Rr(ws:Γ):Prop:=zz8 ∉ ws
inductive O6(ts:ϑ)(Q:ϔ):Prop
 |mk(m:Int)(h1:ts=[.dE,.i m])(h2:0<m)(h3:m<=52)(h4:∀ws:Γ,(ws.length:Int)=m->ws.Nodup->(∀w∈ws,1<=w.length/\w.length<=20)->Rr ws->Q (.l (ws.map .s)))
variable{ws:Γ}
theorem bY{w:Str}:inT (.s w) (ws.map T.s)=inV (.str w) (ws.map V.str):=by unfold inT inV;rw[ZF,ZF];rfl
theorem bw(ws:Γ):fls (ws.map T.s)=true:=by unfold fls;rw[List.all_map,RB];exact λ_ _=>rfl
theorem aL(ws:Γ):T.ims (ws.map T.s)=true:=aY (λ_=>rfl) ws
theorem noq{w z:Str}(h:z∈mH):w++("q":Str)≠z:=by
 intro e;have h1:(w++("q")).cps.toList.getLast?=Z 113:=by simp[Str.cps_append,show(Str.ofString "q").cps=#[113]from by decide +kernel]
 rw[e]at h1;have h2:∀z∈mH,z.cps.toList.getLast? ≠ Z 113:=bn;exact h2 z h h1
theorem UW{w:Str}:inV (.str (w++("q":Str))) (mH.map V.str)=false:=by cases e:inV (.str (w++("q"))) (mH.map V.str)with|false=>rfl|true=>exact absurd U (noq (fg.mp e))
theorem nG{w:Str}:inV (.str w) (kept.map V.str)=(inV (.str w) (B8.map V.str)||inV (.str w) (mH.map V.str)):=by unfold kept inV;rw[mu,List.any_append]
theorem Ra{i:Int}(h0:0<=i)(h1:i<ws.length):∃w,atI (ws.map T.s) i=Z (.s w)/\w∈ws:=by let(v,e,hm):=VQ (xs:=ws.map T.s) h0 (h1:);let(w,hw,U):=nR.mp hm;exact(w,e,hw)
structure CN(ks:ϕ):Prop where
 k1:1<=ks.length
 k2:ks.length<=3
 nd:(ks.map (·.1)).Nodup
 mn:(names ks).Nodup
 ne:∀k∈ks,k.2 ≠ []/\k.2.length<=6
 fl:∀k∈ks,∀m∈k.2,m.2.length<=4/\∀f∈m.2,f∈ks.map (·.1)
inductive Pc(ts:ϑ)(Q:ϔ):Prop
 |mk(ws:Γ)(h1:ts=[.dE,.l (ws.map .s)])(h2:ws.length=40)(h3:ws.Nodup)(h4:∀ks,CN ks->(∀m∈names ks,m∈ws)->Q (tKs ks))
variable{j:Nat}
theorem gR{w:Str}(h:ws[j]?=Z w):atI (ws.map T.s) (j:Int)=Z (.s w):=bu (by rw[fZ,h];rfl)
theorem XR(h:ws.length=40):fw (ws.map T.s) (Z 4) Y++fw (ws.map T.s) Y (Z 4)=(ws.drop 4++ws.take 4).map T.s:=by
 unfold fw;have e1:HT.sIx (ws.map T.s).length 0 (Z 4)=4:=by rw[dN,h];rfl
 have g:HT.sIx (ws.map T.s).length (ws.map T.s).length (Z 4)=4:=by rw[dN,h];rfl
 rw[e1,g];show(List.drop 4 (ws.map T.s)).take ((ws.map T.s).length-4)++(List.drop 0 (ws.map T.s)).take (4-0)=_;rw[Z7 (by rw[Ry];lia),ae0,mu,aa2,aa3]
theorem MV{α β:Type}(f:α->β)(xs:List α)(lo hi:Option Int):fw (xs.map f) lo hi=(fw xs lo hi).map f:=by unfold fw;rw[dN,<- aa2,<- aa3]
theorem Gj(ws:Γ)(lo hi:Option Int):T.ims (fw (ws.map T.s) lo hi)=true:=by rw[MV];exact aL _
theorem W3(x y:Int)(b:Bool):atI [T.i x,T.i y] (if b=O then 1 else 0)=Z (.i (if b=O then y else x)):=by cases b <;> rfl
variable{z:Int}
theorem RX{x y r:Int}(h0:0<=r)(h1:r<3):∃v,atI [T.i x,T.i y,T.i z] r=Z (.i v)/\(v=x\/v=y\/v=z):=by obtain⟨n,rfl⟩:∃n:Nat,r=n:=(r.toNat,bd);match n,h1 with| 0,_=>exact(x,U,.inl U)| 1,_=>exact(y,U,.inr (.inl U))| 2,_=>exact(z,U,.inr (.inr U))|n+3,h=>lia
theorem leK(a b:Nat)(h:‹Nat.ble a b=true›):a<=b:=ad5 h
theorem EY{α:Type}{p:α->Prop}:∀x∈([]:List α),p x:=λ_ h=>absurd h xQ
theorem all1{α:Type}{p:α->Prop}{a:α}(h:p a):∀x ∈ [a],p x:=λ_ hx=>fy.mp hx▸h
theorem all2{α:Type}{p:α->Prop}{a b:α}(h:p a)(h2:p b):∀x ∈ [a,b],p x:=λx hx=>(lb.mp hx).elim (λe=>e▸h) (all1 h2 x)
theorem Y8{α:Type}{p:α->Prop}{a b c:α}(h:p a)(h2:p b)(h3:p c):∀x ∈ [a,b,c],p x:=λx hx=>(lb.mp hx).elim (λe=>e▸h) (all2 h2 h3 x)
structure wG(ws M:Γ)(many:Nat)(ks:ϕ)(k made:Nat):Prop where
 nm:ks.map (·.1)=ws.take k
 mn:names ks=M.take made
 b1:made<=6*k
 ne:∀k∈ks,k.2 ≠ []/\k.2.length<=6
 fl:∀k∈ks,∀m∈k.2,m.2.length<=4/\∀f∈m.2,f∈ws.take many
variable{ks:ϕ}{ms:List Mk1}
theorem wG.next{M:Γ}{many:Nat}{k made g:Nat}{n:Str}(D:wG ws M many ks k made)(hn:ws[k]?=Z n)(hm:M.take made++ms.map (·.1)=M.take g)(h0:ms ≠ [])(h1:ms.length<=6)(h2:g<=made+ms.length)(h3:∀m∈ms,m.2.length<=4/\∀f∈m.2,f∈ws.take many):
  wG ws M many (ks++[(n,ms)]) (k+1) g where
 nm:=by rw[mu,D.nm,<- take_one hn];rfl
 mn:=by
  have:names (ks++[(n,ms)])=names ks++ms.map (·.1):=by unfold names;simp
  rw[this,D.mn,hm]
 b1:=by have:=D.b1;lia
 ne:=λx hx=>by
  obtain h|h:=lN.mp hx
  ·exact D.ne x h
  rw[fy.mp h];exact(h0,h1)
 fl:=λx hx=>by
  obtain h|h:=lN.mp hx
  ·exact D.fl x h
  rw[fy.mp h];exact h3
theorem wG.good{M:Γ}{many:Nat}{made:Nat}(D:wG ws M many ks many made)(hw:ws.Nodup)(g:M.Nodup)(h1:1<=many)(h2:many<=3)(hl:3<=ws.length):CN ks:=by
 have hlen:ks.length=many:=by have:=congrArg CP D.nm;rw[dN,tX]at this;lia
 refine(bd,bd,by rw[D.nm];exact hw.sublist (V0 _ _),by rw[D.mn];exact g.sublist (V0 _ _),D.ne,λk hk m hm=>?_);have z:=D.fl k hk m hm;rw[D.nm];exact z
theorem Aq{a b:Str}:decide ((Sum.inr a:Key)=.inr b)=decide (a=b):=by
 by_cases h:a=b
 ·simp
 rw[decide_eq_false h,decide_eq_false λz=>h (Sum.inr.inj z)]
variable{P:Db}{mg:Υ}{base:Ev}
theorem never{w:Da}{K:Ch}{CX:CXT}{k:Nat}{f:J}{fd:Cl}{ps:Γ}{sp:PSp}(h:∀ts Q,¬ sp ts Q):aP P w K mg base CX k f fd ps (spQ K sp):=
 (λ_ _ _ _ g=>by let(_,ts,_,Qp,_,_,z,_):=g;exact(h ts Qp z).elim,λ_ _ _ _ _ _ _ _ _ _ _ _ _ g=>by let(_,ts,_,Qp,_,_,z,_):=g;exact(h ts Qp z).elim)
def kEn(k:Kd):Key×T:=(.inr k.1,tMs k.2)
theorem vw:∀ks:ϕ,d9 (ks.map tK)=Z (ks.map kEn)
 |[]=>rfl|k::r=>by
  show(match(Z (.inr k.1)),d9 (r.map tK)with|some k',Z r=>Z ((Prod.mk k' (tMs k.2))::r)|_,_=>Y)=_;rw[vw r];rfl
theorem vI:∀{ps acc:List (Key×T)},(ps.map (·.1)).Nodup->(∀p∈ps,∀q∈acc,q.1≠p.1)->ck acc ps=acc++ps
 |[],acc,_,_=>by simp[ck]|p::ps,acc,h,hd=>by
  have h':=wh.mp h;have e:mv acc p.1 p.2=acc++[p]:=by unfold mv;rw[if_neg];intro z;let(q,hq,P):=Tf.mp z;exact hd p ba q hq (of_decide_eq_true P)
  show ck (mv acc p.1 p.2) ps=_;rw[e,vI h'.2 λK g q hq=>?_]
  ·simp
  obtain z|z:=lN.mp hq
  ·exact hd K (by simp[g]) q z
  rw[fy.mp z];exact λe=>h'.1 (nR.mpr (K,g,e.symm))
theorem P8{k:Str}(h:k∈ks.map (·.1)):cL (ks.map kEn) (.inr k)=Z (tMs (ja ks k)):=by
 unfold cL ja;induction ks with
 |nil=>cases h
 |cons x r g =>
  by_cases e:x.1=k
  ·rw[AZ,Fs,Fs,show(kEn x).1=.inr x.1 from U,Aq,decide_eq_true e];rfl
  have h':k∈r.map (·.1):=by
   obtain z|z:=lb.mp h
   ·exact absurd z.symm e
   exact z
  rw[AZ,Fs,Fs,show(kEn x).1=.inr x.1 from U,Aq,decide_eq_false e];exact g h'
theorem QU(h:(ks.map (·.1)).Nodup):ck [] (ks.map kEn)=ks.map kEn:=by
 rw[vI]
 ·rfl
 ·rw[wH];have:(ks.map ((λx=>x.1) ∘ kEn))=(ks.map (·.1)).map Sum.inr:=by rw[wH];rfl
  rw[this];exact ZO.mpr (h.imp λg z=>g (Sum.inr.inj z))
 intro p _ q hq;cases hq
theorem yC{k:Str}(g:(ks.map (·.1)).Nodup)(h:k∈ks.map (·.1)):cL (ck [] (ks.map kEn)) (.inr k)=Z (tMs (ja ks k)):=by rw[QU g,P8 h]
structure cJ(ks:ϕ):Prop where
 k1:1<=ks.length
 k2:ks.length<=6
 nd:(ks.map (·.1)).Nodup
 mn:(names ks).Nodup
 ne:∀k∈ks,k.2 ≠ []/\k.2.length<=6
 fl:∀k∈ks,∀m∈k.2,m.2.length<=4/\∀f∈m.2,f∈ks.map (·.1)
theorem VP{r:Int}(h0:0<=r)(h1:r.toNat<ws.length):atI (ws.map ϙ) r=Z (.s ws[r.toNat]):=by
 have:=gR (ws:=ws) (j:=r.toNat) (w:=ws[r.toNat]) (by simp[h1])
 rwa [Xx h0]at this
abbrev Sc:=List (Str×Str)
def tP(p:Str×Str):T:=.t [.s p.1,.s p.2]
theorem fh(p:Str×Str):(tP p).im=true:=rfl
def Fills(sc:Sc)(ns fs:Γ):Prop:=ns.length=fs.length/\∀p∈ns.zip fs,p∈sc
variable{sc:Sc}{ns:Γ}
theorem Fills.snoc{fs:Γ}{n f:Str}(h:Fills sc ns fs)(hp:(n,f)∈sc):Fills sc (ns++[n]) (fs++[f]):=by
 refine(by simp[h.1],λp g=>?_);rw[List.zip_append h.1]at g;obtain z|z:=lN.mp g
 ·exact h.2 p z
 simp at z;rw[z];exact hp
inductive DV(ts:ϑ)(Q:ϔ):Prop
 |mk(sc:Sc)(fs:Γ)(t:T)(h1:(t=.t (fs.map .s)\/t=.l (fs.map .s)))(h2:ts=[.dE,.l (sc.map tP),t])(h3:sc.length<=60)(h4:fs.length<=1000)(h5:Q .n)(h6:∀ns:Γ,Fills sc ns fs->Q (.t (ns.map .s)))
abbrev Hd:=Str×Sc×Str
def tH(h:Hd):T:=.t [.s h.1,.t (h.2.1.map tP),.s h.2.2]
theorem Xr(h:Hd):(tH h).im=true:=by show(O&&(T.ims (h.2.1.map tP)&&O))=O;rw[aY fh];rfl
def tW(ks:ϕ)(hs:List Hd)(ws:Γ):T:=.t [tKs ks,.l (hs.map tH),.l (ws.map .s)]
structure Wld(ks:ϕ)(hs:List Hd)(ws:Γ):Prop where
 gk:cJ ks
 wl:ws.length=40
 wn:ws.Nodup
 h1:1<=hs.length
 h8:hs.length<=8
 hn:(hs.map (·.1)).Nodup
 hp:∀h∈hs,h.2.1.length<=4/\(∀p∈h.2.1,p.2∈ks.map (·.1))/\h.2.1.map (·.1)=ws.take h.2.1.length/\h.2.2∈ks.map (·.1)
structure wF(ks:ϕ)(ws:Γ)(h:Hd)(sc:Sc):Prop where
 nm:sc.map (·.1)=ws.take sc.length
 ln:sc.length<=30
 kd:∀p∈sc,p.2∈ks.map (·.1)
 p1:h.2.1.length<=sc.length
 pf:sc.take h.2.1.length=h.2.1
abbrev Arm:=Str×Γ×T×Nat
def tA(a:Arm):T:=.t [.s a.1,.t (a.2.1.map .s),a.2.2.1]
inductive Nz(ub9:Γ):ϔ
 |give{x:Str}:Nz ub9 (.t [.s "give",.s x])|bJ{w:Str}{c:Int}{b:L2.T}:Nz ub9 b->Nz ub9 (.t [.s w,.i c,b])|name{x y:Str}{b:L2.T}:x∈ub9->Nz ub9 b->Nz ub9 (.t [.s "name",.s x,.s y,b])|use{w x m:Str}{ns:Γ}{b:L2.T}:x∈ub9->Nz ub9 b->Nz ub9 (.t [.s w,.s x,.s m,.t (ns.map .s),b])|case{x:Str}{arms:List Arm}:(∀a∈arms,∀y∈a.2.1,y∈ub9)->(∀a∈arms,Nz ub9 a.2.2.1)->Nz ub9 (.t [.s "case",.s x,.t (arms.map tA)])
structure Dz(ub9:Γ)(n:Nat)(b:L2.T):Prop where
 d:Dep n b
 z:Nz ub9 b
theorem Dz.mono{ub9:Γ}{n m:Nat}{b:L2.T}(h:Dz ub9 n b)(l:n<=m):Dz ub9 m b:=(h.d.mono l,h.z)
inductive Snd(ks:ϕ)(hs:List Hd)(r:Str):Nat->Sc->T->Prop
 |give{sc:Sc}{x:Str}:(x,r)∈sc->Snd ks hs r 1 sc (.t [.s "give",.s x])|bJ{n:Nat}{sc:Sc}{w:Str}{c:Int}{b:T}:(w="pay" \/ w="get")->0<=c->Snd ks hs r n sc b->Snd ks hs r (n+1) sc (.t [.s w,.i c,b])|name{n:Nat}{sc:Sc}{x y k:Str}{b:T}:(y,k)∈sc->x ∉ sc.map (·.1)->Snd ks hs r n (sc++[Prod.mk x k]) b->Snd ks hs r (n+1) sc (.t [.s "name",.s x,.s y,b])|make{n:Nat}{sc:Sc}{x:Str}{m:Mk1}{kd:Kd}{ns:Γ}{b:T}:kd∈ks->m∈kd.2->Fills sc ns m.2->x ∉ sc.map (·.1)->Snd ks hs r n (sc++[(x,kd.1)]) b->Snd ks hs r (n+1) sc (.t [.s "make",.s x,.s m.1,.t (ns.map .s),b])|call{n:Nat}{sc:Sc}{x:Str}{h:Hd}{ns:Γ}{b:T}:h∈hs->Fills sc ns (h.2.1.map (·.2))->x ∉ sc.map (·.1)->Snd ks hs r n (sc++[(x,h.2.2)]) b->Snd ks hs r (n+1) sc (.t [.s "call",.s x,.s h.1,.t (ns.map .s),b])|case{sc:Sc}{x:Str}{kd:Kd}(arms:List Arm):(x,kd.1)∈sc->kd∈ks->arms.map (·.1)=kd.2.map (·.1) ->
   (∀(i:Nat)(a:Arm)(m:Mk1),arms[i]?=Z a->kd.2[i]?=Z m->a.2.1.length=m.2.length/\(sc.map (·.1)++a.2.1).Nodup) ->
   (∀(i:Nat)(a:Arm)(m:Mk1),arms[i]?=Z a->kd.2[i]?=Z m->Snd ks hs r a.2.2.2 (sc++a.2.1.zip m.2) a.2.2.1) ->
   Snd ks hs r (1+(arms.map (·.2.2.2)).sum) sc (.t [.s "case",.s x,.t (arms.map tA)])
theorem Snd.im{ks:ϕ}{hs:List Hd}{r:Str}{n:Nat}{sc:Sc}{b:T}(h:Snd ks hs r n sc b):b.im=true:=by
 induction h with
 |give _=>rfl|bJ _ _ _ g=>show(O&&(O&&(T.im _&&O)))=O;rw[g];rfl|name _ _ _ g=>show(O&&(O&&(O&&(T.im _&&O))))=O;rw[g];rfl|make _ _ _ _ _ g=>show(O&&(O&&(O&&(T.ims _&&(T.im _&&O)))))=O;rw[g,aL];rfl|call _ _ _ _ g=>show(O&&(O&&(O&&(T.ims _&&(T.im _&&O)))))=O;rw[g,aL];rfl|@case sc x kd arms _ _ hn _ _ g =>
  show(O&&(O&&(T.ims (arms.map tA)&&O)))=O;have:T.ims (arms.map tA)=true:=by
   have go:∀(l:List T),(∀t∈l,t.im=O)->T.ims l=true:=by
    intro l;induction l with
    |nil=>intro _;rfl
    |cons t r g=>intro h;show(t.im&&T.ims r)=O;rw[h t j4,g λt q=>h t (j6 _ q)];rfl
   refine go _ λt q=>?_;let(a,K,U):=nR.mp q;let(i,hi,e):=ro K;have hl:kd.2.length=arms.length:=by have:=congrArg CP hn;simpa using this.symm
   have z:=g i a (kd.2[i]' bd) (by rw[fY hi,e]) (fY _);show(O&&(T.ims (a.2.1.map .s)&&(a.2.2.1.im&&O)))=O;rw[z,aL];rfl
  rw[this];rfl
def tb:Nat->List Nat
 | 0=>[2]|n+1=>(1+max ((tb n).getD 0 2) (max ((tb n).getD 1 2) (max (2*(tb n).getD 2 2) (max (3*(tb n).getD 3 2) (max (4*(tb n).getD 4 2) (max (5*(tb n).getD 5 2) (6*(tb n).getD 6 2)))))))::tb n
def sz(n:Nat):Nat:=(tb n).getD 0 2
theorem kE:∀n k:Nat,(tb n).getD k 2=sz (n-k)
 | 0,0=>rfl| 0,k+1=>by rw[Nat.zero_sub];rfl|n+1,0=>rfl|n+1,k+1=>by
  rw[Nat.add_sub_add_right,<- kE n k];rfl
theorem N8(n:Nat):sz (n+1)=1+max (sz n) (max (sz (n-1)) (max (2*sz (n-2)) (max (3*sz (n-3)) (max (4*sz (n-4)) (max (5*sz (n-5)) (6*sz (n-6))))))):=by show 1+max ((tb n).getD 0 2) _=_;rw[kE,kE,kE,kE,kE,kE,kE];rfl
theorem Dx(n:Nat):1+sz n<=sz (n+1):=by exact aa9 (ZK _ _) 1
theorem JT:∀n:Nat,2<=sz n
 | 0=>mz _|n+1=>by have:=Dx n;have:=JT n;lia
variable{n:Nat}
theorem Oa{k:Nat}(h1:1<=k)(h6:k<=6):1+k*sz (n-k)<=sz (n+1):=by
 rw[N8];have:k=1\/k=2\/k=3\/k=4\/k=5\/k=6:=bd;have r:∀{a b c:Nat},a<=c->a<=max b c:=λh=>tY h (Nat.le_max_right _ _);refine aa9 ?_ 1;obtain rfl|rfl|rfl|rfl|rfl|rfl:=this
 ·rw[Nat.one_mul];exact r (ZK _ _)
 ·exact r (r (ZK _ _))
 ·exact r (r (r (ZK _ _)))
 ·exact r (r (r (r (ZK _ _))))
 ·exact r (r (r (r (r (ZK _ _)))))
 exact r (r (r (r (r (r (mz _))))))
variable{m:Nat}
theorem N9(h:n<=m):sz n<=sz m:=by induction h with|refl=>exact mz _|step _ g=>exact tY g (tY (Nat.le_add_left _ _) (Dx _))
theorem Wu:sz 30<=50000:=bn
variable{kd:Kd}
theorem BX(g:(ks.map (·.1)).Nodup)(h:kd∈ks):ja ks kd.1=kd.2:=by
 unfold ja;induction ks with
 |nil=>cases h
 |cons x r q =>
  rw[AZ,wh]at g;by_cases e:x.1=kd.1
  ·obtain z|z:=lb.mp h
   ·subst z;simp
   exact absurd (nR.mpr (kd,z,e.symm)) g.1
  rw[Fs,decide_eq_false e];obtain z|z:=lb.mp h
  ·exact absurd (by rw[z]) e
  exact q g.2 z
theorem R6{k:Str}(h:k∈ks.map (·.1)):∃kd∈ks,kd.1=k:=by let(kd,h1,h2):=nR.mp h;exact(kd,h1,h2)
variable{x:Str}
theorem wF.fresh{h:Hd}(S:wF ks ws h sc)(wn:ws.Nodup)(hx:ws[sc.length]?=Z x):x ∉ sc.map (·.1):=by rw[S.nm];intro z;have q:=wn.sublist (V0 (sc.length+1) ws);rw[<- take_one hx]at q;exact(yf.mp q).2.2 x z x ba U
theorem wF.snoc{h:Hd}{k:Str}(S:wF ks ws h sc)(hx:ws[sc.length]?=Z x)(hl:sc.length<30)(hk:k∈ks.map (·.1)):wF ks ws h (sc++[Prod.mk x k]) where
 nm:=by rw[mu,S.nm,g5];exact take_one hx
 ln:=by simp;lia
 kd:=λp hp=>by
  obtain z|z:=lN.mp hp
  ·exact S.kd p z
  rw[fy.mp z];exact hk
 p1:=by rw[g5];have:=S.p1;lia
 pf:=by rw[aa6 S.p1];exact S.pf
inductive ug(ts:ϑ)(Q:ϔ):Prop
 |mk(ks:ϕ)(hs:List Hd)(ws:Γ)(sc:Sc)(f:Nat)(h:Hd)(h1:ts=[.dE,tW ks hs ws,.l (sc.map tP),.s h.2.2,.i f])(h2:Wld ks hs ws)(h3:hs[f]?=Z h)(h4:wF ks ws h sc)(h5:∀n b,n<=2->Snd ks hs h.2.2 n sc b->Dz ws 2 b->Q b)
inductive nA(N:Nat)(ts:ϑ)(Q:ϔ):Prop
 |mk(ks:ϕ)(hs:List Hd)(ws:Γ)(sc:Sc)(f:Nat)(h:Hd)(u:Int)(h1:ts=[.dE,tW ks hs ws,.l (sc.map tP),.i f,.rm u])(h2:Wld ks hs ws)(h3:hs[f]?=Z h)(h4:wF ks ws h sc)(h5:sc.length<=21)(h6:u.toNat<N)(h7:∀n b,n<=sz u.toNat->Snd ks hs h.2.2 n sc b->Dz ws (3*u.toNat+2) b->Q b)
inductive UB(N:Nat)(ts:ϑ)(Q:ϔ):Prop
 |mk(ks:ϕ)(hs:List Hd)(ws:Γ)(sc:Sc)(f:Nat)(h:Hd)(u:Int)(h1:ts=[.dE,tW ks hs ws,.l (sc.map tP),.i f,.rm u])(h2:Wld ks hs ws)(h3:hs[f]?=Z h)(h4:wF ks ws h sc)(h5:sc.length<=17)(h6:sc ≠ [])(h7:u.toNat<N)(h8:∀n b,n<=sz (u.toNat+1)->Snd ks hs h.2.2 n sc b->Dz ws (3*u.toNat+5) b->Q b)
theorem MT{α:Type}{xs:List α}(h:n<=xs.length):fw xs Y (Z (n:Int))=xs.take n:=by unfold fw;rw[HT.vf,HT.oC,QL h,ae0,Nat.sub_zero]
theorem Fills.self:Fills sc ((sc.take n).map (·.1)) ((sc.take n).map (·.2)):=by refine(ba,λp hp=>?_);rw[List.zip_map',nR]at hp;let(q,hq,U):=hp;exact Ff hq
theorem Fm{fs:Γ}(h:ns.length=fs.length):(ns.zip fs).map (·.1)=ns:=by rw[aa0 bd]
theorem wF.more{h:Hd}{fs:Γ}(S:wF ks ws h sc)(wn:ws.Nodup)(e:ns=(ws.drop sc.length).take fs.length)(hl:sc.length+fs.length<=30)(hw:40<=ws.length)(hk:∀f∈fs,f∈ks.map (·.1)):
  ns.length=fs.length/\(sc.map (·.1)++ns).Nodup/\wF ks ws h (sc++ns.zip fs):=by
 have l1:ns.length=fs.length:=by rw[e,tX,Ry];lia
 have g:sc.map (·.1)++ns=ws.take (sc.length+fs.length):=by rw[S.nm,e,List.take_add]
 have q:(ns.zip fs).length=fs.length:=by rw[Zt];lia
 refine(l1,by rw[g];exact wn.sublist (V0 _ _),(?_,?_,λp hp=>?_,?_,?_))
 ·rw[mu,Fm l1,g,g5,q]
 ·rw[g5];lia
 ·obtain z|z:=lN.mp hp
  ·exact S.kd p z
  exact hk p.2 (Zm z).2
 ·rw[g5];have:=S.p1;lia
 rw[aa6 S.p1];exact S.pf
variable{arms:List Arm}{ύ:Nat}
theorem Ts(h:∀a∈arms,a.2.2.2<=ύ):(arms.map (·.2.2.2)).sum<=arms.length*ύ:=by induction arms with|nil=>simp|cons a r g =>have h1:=h a j4;have h2:=g λb q=>h b (j6 _ q);rw[AZ,aa5,tZ,Nat.add_mul];lia
structure SX(ub9:Γ)(ks:ϕ)(hs:List Hd)(r:Str)(sc:Sc)(ύ D:Nat)(a:Arm)(m:Mk1):Prop where
 nm:a.1=m.1
 ln:a.2.1.length=m.2.length
 nd:(sc.map (·.1)++a.2.1).Nodup
 sn:Snd ks hs r a.2.2.2 (sc++a.2.1.zip m.2) a.2.2.1
 sz:a.2.2.2<=ύ
 dp:Dz ub9 D a.2.2.1
 nz:∀y∈a.2.1,y∈ub9
structure t5(ub9:Γ)(ks:ϕ)(hs:List Hd)(r:Str)(sc:Sc)(ύ D:Nat)(arms:List Arm)(ms:List Mk1):Prop where
 ln:arms.length=ms.length
 ok:∀(i:Nat)(a:Arm)(m:Mk1),arms[i]?=Z a->ms[i]?=Z m->SX ub9 ks hs r sc ύ D a m
variable{ub9:Γ}{hs:List Hd}{r:Str}{D:Nat}
theorem t5.snoc{a:Arm}{m:Mk1}(h:t5 ub9 ks hs r sc ύ D arms ms)(q:SX ub9 ks hs r sc ύ D a m):t5 ub9 ks hs r sc ύ D (arms++[a]) (ms++[m]):=by
 refine(by simp[h.ln],λi z m' h1 h2=>?_);by_cases hi:i<arms.length
 ·rw[u4 hi]at h1;rw[u4 (by rw[<- h.ln];exact hi)]at h2;exact h.ok i z m' h1 h2
 rw[u6 bd]at h1;rw[u6 (by rw[<- h.ln];omega),<- h.ln]at h2;have g:i-arms.length=0:=by have:=(gs.mp h1).1;simp at this;omega
 rw[g]at h1 h2;simp at h1 h2;subst h1 h2;exact q
theorem t5.snd(h:t5 ub9 ks hs r sc ύ D arms kd.2)(hx:(x,kd.1)∈sc)(hk:kd∈ks):Snd ks hs r (1+(arms.map (·.2.2.2)).sum) sc (.t [.s "case",.s x,.t (arms.map tA)])/\(arms.map (·.2.2.2)).sum<=arms.length*ύ:=by
 refine(.case arms hx hk ?_ (λi a m h1 h2=>((h.ok i a m h1 h2).ln,(h.ok i a m h1 h2).nd)) (λi a m h1 h2=>(h.ok i a m h1 h2).sn),Ts λa q=>?_)
 ·apply List.ext_getElem?;intro i;rw[fZ,fZ];by_cases hi:i<arms.length
  ·have e1:=fY hi;have g:kd.2[i]?=Z (kd.2[i]'(by rw[<- h.ln];exact hi)):=fY _;rw[e1,g];exact congrArg Z (h.ok i _ _ e1 g).nm
  rw[RF bd,RF (by rw[<- h.ln];omega)];rfl
 let(i,hi,e):=ro q;exact(h.ok i a _ (by rw[fY hi,e]) (fY (by rw[<- h.ln];exact hi))).sz
theorem kX{α:Type}{xs:List α}{f:α->T}{r:Int}(h0:0<=r)(h1:r<xs.length):∃x∈xs,atI (xs.map f) r=Z (f x):=by
 have h:r.toNat<xs.length:=bd;refine(xs[r.toNat],Jr h,?_);have:=bu (xs:=xs.map f) (by rw[fZ,fY h];rfl)
 rwa [Xx h0]at this
theorem max_two{r r':Int}(K:0<=r)(z:r<n)(q:0<=r')(g:r'<n):0 <=(if r' > r then r' else r)/\(if r' > r then r' else r)<n:=by split <;> lia
theorem Jt{α β:Type}{A:List α}{ύ:List β}{a:α}{b:β}(q:A[j]?=Z a)(g:ύ[j]?=Z b):(A.take (j+1)).zip (ύ.take (j+1))=(A.take j).zip (ύ.take j)++[(a,b)]:=by have h1:=(gs.mp q).1;have h2:=(gs.mp g).1;rw[rr,rr,q,g,List.zip_append (by rw[tX,tX];lia)];rfl
theorem t5.im{ub9:Γ}{ks:ϕ}{hs:List Hd}{r:Str}{sc:Sc}{ύ D:Nat}{arms:List Arm}{ms:List Mk1}(h:t5 ub9 ks hs r sc ύ D arms ms):T.ims (arms.map tA)=true:=by
 have go:∀(l:List T),(∀t∈l,t.im=O)->T.ims l=true:=by
  intro l;induction l with
  |nil=>intro _;rfl
  |cons t r q=>intro h;show(t.im&&T.ims r)=O;rw[h t j4,q λt g=>h t (j6 _ g)];rfl
 refine go _ λt g=>?_;let(a,K,U):=nR.mp g;let(i,hi,e):=ro K;have z:=(h.ok i a _ (by rw[fY hi,e]) (fY (by rw[<- h.ln];exact hi))).sn.im;show(O&&(T.ims (a.2.1.map .s)&&(a.2.2.1.im&&O)))=O;rw[z,aL];rfl
theorem Cn{l:Γ}:Dep (n+1) (.t (l.map .s)):=Dep.t λx hx=>by
 let(z,_,U):=nR.mp hx;exact Dep.s
theorem ie:∀x∈([]:List T),Dep n x:=nofun
theorem cI{t:T}{ts:List T}(h:Dep n t)(hs:∀x∈ts,Dep n x):∀x∈t::ts,Dep n x:=λx hx=>(lb.mp hx).elim (λe=>e▸h) (hs x)
theorem MM:Dep (n+1) (.t [.s "give",.s x]):=Dep.t (cI Dep.s (cI Dep.s ie))
theorem IT{w:Str}{c:Int}{b:T}(h:Dep D b):Dep (D+1) (.t [.s w,.i c,b]):=Dep.t (cI Dep.s (cI Dep.i (cI h ie)))
variable{y:Str}
theorem MK{w:Str}{b:T}(h:Dep D b):Dep (D+1) (.t [.s w,.s x,.s y,b]):=Dep.t (cI Dep.s (cI Dep.s (cI Dep.s (cI h ie))))
theorem ML{w:Str}{b:T}(h:Dep D b)(h1:1<=D):Dep (D+1) (.t [.s w,.s x,.s y,.t (ns.map .s),b]):=by obtain⟨k,rfl⟩:∃k,D=k+1:=(D-1,bd);exact Dep.t (cI Dep.s (cI Dep.s (cI Dep.s (cI Cn (cI h ie)))))
theorem t5.dep(h:t5 ub9 ks hs r sc ύ D arms ms)(h1:1<=D):Dep (D+3) (.t [.s "case",.s x,.t (arms.map tA)]):=by obtain⟨k,rfl⟩:∃k,D=k+1:=(D-1,bd);refine Dep.t (cI Dep.s (cI Dep.s (cI (Dep.t λt g=>?_) ie)));let(a,q,U):=nR.mp g;let(i,hi,e):=ro q;exact Dep.t (cI Dep.s (cI Cn (cI (h.ok i a _ (by rw[fY hi,e]) (fY (by rw[<- h.ln];exact hi))).dp.d ie)))
theorem AF:Dz ub9 (n+1) (.t [.s "give",.s x]):=(MM,.give)
theorem MH{w:Str}{c:Int}{b:T}(h:Dz ub9 D b):Dz ub9 (D+1) (.t [.s w,.i c,b]):=(IT h.d,.bJ h.z)
theorem QQ{b:T}(hx:x∈ub9)(h:Dz ub9 D b):Dz ub9 (D+1) (.t [.s "name",.s x,.s y,b]):=(MK h.d,.name hx h.z)
theorem uE{w:Str}{b:T}(hx:x∈ub9)(h:Dz ub9 D b)(h1:1<=D):Dz ub9 (D+1) (.t [.s w,.s x,.s y,.t (ns.map .s),b]):=(ML h.d h1,.use hx h.z)
theorem t5.dz(h:t5 ub9 ks hs r sc ύ D arms ms)(h1:1<=D):Dz ub9 (D+3) (.t [.s "case",.s x,.t (arms.map tA)]):=by
 have q:∀a∈arms,(∀y∈a.2.1,y∈ub9)/\Nz ub9 a.2.2.1:=λa g=>by
  let(i,hi,e):=ro g;have q:=h.ok i a _ (by rw[fY hi,e]) (fY (by rw[<- h.ln];exact hi));exact(q.nz,q.dp.z)
 exact(h.dep h1,.case (λa g=>(q a g).1) λa g=>(q a g).2)
abbrev Fn:=Hd×T×Nat
abbrev ϖ:=List Fn
def tF(f:Fn):T:=.t [.s f.1.1,.t (f.1.2.1.map tP),.s f.1.2.2,f.2.1]
structure Prog(ks:ϕ)(fs:ϖ):Prop where
 gk:cJ ks
 l8:fs.length<=8
 hn:(fs.map (·.1.1)).Nodup
 pk:∀f∈fs,f.1.2.1.length<=4/\(∀p∈f.1.2.1,p.2∈ks.map (·.1))/\(f.1.2.1.map (·.1)).Nodup/\f.1.2.2∈ks.map (·.1)
 sn:∀f∈fs,Snd ks (fs.map (·.1)) f.1.2.2 f.2.2 f.1.2.1 f.2.1/\f.2.2<=50000
 dp:∀f∈fs,Dep 92 f.2.1
theorem CN.p(g:CN ks):cJ ks:=(g.k1,by have:=g.k2;lia,g.nd,g.mn,g.ne,g.fl)
inductive HW(ts:ϑ)(Q:ϔ):Prop
 |mk(m u:Int)(h1:ts=[.dE,.i m,.i u])(h2:0<m)(h3:m<=8)(h4:0<=u)(h5:u<=30)(h6:∀ks fs ws,Rr ws->Prog ks fs->CN ks->fs ≠ []->(∀f∈fs,f.2.2<=sz u.toNat)->fs.length<=m.toNat->(∀f∈fs,Dz ws (3*u.toNat+2) f.2.1/\∀p∈f.1.2.1,p.1∈ws)->Q (.t [tKs ks,.t (fs.map tF)]))
def tm(o:Nat)(f:Nat):Nat:=if o=0 then f else 39-f
structure yV(ks:ϕ)(ws:Γ)(o:Nat)(hs:List Hd)(i:Nat):Prop where
 ln:hs.length=i
 nm:hs.map (λh=>Z h.1)=(Fc i).map λf=>ws[tm o f]?
 hp:∀h∈hs,h.2.1.length<=4/\(∀p∈h.2.1,p.2∈ks.map (·.1))/\h.2.1.map (·.1)=ws.take h.2.1.length/\h.2.2∈ks.map (·.1)
theorem yV.snoc{o:Nat}{i:Nat}{h:Hd}(H:yV ks ws o hs i)(hn:ws[tm o i]?=Z h.1)(hp:h.2.1.length<=4/\(∀p∈h.2.1,p.2∈ks.map (·.1))/\h.2.1.map (·.1)=ws.take h.2.1.length/\h.2.2∈ks.map (·.1)):yV ks ws o (hs++[h]) (i+1) where
 ln:=by simp[H.ln]
 nm:=by rw[mu,H.nm,List.range_succ];simp[hn]
 hp:=λh' hm=>by
  obtain z|z:=lN.mp hm
  ·exact H.hp h' z
  rw[fy.mp z];exact hp
theorem yV.nd{o:Nat}{i:Nat}(H:yV ks ws o hs i)(hl:ws.length=40)(wn:ws.Nodup)(hi:i<=8):(hs.map (·.1)).Nodup:=by
 have e:(hs.map (·.1)).map Z=(Fc i).map λf=>ws[tm o f]?:=by rw[<- H.nm,wH];rfl
 have n:((Fc i).map λf=>ws[tm o f]?).Nodup:=by
  refine ZO.mpr (List.Pairwise.imp_of_mem (λ{a b} q P g z=>?_) (List.nodup_range));have q:=ZQ.mp q;have l1:tm o a<ws.length:=by unfold tm;split <;> lia
  have K:=z;have:=(List.getElem?_inj l1 wn).mp K;unfold tm at this;split at this <;> lia
 rw[<- e]at n;exact(ZO.mp n).imp λg z=>g (by rw[z])
theorem R3{l:Θ}(h:l.Nodup){x y:J}(i j:Nat)(hi:l[i]?=Z x)(g:l[j]?=Z y)(ne:i≠j):x≠y:=λz=>by
 subst z;let(h1,e1):=gs.mp hi;let(h2,q):=gs.mp g;exact ne ((ac1 h).mp (e1.trans q.symm))
variable{C:J}
theorem Tv{ύ C':J}(h1:C'≠C)(h2:C'≠ύ):(B.ref C :: .ref ύ::bmV).contains (.ref C')=false:=by have e1:(B.ref C'==B.ref C)=false:=beq_eq_false_iff_ne.mpr λz=>h1 (B.ref.inj z);have g:(B.ref C'==B.ref ύ)=false:=beq_eq_false_iff_ne.mpr λz=>h2 (B.ref.inj z);rw[x2,x2,e1,g];rfl
variable{bm:Δ}
theorem Tw:(B.ref C::bm).contains (.ref C)=true:=by rw[x2,beq_self_eq_true,ad0]
theorem Tt{ύ:J}:(B.ref C :: .ref ύ::bm).contains (.ref ύ)=true:=by rw[x2,x2,beq_self_eq_true,ad0,ab2]
section
variable{K:Ch}{fn:Γ}{C C':J}{bm:Δ}{ini:Option J}{i:Nat}{qs:QS}{qr:QH}{ns:Γ}{us:List T}{D:cM}{q:Sq}
theorem X0(c:di K fn C bm ini)(h:(B.ref C::bm).contains (.ref C')=O)(k:qs (D.go i) (q.set i (.r (.xc C ns us)))):T6 K fn C' i qs qr C ns us D q:=(bm,ini,c,by rw[if_pos h];exact k)
end
theorem P1:∀w∈near,w≠zz8:=bn
def i6:PSp:=λ_ _=>False
theorem cQ{w:Da}{K:Ch}{CX:CXT}{k:Nat}{f:J}{fd:Cl}{ps:Γ}:aP P w K mg base CX k f fd ps (spQ K i6):=never λ_ _ h=>h
open PyProof.Rows in
theorem yo(z:Str)(lo hi:Option Int):(Txt.slice z lo hi).length<=HT.sIx z.length z.length hi-HT.sIx z.length 0 lo:=by
 let(h1,h2,h3):=oj lo hi z.length;have e:Builtin.Str.strSliceIndices lo hi 1 z.length=sliceRange (sliceBounds lo hi Y z.length).1 (sliceBounds lo hi Y z.length).2.1 1:=rfl;rw[h1,h2,sliceRange_one]at e;have g:=congrArg CP e;simp at g;unfold Txt.slice;split
 ·rename_i h;simp at h;omega
 show(List.filterMap (λx=>z.cps[x]?) (Builtin.Str.strSliceIndices lo hi 1 z.length)).toArray.size<=_;rw[qg];refine tY (List.length_filterMap_le _ _) ?_;omega
theorem N0{core:Str}{at_ tn:Int}{i:Nat}(h4:core.length<=4)(z:0<=at_)(a1:at_<=core.length)(hi:i<52)(e:wordOf kept (Txt.slice core Y (Z at_)) (Txt.slice core (Z at_) Y) tn.toNat i=zz8):False:=by
 let(k,U):=Fd z;have l1:=yo core Y (Z (k:Int));have l2:=yo core (Z (k:Int)) Y;rw[HT.oC,HT.vf]at l1 l2;have g:=rP (Txt.slice core Y (Z (k:Int))) (Txt.slice core (Z (k:Int)) Y) tn.toNat i;unfold wordOf at e;generalize dS _ _ _ _=w at e g;have l8:zz8.length=8:=bn;split at e
 ·have h1:(w++("q":Str)).cps.toList.getLast?=Z 113:=by simp[Str.cps_append,show(Str.ofString "q").cps=#[113]from by decide +kernel]
  rw[e]at h1;exact absurd h1 bn
 have le:=congrArg Str.length e;rw[Str.length_append,show Str.empty.length=0 from U,l8]at le;omega
theorem st{w v:Str}(h:w=v):decide ((ϙ w).v=(ϙ v).v)=true:=decide_eq_true (by rw[h])
theorem sf{w v:Str}(h:w≠v):¬ decide ((ϙ w).v=(ϙ v).v)=true:=λz=>h (V.str.inj (of_decide_eq_true z))
theorem nf{w v:Str}(h:w≠v):(!decide ((ϙ w).v=(ϙ v).v))=true:=by rw[Zx];exact Z5.mpr (sf h)
variable{N:Nat}{fm:Int}{sc':Sc}{os:ϗ}{o:Option Str}{sp:Int}{q:Sq}{Q:Bool->Prop}{xs:Γ}
section
variable{P:Db}{w:Da}{K:Ch}{mg:Υ}{base:Ev}{a:Adr}
theorem g8(T:Txt K mg a):aP P w K mg base CX0 1 a.AA a.MQ [WF,Tu] JU:=by
 refine T.a6.F.ok t9 (λvs H Q E h=>?_) (λcdv A outer s H vs Q E hr h=>?_)
 ·let(d,l,m,U,_):=h;rfl
 let(d,l,m,U,(s0,n0,aF,D0),m0,m1,k):=h;have q:=bj hr;refine(_,((bI (By PassesOwn.never (PW.pt (K7 (oJ RY (jF q (pv 0) d8 (λ_ _=>rfl)) bV (bW _)) (FQ (oJ F5 (i7 pS be T.bP PySem.boot_len (bp (jF q (pv 0) d8 (λ_ _=>rfl)) cY)) bV (bW _)))))
(gx (uf q (pv 0) d8 (LA PySem.F.plainAttrs_list PySem.F.slot_list_pop PySem.F.type_list_pop LZ (jF q (pv 0) d8 (λ_ _=>rfl))) U)))
(bI (jE (i:=2) t9.nd U (Or.inl U) (jF q (pv 0) d8 (λ_ _=>rfl)))
(bI (Lf (oJ F5 (pv 2) bV (bW _))
(bI (uf q (pv 0) d8 (c6 BK (pv 2) (pv 1)) U)
(gx (qW (c6 jG (pv 2) (pv 1)))))
FU)
(bI (jE (i:=3) t9.nd U (Or.inl U) (c6 jG (c6 qY (c6 nB (jF q (pv 0) d8 (λ_ _=>rfl)) bV) bV) bV))
(bI (uf q (pv 0) d8 (c6 jG (c6 qY (c6 nB (pv 3) bV) bV) bV) U)
(bI (jE (i:=4) t9.nd U (Or.inl U) (c6 jG (c6 nB (jF q (pv 0) d8 (λ_ _=>rfl)) (jF q (pv 0) d8 (λ_ _=>rfl))) bV))
(gx (qW (c6 jG (c6 qY (c6 nB (c6 jG (c6 nB (pv 3) (pv 3)) bV) bV) (pv 4)) (pv 1))))))))))),?_)
 refine Hx (λc σ H1=>∃s n ls,σ=[Z (.ref d),Z (.int m),Y,Y,Y]/\dg H1 d l s n ls/\Kp d l H H1/\c=ls.length) (s0,n0,aF,U,D0,Kp.refl,U) ?_ ?_
 ·rintro c σ H1 ⟨s1,n1,ls,rfl,D,K1,rfl⟩;refine(_,U,d,_,U,D.XI,?_);refine(_,U,_,_,U,U,_,U,?_);refine ay (λh1=>?_) (λh1=>?_)
  ·have h1:0<n1:=of_decide_eq_true h1;have q0:0<=n1 / m:=Int.ediv_nonneg bd bd;refine(_,U,_,U,_,_,U,U,(m0,m1),_,U,d,_,U,D.W0,?_);refine(_,U,_,U,_,_,U,U,m0,?_);exact k _ _ (mod_lt m0).1 (mod_lt m0).2 (_,_,_,D.num q0) K1.S8
  refine(_,U,d,_,U,D.Mx,_,_,U,U,.inr (ad,ad),_,_,U,U,_,_,U,U,(by show(0:Int)<2147483647;decide),?_);have b2:=mod_lt (x:=(s1*48271+7919) % 2147483647*40692+104729) (m:=2147483399) ad;refine(_,U,_,_,U,U,.inr (ad,ad),_,_,U,U,_,_,U,U,(by show(0:Int)<2147483399;decide),_,U,d,_,U,D.WV,?_);have z:=D.Ym (m:=((s1*48271+7919) % 2147483647*40692+104729) % 2147483399) b2.1 bd;refine(_,U,d,_,U,z.Mx,_,U,d,_,U,z.Mx,_,_,U,U,.inl (bd,bd),_,_,U,U,(by show(0:Int)<2147483563;decide),?_);refine(_,U,_,U,_,_,U,U,.inl (bd,bd),_,_,U,U,(by show(0:Int)<2147483629;decide),_,_,U,U,.inr (ad,ad),_,U,_,_,U,U,_,U,_,_,U,U,m0,?_);exact k _ _ (mod_lt m0).1 (mod_lt m0).2 (_,_,_,z) K1.S8
 rintro c σ H1 ⟨s1,n1,ls,rfl,D,K1,rfl⟩ hx;refine(_,U,d,_,U,D.XI,U,_,U,?_);refine ay (λh1=>?_) (λh1=>hx);refine(_,U,d,_,U,D.SA,l,_,U,.inl (SqL.of D.hl),_,_,U,U,_,U,?_);refine ay (λh2=>?_) (λh2=>hx);obtain rfl |⟨ls',x,rfl⟩:=ad6 ls
 ·simp at h2
 have ar:H1 l=Z (.lst (ls'.map V.int++[.int x])):=(D.hl:);refine(λak H'=>∃s n g,ak=[Z (.ref d),Z (.int m),Y,Y,Y]/\dg H' d l s n g/\Kp d l H H'/\g.length<(ls'++[x]).length,λak H' (s2,n2,g,e,z,K2,h)=>(g.length,(h:),s2,n2,g,e,z,K2,U),?_);have x0:0<=x:=D.l0 x ba;have z:=D.list (ls':=ls') λy hy=>D.l0 y (by simp[hy]);refine(_,U,d,_,U,D.SA,.inl (U,_,SqL.of ar),l,_,.int x,U,U,ar,ba,?_);rw[ad8];refine(_,U,d,_,U,z.W0,?_);exact(_,_,ls',U,z.num x0,(K1.Yh).S8,ba)
theorem PX(T:Txt K mg a):aP P w K mg base CX0 1 a.AB a.MR [TW,Q4] (Tz K):=by
 refine T.A1.F.ok oA (λvs H Q E h=>?_) (λcdv A outer s H vs Q E hr h=>?_)
 ·let(a,ns,b,U,_):=h;rfl
 let(p0,ns,b,U,hS,hlen,b0,b1,k):=h;have hu:=bj hr;refine(_,((bI (FV (i:=2) oA.nd U (Or.inl U) U (uh (BB FA (pv 0) (z5 (pv 1)) (z5 bV))) (N':=[SZ]) (.own U .nil) (λ_ _ _ _ _=>((oR (i:=0) (show([SZ]:Γ).Nodup from by decide +kernel) U (Or.inl U)),FT,(i7 (rN U) be T.M4 bv (bp (pv 0) (bp (c6 D5 bV (pv 0)) cY))))))
(bI (jE (i:=3) oA.nd U (Or.inl U) (c6 qY bV (pv 1)))
(bI (Lg PassesOwn.never U (uh (pv 2)) (oR (i:=4) oA.nd U (Or.inl U))
(gx (jE (i:=3) oA.nd U (Or.inl U) (c6 jG (c6 qY (c6 nB (pv 3) bV) (c6 jG (pv 4) bV)) bV))))
(gx (qW (z8 (kP d8 (pv 3) (kP d8 bV (kP d8 (vv U U T.nL U T.nK (FW U (uh (pv 2)) (N':=[SZ]) (.own U .nil) (λ_ _ _ _ _=>((oR (i:=0) (show([SZ]:Γ).Nodup from by decide +kernel) U (Or.inl U)),(FR (oJ W9 (pv 0) (c6 UN bV bV) (bW _))),(pv 0))))) zZ))) U U (by intro z;cases z) ad))))))),?_)
 let(cs,a3,lcs):=MU ns (Z b) (Z 63);refine(_,U,_,U,_,U,_,U,p0,_,U,hS,λp hp=>(p,U,(_,SqL.of ax),?_));rw[a3];have s1:nQ H (upd H p (.lst (cs.map V.int))):=(nQ.refl H).new hp;refine yN (K:=K) (a:=p) (xs:=cs.map V.int) (λi ys g H'=>∃zs:Ψ,ys=zs.map V.int/\(∀z∈zs,0<=z)/\zs.length=i/\(∃o,g=[o])/\H'=upd H p (.lst (cs.map V.int))) ([],U,ba,U,(_,U),U) ?_ ?_ ?_
 ·rintro i ys g H' hi ⟨zs,rfl,_,hz,_,rfl⟩;refine(SqL.of ax,?_);rw[dN]at hi ⊢;exact aG bd
 ·rintro i x ys g H' hi ⟨zs,rfl,z0,hz,⟨o,rfl⟩,rfl⟩;let(c,U):=int_at hi;refine QF ?_;refine(_,U,_,U,_,_,U,U,_,_,U,?_);refine(zs++[if 0-c > c then 0-c else c],ba,?_,by simp[hz],(_,U),U);intro z ak;obtain h|h:=lN.mp ak
  ·exact z0 z h
  rw[fy.mp h];split <;> lia
 rintro ys g H' ⟨zs,rfl,z0,hz,_,rfl⟩ D hD;have s2:nQ H (upd (upd H p (.lst (cs.map V.int))) D (.lst (zs.map V.int))):=s1.new hD;have ar:(upd (upd H p (.lst (cs.map V.int))) D (.lst (zs.map V.int))) D=Z (.lst (zs.map V.int)):=ax;generalize upd (upd H p (.lst (cs.map V.int))) D (.lst (zs.map V.int))=H2 at s2 ar ⊢;refine(_,U,_,_,U,U,?_);refine(_,U,D,U,(_,SqL.of ar),MB (K:=K) (a:=D) (xs:=zs.map V.int) (λi g H'=>∃(n:Int)(o:Option V),g=[Z (.ref p0),Z (.int b),Z (.ref D),Z (.int n),o]/\0<=n/\n<2147483647/\H2=H')
(_,_,U,bd,bd,U) (λi g H' _ (_,_,_,_,_,e)=>by rw[<- e];exact SqL.of ar) ?_ ?_)
 ·rintro i y g H' hi ⟨n,o,rfl,n0,n1,rfl⟩;let(z,U):=int_at hi;refine(_,U,_,_,U,U,.inr (ad,ad),_,U,_,_,U,U,(by show(0:Int)<2147483629;decide),_,_,U,U,_,_,U,U,(by show(0:Int)<2147483647;decide),?_);exact(_,_,U,(mod_lt ad).1,(mod_lt ad).2,U)
 rintro g H' ⟨n,o,rfl,n0,a0,rfl⟩;intro pd aF;have VB:(upd H2 pd (.dK [])) D=Z (.lst (zs.map V.int)):=by rw[au (aX ar aF)];exact ar
 have s3:nQ H (upd H2 pd (.dK [])):=s2.new aF;have Vw:(upd H2 pd (.dK [])) pd=Z (.dK []):=ax;have aW:H pd=none:=s2.free aF;generalize upd H2 pd (.dK [])=H3 at VB s3 Vw ⊢;refine(_,U,_,U,D,U,(_,SqL.of VB),yN (K:=K) (a:=D) (xs:=zs.map V.int) (λi ys g H'=>∃ws:Ψ,ys=ws.map V.int/\(∀z∈ws,0<=z)/\ws.length<=i/\(∃o,g=[o])/\H3=H') ([],U,ba,mz _,(_,U),U) ?_ ?_ ?_)
 ·rintro i ys g H' hi ⟨ws,rfl,_,ak,_,rfl⟩;refine(SqL.of VB,?_);rw[dN]at hi ⊢;rw[dN]at hz;exact aG bd
 ·rintro i x ys g H' hi ⟨ws,rfl,w0,ak,⟨o,rfl⟩,rfl⟩;let(c,U,hc):=Qr hi;refine(_,U,_,_,U,U,(ad,ad,ad),_,_,U,U,_,U,?_);refine ay (λh1=>?_) (λh1=>?_)
  ·refine(_,U,ws++[c],ba,?_,by simp;lia,(_,U),U);intro z ak;obtain h|h:=lN.mp ak
   ·exact w0 z h
   rw[fy.mp h];exact z0 c hc
  exact(ws,U,w0,bd,(_,U),U)
 rintro ys g H' ⟨ws,rfl,w0,ak,_,rfl⟩ D2 aK;refine(D2,_,U,SqL.of ax,λq hq=>?_);have n1:pd≠D2:=aX Vw aK;have e1:(upd H3 D2 (.lst (ws.map V.int))) pd=Z (.dK []):=by rw[au n1];exact Vw
 have n2:pd≠q:=aX e1 hq;have s4:nQ H (upd (upd H3 D2 (.lst (ws.map V.int))) q (.lst ((ws.map V.int).reverse))):=(s3.new aK).new hq;refine(by rw[au n2];exact e1,[(.inr "seed",.int n),(.inr "number",.int 0),(.inr "left",.ref q)],U,(by show 3<=15;decide),?_);refine k pd q _ aW ((s3.new aK).free hq) (n,0,ws.reverse,ax,?_,n0,a0,RE _,?_) ?_
 ·rw[au n2.symm,ax,List.map_reverse]
 ·intro x hx;exact w0 x (hx:)
 intro c o hc;have:c≠pd:=aX hc aW;rw[au this];exact s4 c o hc
theorem oZ(T:Txt K mg a):aP P w K mg base CX0 1 a.ia a.sN ["kinds","kind"] (spQ K Lj):=by
 refine T.lR.F.okQ jx (λ_ _ _ _ _ _ hr=>?_);have hu:=bj hr;refine(_,_,((ag (bH (g:=(Tg.tp [2,3])) PassesOwn.never U (iI (XL (qv 0))) (eV (br 2 jx.nd) (br 3 jx.nd))
(aj (aS (bf hu (qv 2) (qv 1))
(aj (aC (XL (qv 3))))
aA)))
(aj (aC (aq ai))))),λts Q h=>?_)
 let(ks,k,U,hq):=h;refine(rG ks,λi q=>(∃o2 o3,q=[.r (tKs ks),.r (.s k),o2,o3])/\∀(j:Nat)(y:Kd),j<i->ks[j]?=Z y->y.1≠k,((_,_,U),λj y hj=>absurd hj (aa7 _)),?_,?_)
 ·rintro i x q hx ⟨⟨o2,o3,rfl⟩,ak⟩;rw[fZ]at hx;let(kk,hk,U):=gV.mp hx;refine(_,U,?_);refine(U,?_);refine ay (λg1=>?_) (λg1=>?_)
  ·refine(vQ _,?_);rw[Gb hk (V.str.inj (of_decide_eq_true g1)) ak]at hq;exact hq
  refine((_,_,U),λj y hj hy=>?_);by_cases e:j=i
  ·subst e;rw[hk]at hy;cases hy;exact λz=>g1 (decide_eq_true (congrArg V.str z))
  exact ak j y bd hy
 rintro q ⟨⟨o2,o3,rfl⟩,ak⟩;rw[P4 λj y hy=>ak j y (by have:=(gs.mp hy).1;simp;omega) hy]at hq;exact hq
theorem LM(T:Txt K mg a):aP P w K mg base CX0 2 a.uv a.GB [WF,Tu] (spQ K O6):=by
 have aO:=lB (@g8 P w K mg base a T);refine T.G7.F.okQ cc (λ_ _ _ _ _ _ hr=>?_);have hu:=bj hr;refine(_,_,((ag (az 2 cc.nd aE)
(ag (az 3 cc.nd (OT (ZB aE) (ZB (cu U (iZ U T.fB (ae (ZB (aI aO hr T.a6 (ae (qv 0) (ae ah aw)))) aw)) (N':=[Sa,"_law_letters",WF]) (.own U (.got (i:=2) U U (.inl U) (.got (i:=0) U U (.inl U) .nil))) (cg (g:=(Tg.nm 0)) (λ_ _ _ _ _=>((dh 0),(XL (ao (qv 1) (ZB (aI aO hr T.a6 (ae (qv 2) (ae ah aw)))))))))))))
(ag (az 4 cc.nd (aI aO hr T.a6 (ae (qv 0) (ae (ZB (aV (ZB (bq T.bP (ae (qv 3) aw))) ah)) aw))))
(ag (az 5 cc.nd (aI aO hr T.a6 (ae (qv 0) (ae ah aw))))
(ag (az 6 cc.nd (aM ai))
(ag (bH (g:=(Tg.nm 7)) PassesOwn.never U (iY U T.fB (ae (qv 1) aw)) (br 7 cc.nd)
(ag (az 8 cc.nd (XL (ao (qv 2) (ZB (KQ (ZB (aV (qv 5) (ZB (zR ah (qv 7))))) ah)))))
(ag (az 9 cc.nd (aV (ZB (aV (ZB (bK (qv 3) cN (bM (qv 4)))) (qv 8))) (ZB (bK (qv 3) (bM (qv 4)) cN))))
(ag (az 9 cc.nd (aV (ZB (aV (qv 9) (ZB (zR (ZB aE) (ZB (KQ (qv 7) ah)))))) (ZB (zR (ZB aE) (ZB (OW (qv 7) ah))))))
(ag (aS (bD (jH U) gH U (qv 9) (ZB (aq (fb be))))
(aj (az 9 cc.nd (aV (qv 9) (ZB aE))))
aA)
(ag (aS (bD (jH U) gH U (qv 9) (ZB (aq (fb be))))
(aj (az 9 cc.nd (aV (qv 9) (ZB aE))))
aA)
(aj (bh (i:=6) (pv 6) (XL (qv 9))))))))))
(ag (az 10 cc.nd (aM (fb be)))
(ag (az 10 cc.nd (aV (qv 10) (ZB (aM (fb be)))))
(ag (az 9 cc.nd (XL (ao (qv 10) (ZB (aI aO hr T.a6 (ae (qv 0) (ae ah aw)))))))
(ag (aS (QPW.pt (qR (bf hu (ZB (aI aO hr T.a6 (ae (qv 0) (ae ah aw)))) ah) (lV (bD (qX U) gH U (qv 9) (qv 6)))))
(aj (OL (i:=6) (pv 6) (ZB (aI aO hr T.a6 (ae (qv 0) (ae (qv 1) aw)))) (qv 9)))
aA)
(aj (fN (i:=6) (pv 6)))))))))))))),λts Q h=>?_)
 let(m,U,m0,m1,hq):=h;refine(ad,ad,λn n0 n1=>(bd,bd,aG (by rw[cZ];omega),λi ys=>∃cs:List Nat,ys=cs.map (λc=>.s ⟨#[c]⟩)/\cs.length=i,([],U,U),?_,?_))
 ·rintro i x ys hx ⟨cs,rfl,hc⟩;let(U,hi):=iG hx;refine(_,U,ad,ad,λr r0 r1=>(bn,_,Gd r0 r1,U,?_));exact(cs++[tu r.toNat],ba,by simp[hc])
 rintro ys ⟨cs,rfl,hc⟩;rw[cZ]at hc;have e2:((cs.map (λc=>(⟨#[c]⟩:Str))).map (·.length)).sum=cs.length:=by clear hc;induction cs with|nil=>rfl|cons c cs ih=>simp only[AZ,aa5,tZ,ih,show(⟨#[c]⟩:Str).length=1 from rfl];omega
 refine(cs.map (λc=>(⟨#[c]⟩:Str)),?_,?_,?_)
 ·rw[<- N5,wH];rfl
 ·rw[e2,show(Str.ofString "").length=0 from by decide +kernel];omega
 have z:=PySem.size_glued (Str.ofString "") (cs.map (λc=>(⟨#[c]⟩:Str)));rw[e2,show(Str.ofString "").length=0 from by decide +kernel]at z;have lz:(Txt.join (Str.ofString "") (cs.map (λc=>(⟨#[c]⟩:Str)))).length<=5:=by show(Builtin.Str.glued _ _).length<=5;omega
 have ak:(Txt.join (Str.ofString "") (cs.map (λc=>(⟨#[c]⟩:Str)))).length<=4:=by show(Builtin.Str.glued _ _).length<=4;omega
 generalize Txt.join (Str.ofString "") (cs.map (λc=>(⟨#[c]⟩:Str)))=core at lz ak ⊢;refine(bO bd,bd,bd,λat_ a0 a1=>(ad,ad,λtn t0 t1=>?_));have aK:(Txt.slice core Y (Z at_)).length<=5:=tY (Txt.slice_le _ _ _) lz;have aF:(Txt.slice core (Z at_) Y).length<=5:=tY (Txt.slice_le _ _ _) lz;have lx:(Str.ofString "x").length=1:=bn;have ly:(Str.ofString "y").length=1:=bn;have lq:(Str.ofString "q").length=1:=bn;refine(bd,bd,λi q=>(Ea4 λo7 o8 o9 L=>q=[.r .dE,.r (.i m),.o (.s Ak),.o (.s core),.o (.i at_),.o (.i tn),.o (.l L),o7,o8,o9,.no]/\L=((Fc i).map (wordOf kept (Txt.slice core Y (Z at_)) (Txt.slice core (Z at_) Y) tn.toNat)).map .s),(_,_,_,_,U,U),?_,?_)
 ·rintro i x q hx ⟨o7,o8,o9,L,rfl,rfl⟩;let(U,hi):=iG hx;have hi:i<52:=bd;have e1:∀c:Nat,(⟨#[c]⟩:Str).length=1:=λ_=>rfl;have eL:tu (((tn+7*(0+(i:Int))) % 26).toNat)=tu (tn.toNat+7*i):=by unfold tu;omega
  have r1:=jb "x" ((0+(i:Int)) % 2).toNat;have r2:=jb "y" ((0+(i:Int)) / 26).toNat;replace r1:(kA "x" ((0+(i:Int)) % 2).toNat).length<=1:=by rw[r1,lx,ZH];exact(show i % 2*1<=1 from by rw[Nat.mul_one];exact Z8 (ae5 i ad))
  replace r2:(kA "y" ((0+(i:Int)) / 26).toNat).length<=1:=by rw[r2,ly,ZH];exact(show i / 26*1<=1 from by rw[Nat.mul_one];exact Z8 (Nat.div_lt_of_lt_mul hi))
  refine(_,U,.inl (bd,bd),(by show(0:Int)<26;decide),bn,_,Gd (mod_lt ad).1 (mod_lt ad).2,U,?_);refine(bO bd,bO (by rw[e1];omega),bO bd,bO (by rw[Str.length_append,e1];omega),(by show(0:Int)<2;decide),bd,bd,bd,bO (by rw[Str.length_append,Str.length_append,e1];omega),(ad,ad),bd,bd,bd,bO (by rw[Str.length_append,Str.length_append,Str.length_append,e1];omega),?_);have eW:Txt.slice core Y (Z at_)++⟨#[tu (((tn+7*(0+(i:Int))) % 26).toNat)]⟩++Txt.slice core (Z at_) Y++kA "x" ((0+(i:Int)) % 2).toNat++kA "y" ((0+(i:Int)) / 26).toNat=dS (Txt.slice core Y (Z at_)) (Txt.slice core (Z at_) Y) tn.toNat i:=by unfold dS;rw[eL,show((0+(i:Int)) % 2).toNat=i % 2 from by omega,show((0+(i:Int)) / 26).toNat=i / 26 from by omega]
  have lW:=rP (Txt.slice core Y (Z at_)) (Txt.slice core (Z at_) Y) tn.toNat i;rw[eW];have snoc:∀z:Str,z=wordOf kept (Txt.slice core Y (Z at_)) (Txt.slice core (Z at_) Y) tn.toNat i ->
    ((Fc i).map (wordOf kept (Txt.slice core Y (Z at_)) (Txt.slice core (Z at_) Y) tn.toNat)).map ϙ++[ϙ z]=((Fc (i+1)).map (wordOf kept (Txt.slice core Y (Z at_)) (Txt.slice core (Z at_) Y) tn.toNat)).map ϙ:=λz hz=>by
   subst hz;rw[List.range_succ];simp
  have ln:(((Fc i).map (wordOf kept (Txt.slice core Y (Z at_)) (Txt.slice core (Z at_) Y) tn.toNat)).map ϙ).length<lK:=aG (by simp;omega);refine(be,ay (λg1=>?_) (λg1=>?_))
  ·have g1:inV (.str (dS (Txt.slice core Y (Z at_)) (Txt.slice core (Z at_) Y) tn.toNat i)) (B8.map V.str)=true:=by rw[<- bY];exact g1
   refine(bO (by rw[lq];omega),be,ay (λg2=>?_) (λ_=>?_))
   ·have g2:inT (.s (dS (Txt.slice core Y (Z at_)) (Txt.slice core (Z at_) Y) tn.toNat i++("q":Str))) (mH.map ϙ)=true:=g2;rw[bY,UW]at g2;cases g2
   exact(ln,U,_,_,_,_,U,snoc (dS (Txt.slice core Y (Z at_)) (Txt.slice core (Z at_) Y) tn.toNat i++("q":Str)) (by unfold wordOf;rw[nG,g1,ad0,if_pos rfl]))
  have g1:inV (.str (dS (Txt.slice core Y (Z at_)) (Txt.slice core (Z at_) Y) tn.toNat i)) (B8.map V.str)=false:=by cases e:inV (.str (dS (Txt.slice core Y (Z at_)) (Txt.slice core (Z at_) Y) tn.toNat i)) (B8.map V.str)with|false=>rfl|true=>rw[<- bY]at e;exact absurd e g1
  refine(be,ay (λg2=>?_) (λg2=>?_))
  ·have g2:inV (.str (dS (Txt.slice core Y (Z at_)) (Txt.slice core (Z at_) Y) tn.toNat i)) (mH.map V.str)=true:=by rw[<- bY];exact g2
   exact(bO (by rw[lq];omega),ln,U,_,_,_,_,U,snoc (dS (Txt.slice core Y (Z at_)) (Txt.slice core (Z at_) Y) tn.toNat i++("q":Str)) (by unfold wordOf;rw[nG,g1,g2,ae3,if_pos rfl]))
  have g2:inV (.str (dS (Txt.slice core Y (Z at_)) (Txt.slice core (Z at_) Y) tn.toNat i)) (mH.map V.str)=false:=by cases e:inV (.str (dS (Txt.slice core Y (Z at_)) (Txt.slice core (Z at_) Y) tn.toNat i)) (mH.map V.str)with|false=>rfl|true=>rw[<- bY]at e;exact absurd e g2
  exact(ln,U,_,_,_,_,U,snoc (dS (Txt.slice core Y (Z at_)) (Txt.slice core (Z at_) Y) tn.toNat i) (by unfold wordOf;rw[nG,g1,g2,ae3,if_neg ad,Str.append_empty]))
 rintro q ⟨o7,o8,o9,L,rfl,rfl⟩;rw[cZ];have nd:((Fc m.toNat).map (wordOf kept (Txt.slice core Y (Z at_)) (Txt.slice core (Z at_) Y) tn.toNat)).Nodup:=nodup_range λi j hi hj a3=>Hw bd bd a3;have wl:∀w∈(Fc m.toNat).map (wordOf kept (Txt.slice core Y (Z at_)) (Txt.slice core (Z at_) Y) tn.toNat),1<=w.length/\w.length<=20:=λw hw=>by
  let(i,hi,U):=nR.mp hw;exact Dm aK aF (by have:=ZQ.mp hi;omega)
 have wz:Rr ((Fc m.toNat).map (wordOf kept (Txt.slice core Y (Z at_)) (Txt.slice core (Z at_) Y) tn.toNat)):=λhw=>by
  let(i,hi,e):=nR.mp hw;exact N0 ak a0 bd (by have:=ZQ.mp hi;omega) e
 have ll:((Fc m.toNat).map (wordOf kept (Txt.slice core Y (Z at_)) (Txt.slice core (Z at_) Y) tn.toNat)).length=m.toNat:=by simp
 generalize(Fc m.toNat).map (wordOf kept (Txt.slice core Y (Z at_)) (Txt.slice core (Z at_) Y) tn.toNat)=ws at nd wl ll wz;refine(bO ad,be,be,ad,ad,λr r0 r1=>?_);let(wd,ew,hm):=Ra (ws:=near) r0 r1;refine(_,ew,U,ad,ad,λr3 _ _=>(U,?_));have done:Q (.l (ws.map .s)):=hq ws bd nd wl wz;refine ay (λ_=>?_) (λ_=>YI done);refine(by rw[bw];rfl,ay (λh2=>?_) (λ_=>done));have aW:wd ∉ ws:=Qs (by rw[<- bY];simpa using h2);refine(m0,bd,λr4 ar a4=>(r4.toNat,?_,aL ws,U,?_))
 ·unfold ixN;rw[if_pos ar,if_pos (by rw[dN];omega)]
 have z:=hq (ws.set r4.toNat wd) (by rw[Xo];omega) (Im nd aW) (λw hw=>by
  obtain z|z:=ZW hw
  ·exact wl w z
  rw[z];exact LX wd hm) (λhw=>by
  obtain z|z:=ZW hw
  ·exact wz z
  exact P1 wd hm z.symm)
 rw[List.map_set]at z;exact z
theorem LR(T:Txt K mg a):aP P w K mg base CX0 2 a.uB a.GI [WF,Ty] (spQ K Pc):=by
 have aO:=lB (@g8 P w K mg base a T);refine T.Hc.F.okQ cF (λ_ _ _ _ _ _ hr=>?_);have hu:=bj hr;refine(_,_,((ag (az 2 cF.nd (aI aO hr T.a6 (ae (qv 0) (ae ah aw))))
(ag (KJ (i:=3) (j:=4) U cF.nd U U ad U U (ao (qv 1) ah) (ao (qv 1) ah) U)
(ag (az 5 cF.nd (aV (ZB (bK (qv 1) (bM ah) cN)) (ZB (bK (qv 1) cN (bM ah)))))
(ag (aS (bf hu (qv 2) ah)
(aj (aC (aq (af (aq (af (XL (qv 3)) (af (aq (af (aq (af (XL (ao (qv 5) ah)) (af (aq ai) ai))) (af (aq (af (XL (ao (qv 5) ah)) (af (aq (af (XL (qv 3)) ai)) ai))) ai))) ai))) ai))))
aA)
(ag (aS (bf hu (qv 2) ah)
(aj (aC (aq (af (aq (af (XL (qv 3)) (af (aq (af (aq (af (XL (ao (qv 5) ah)) (af (aq ai) ai))) (af (aq (af (XL (ao (qv 5) ah)) (af (aq (af (XL (qv 3)) ai)) ai))) (af (aq (af (XL (ao (qv 5) ah)) (af (aq (af (XL (qv 3)) ai)) ai))) ai)))) ai))) ai))))
aA)
(ag (aS (bf hu (qv 2) ah)
(aj (aC (aq (af (aq (af (XL (qv 3)) (af (aq (af (aq (af (XL (ao (qv 5) ah)) (af (aq ai) ai))) (af (aq (af (XL (ao (qv 5) ah)) (af (aq ai) ai))) ai))) ai))) (af (aq (af (XL (qv 4)) (af (aq (af (aq (af (XL (ao (qv 5) ah)) (af (aq ai) ai))) (af (aq (af (XL (ao (qv 5) ah)) (af (aq (af (XL (qv 3)) (af (XL (qv 4)) ai))) ai))) ai))) ai))) ai)))))
aA)
(ag (aS (bf hu (qv 2) ah)
(aj (aC (aq (af (aq (af (XL (qv 3)) (af (aq (af (aq (af (XL (ao (qv 5) ah)) (af (aq ai) ai))) (af (aq (af (XL (ao (qv 5) ah)) (af (aq (af (XL (qv 3)) (af (XL (qv 3)) ai))) ai))) ai))) ai))) ai))))
aA)
(ag (aS (bf hu (qv 2) ah)
(aj (aC (aq (af (aq (af (XL (qv 3)) (af (aq (af (aq (af (XL (ao (qv 5) ah)) (af (aq ai) ai))) (af (aq (af (XL (ao (qv 5) ah)) (af (aq (af (XL (qv 4)) ai)) ai))) ai))) ai))) (af (aq (af (XL (qv 4)) (af (aq (af (aq (af (XL (ao (qv 5) ah)) (af (aq (af (XL (qv 3)) ai)) ai))) ai)) ai))) ai)))))
aA)
(ag (az 6 cF.nd (aM ai))
(ag (az 7 cF.nd (aV ah (ZB (aI aO hr T.a6 (ae (qv 0) (ae ah aw))))))
(ag (az 8 cF.nd bF)
(ag (bH (g:=(Tg.nm 9)) PassesOwn.never U (iY U T.fB (ae (qv 7) aw)) (br 9 cF.nd)
(ag (az 10 cF.nd (aM ai))
(ag (bH (g:=(Tg.nm 11)) PassesOwn.never U (iY U T.fB (ae (ZB (aV ah (ZB (aI aO hr T.a6 (ae (qv 0) (ae (ZB (vk (aM (af bF (af bF ai))) (ZB (aU yP FF be T.SI bv (ae (ZB (zT (D7 hu U) zv (bW _) (qv 7) ah)) aw))))) aw)))))) aw)) (br 11 cF.nd)
(ag (az 12 cF.nd (zR (ZB (aI aO hr T.a6 (ae (qv 0) (ae (ZB (vk (aM (af bF (af bF (af bF ai)))) (ZB (aI aO hr T.a6 (ae (qv 0) (ae ah aw)))))) aw)))) (ZB (aU yP FF be T.SI bv (ae (ZB (zT F5 (iz (g':=λi j=>.b (decide (j<i))) λ_ _ _ _=>.b _) (bW _) (ZB (aV (qv 9) (qv 11))) ah)) aw)))))
(ag (fO (i:=13) cF.nd U (Or.inl U) U (iZ U T.fB (ae (qv 12) aw)) (N':=["_law_i",Ty,WF,Tu]) (.own U (.got (i:=1) U U (.inl U) (.got (i:=0) U U (.inl U) (.got (i:=7) U U (.inl U) .nil)))) (cg (g:=(Tg.nm 0)) (λ_ _ _ _ _=>((dh 0),(XL (ao (qv 1) (ZB (aI aO hr T.a6 (ae (qv 2) (ae (qv 3) aw))))))))))
(ag (bh (i:=10) (pv 10) (aq (af (XL (ao (qv 5) (qv 8))) (af (aU (cq U) cp be T.d6 bv (ae (qv 13) aw)) ai))))
(aj (az 8 cF.nd (aV (qv 8) ah)))))))
(aj (bh (i:=6) (pv 6) (aq (af (XL (ao (qv 1) (qv 9))) (af (aU (cq U) cp be T.d6 bv (ae (qv 10) aw)) ai))))))))
(aj (aC (aU (cq U) cp be T.d6 bv (ae (qv 6) aw))))))))))))))))),λts Q h=>?_)
 let(ws,U,hl,a3,hq):=h;obtain⟨x0,x1,wr,rfl⟩:∃x0 x1 wr,ws=x0::x1::wr:=by
  cases ws with
  |nil=>cases hl
  |cons x0 r=>cases r with
   |nil=>cases hl
   |cons x1 wr=>exact(x0,x1,wr,U)
 have bQ:atI ((x0::x1::wr).map ϙ) 0=Z (.s x0):=gR (j:=0) U;have bP:atI ((x0::x1::wr).map ϙ) 1=Z (.s x1):=gR (j:=1) U;refine(ad,ad,λfm f0 f1=>(_,bQ,U,_,bP,U,aL _,aL _,?_));have hM:((x0::x1::wr).drop 4++(x0::x1::wr).take 4).Nodup:=HK a3;have lM:((x0::x1::wr).drop 4++(x0::x1::wr).take 4).length=40:=by rw[g5,Ry,tX];lia
 refine(bO (by have:=congrArg CP (XR hl);rw[g5,dN]at this;lia),Gj _ _ _,Gj _ _ _,?_);rw[XR hl];have a0:∀x∈(x0::x1::wr).drop 4++(x0::x1::wr).take 4,x∈x0::x1::wr:=λx hx=>(lN.mp hx).elim ae1 Ff;generalize(x0::x1::wr).drop 4++(x0::x1::wr).take 4=M at hM lM a0;obtain⟨m0,V,m2,m3,mr,rfl⟩:∃m0 V m2 m3 mr,M=m0::V::m2::m3::mr:=by match M,lM with|m0::V::m2::m3::mr,_=>exact(m0,V,m2,m3,mr,U)
 have t0:atI ((m0::V::m2::m3::mr).map ϙ) 0=Z (.s m0):=gR (j:=0) U;have t1:atI ((m0::V::m2::m3::mr).map ϙ) 1=Z (.s V):=gR (j:=1) U;have t2:atI ((m0::V::m2::m3::mr).map ϙ) 2=Z (.s m2):=gR (j:=2) U;have t3:atI ((m0::V::m2::m3::mr).map ϙ) 3=Z (.s m3):=gR (j:=3) U;have bG:3 <=(x0::x1::wr).length:=bd;have aK:∀(ks:ϕ)(n made:Nat),wG (x0::x1::wr) (m0::V::m2::m3::mr) n ks n made->1<=n->n<=3->Q (tKs ks):=λks n made D n1 n3=>hq ks (D.good a3 hM n1 n3 bG) λx hx=>a0 x (Ff (D.mn▸hx));have a1:x0∈(x0::x1::wr).take 1:=j4;have a2:x0∈(x0::x1::wr).take 2:=j4;have b2:x1∈(x0::x1::wr).take 2:=j6 _ j4;refine(U,ay (λ_=>?_) (λ_=>?_))
 ·refine(U,_,t0,U,_,t1,U,U,?_);exact aK [(x0,[(m0,[]),(V,[x0])])] 1 2 (U,U,ad,all1 (T1 _ _,leK 2 6),all1 (all2 (leK 0 4,EY) (leK 1 4,all1 a1))) ad ad
 refine(U,ay (λ_=>?_) (λ_=>?_))
 ·refine(U,_,t0,U,_,t1,U,U,_,t2,U,U,?_);exact aK [(x0,[(m0,[]),(V,[x0]),(m2,[x0])])] 1 3 (U,U,ad,all1 (T1 _ _,leK 3 6),all1 (Y8 (leK 0 4,EY) (leK 1 4,all1 a1) (leK 1 4,all1 a1))) ad ad
 refine(U,ay (λ_=>?_) (λ_=>?_))
 ·refine(U,_,t0,U,_,t1,U,U,_,t2,U,_,t3,U,U,U,?_);exact aK [(x0,[(m0,[]),(V,[])]),(x1,[(m2,[]),(m3,[x0,x1])])] 2 4 (U,U,ad,all2 (T1 _ _,leK 2 6) (T1 _ _,leK 2 6),all2 (all2 (leK 0 4,EY) (leK 0 4,EY)) (all2 (leK 0 4,EY) (leK 2 4,all2 a2 b2))) ad ad
 refine(U,ay (λ_=>?_) (λ_=>?_))
 ·refine(U,_,t0,U,_,t1,U,U,U,?_);exact aK [(x0,[(m0,[]),(V,[x0,x0])])] 1 2 (U,U,ad,all1 (T1 _ _,leK 2 6),all1 (all2 (leK 0 4,EY) (leK 2 4,all2 a1 a1))) ad ad
 refine(U,ay (λ_=>?_) (λ_=>?_))
 ·refine(U,_,t0,U,_,t1,U,U,U,_,t2,U,U,?_);exact aK [(x0,[(m0,[]),(V,[x1])]),(x1,[(m2,[x0])])] 2 3 (U,U,ad,all2 (T1 _ _,leK 2 6) (T1 _ _,leK 1 6),all2 (all2 (leK 0 4,EY) (leK 1 4,all1 b2)) (all1 (leK 1 4,all1 a2))) ad ad
 clear t0 t1 t2 t3 bQ bP aK a1 a2 b2 bG;generalize c7:m0::V::m2::m3::mr=M at hM lM a0 ⊢;generalize c5:x0::x1::wr=ws at a3 hl a0 hq ⊢;refine(ad,ad,λr2 c2 c1=>?_);refine(bd,bd,λi q=>Ea8 λks made L o9 a4 aF ar ak=>q=[.r .dE,.r (.l (ws.map .s)),.o (.i fm),.o (.s x0),.o (.s x1),.o (.l (M.map .s)),.o (.l L),.o (.i (1+r2)),.o (.i (made:Nat)),o9,a4,aF,ar,ak]/\L=ks.map tK/\wG ws M (1+r2).toNat ks i made,
([],0,_,_,_,_,_,_,U,U,(U,U,mz _,nofun,nofun)),?_,?_)
 ·rintro i x q hx ⟨ks,made,L,o9,a4,aF,ar,ak,rfl,rfl,D⟩;let(U,hi):=iG hx;have cR:=D.b1;have c3:ks.length=i:=by have:=congrArg CP D.nm;rw[dN,tX,QL bd]at this;exact this
  have bA:i<ws.length:=bd;refine(_,U,U,_,W3 3 6 _,?_,?_,λr5 c0 cw=>?_)
  ·split <;> decide
  ·split <;> decide
  have cX:r5<6:=by split at cw <;> lia
  refine(bd,bd,λj q=>Ea6 λms gP L' aF ar ak=>q=[.r .dE,.r (.l (ws.map .s)),.o (.i fm),.o (.s x0),.o (.s x1),.o (.l (M.map .s)),.o (.l (ks.map tK)),.o (.i (1+r2)),.o (.i (gP:Nat)),.r (.i (0+(i:Nat))),.o (.l L'),aF,ar,ak]/\L'=ms.map tM/\ms.length=j/\gP=made+j/\M.take made++ms.map (·.1)=M.take gP/\(∀m∈ms,m.2.length<=4/\∀f∈m.2,f∈ws.take (1+r2).toNat),
([],made,_,_,_,_,U,U,U,U,ba,nofun),?_,?_)
  ·rintro j x q hx ⟨ms,gP,L',aF,ar,ak,rfl,rfl,aW,bc,a5,a9⟩;let(U,hj):=iG hx;refine(_,U,ad,ad,λr6 ct cb=>?_);let(v,ev,hv):=RX (x:=3) (y:=3) (z:=5) ct cb;refine(_,ev,bd,bd,λr7 cW cV=>?_);refine(.inl (bd,bd),?_);have cx:∀b:Bool,0<=r7*(if b=O then 1 else 0)/\r7*(if b=O then 1 else 0)<=4:=λb=>by cases b <;> simp <;> lia
   let(w0,w4):=cx (decide (0<0+(i:Int)+(0+(j:Int))));generalize c4:r7*(if decide (0<0+(i:Int)+(0+(j:Int)))=O then 1 else 0)=wide at w0 w4 ⊢;refine(bd,bd,aG (by rw[cZ];lia),λp ys=>∃fs:Γ,ys=fs.map .s/\fs.length=p/\∀f∈fs,f∈ws.take (1+r2).toNat,([],U,U,nofun),?_,?_)
   ·rintro p x ys hx ⟨fs,rfl,lf,hf⟩;let(U,hp):=iG hx;refine(_,U,bd,bd,λr8 b0 bT=>?_);have h8:r8.toNat<ws.length:=bd;have e8:atI (ws.map ϙ) r8=Z (.s ws[r8.toNat]):=by
     have:=gR (ws:=ws) (j:=r8.toNat) (w:=ws[r8.toNat]) (by simp[h8])
     rwa [Xx b0]at this
    refine(_,e8,U,fs++[ws[r8.toNat]],ba,by simp[lf],λf cC=>?_);obtain h|h:=lN.mp cC
    ·exact hf f h
    rw[fy.mp h];exact List.mem_take_iff_getElem.mpr (r8.toNat,Nat.lt_min.mpr ((Int.toNat_lt_toNat bd).mpr bT,h8),U)
   rintro ys ⟨fs,rfl,lf,hf⟩;rw[cZ]at lf;have cA:i<=2:=Z8 (rz hi (ae7.mpr (show 1+r2<=3 by omega)));have cy:j<=5:=Z8 (rz hj (ae7.mpr (show 1+r5<=6 by omega)));have Sx:gP<M.length:=by rw[bc,lM];exact R4 (Nat.add_le_add (tY cR (Nat.mul_le_mul_left 6 cA)) cy) ad
   have em:atI (M.map ϙ) ((gP:Nat):Int)=Z (.s M[gP]):=gR (by simp[Sx]);refine(aG (by rw[dN];lia),_,em,U,aL _,?_);refine(ms++[(M[gP],fs)],gP+1,_,_,_,_,U,by simp[tM],by simp[aW],bd,?_,λm hm=>?_)
   ·rw[mu,<- wI,a5];exact take_one (by simp[Sx])
   obtain h|h:=lN.mp hm
   ·exact a9 m h
   rw[fy.mp h];exact(by show fs.length<=4;lia,hf)
  rintro q ⟨ms,gP,L',aF,ar,ak,rfl,rfl,aW,bc,a5,a9⟩;rw[cZ]at aW bc;have ei:atI (ws.map ϙ) (0+((i:Nat):Int))=Z (.s ws[i]):=by rw[ZH];exact gR (by simp[bA])
  refine(aG (by rw[dN];lia),_,ei,U,aY Gk _,?_);refine(ks++[(ws[i],ms)],gP,_,_,_,_,_,_,U,by simp[tK,tMs],D.next (by simp[bA]) a5 (λz=>?_) bd bd a9);rw[z]at aW;simp at aW;lia
 rintro q ⟨ks,made,L,o9,a4,aF,ar,ak,rfl,rfl,D⟩;rw[cZ]at D;refine(aY B9 _,?_);exact hq ks (D.good a3 hM bd bd bd) λx hx=>a0 x (Ff (D.mn▸hx))
theorem F8(T:Txt K mg a):aP P w K mg base CX0 2 a.Az a.MP [WF,WP,Su] (spQ K DV):=by
 refine T.xf.F.okQ t8 (λ_ _ _ _ _ _ hr=>?_);have hu:=bj hr;refine(_,_,((ag (az 3 t8.nd (aM ai))
(ag (bH (g:=(Tg.nm 4)) PassesOwn.never U (T5 (i:=2) (pv 2)) (br 4 t8.nd)
(ag (fO (i:=5) t8.nd U (Or.inl U) U (l5 (qv 1)) (N':=[P3,Pi,SB]) (.own U (.own U (.got (i:=4) U U (.inl U) .nil))) (zU (g:=(Tg.tp [0,1])) (λ_ _ _ _ _=>((eV (dh 0) (dh 1)),(bf hu (qv 1) (qv 2)),(XL (qv 0))))))
(ag (aS (bf hu (qv 5) (ZB (aM ai)))
(aj (aC cO))
aA)
(aj (bh (i:=3) (pv 3) (XL (ao (qv 5) (ZB (vm (rN U) J5 be T.M4 bv (ae (ZB (aI (lB (g8 T)) hr T.a6 (ae (qv 0) (ae (ZB (bq T.bP (ae (qv 5) aw))) aw)))) (ae (ZB (aI (lB (g8 T)) hr T.a6 (ae (qv 0) (ae (ZB (bq T.bP (ae (qv 5) aw))) aw)))) aw)))))))))))
(aj (aC (aU (cq U) cp be T.d6 bv (ae (qv 3) aw))))))),λts Q h=>?_)
 let(sc,fs,t,ht,U,a0,a4,hn,hq):=h;obtain rfl|rfl:=ht;all_goals
  refine(λi q=>Ea4 λns o4 o5 L=>q=[.r .dE,.r (.l (sc.map tP)),.r _,.o (.l L),o4,o5]/\L=ns.map .s/\Fills sc ns (fs.take i),([],_,_,_,U,U,U,nofun),?_,?_)
  ·rintro i x q hx ⟨ns,o4,o5,L,rfl,rfl,hF⟩;rw[fZ]at hx;let(f,hf,U):=gV.mp hx;have a3:i<fs.length:=(gs.mp hf).1;refine(_,U,aG (by rw[dN];lia),λk ys=>∃os:Γ,ys=os.map .s/\os.length<=k/\∀n∈os,(n,f)∈sc,([],U,mz _,nofun),?_,?_)
   ·rintro k x ys hx ⟨os,rfl,lo,ho⟩;rw[fZ]at hx;let(p,hp,U):=gV.mp hx;refine(_,U,U,ay (λe=>(U,os++[p.1],ba,by simp;lia,λn hn=>?_)) (λ_=>(os,U,bd,ho)));obtain h|h:=lN.mp hn
    ·exact ho n h
    rw[fy.mp h];have e':(ϙ p.2).v=(ϙ f).v:=(e:);have e2:p.2=f:=V.str.inj e';rw[<- e2];exact jk hp
   rintro ys ⟨os,rfl,lo,ho⟩;rw[dN]at lo;refine(by rw[bw];rfl,ay (λ_=>hn) (λaF=>?_));have l0:0<os.length:=by cases os with|nil=>exact absurd U aF|cons _ _=>simp
   have ln:ns.length=i:=by rw[hF.1,tX];lia
   have ak:((os.map ϙ).length:Int)=os.length:=by rw[dN]
   refine(aG (by rw[dN];lia),by rw[ak];lia,by rw[ak];lia,λr r0 r1=>(by rw[ak];lia,by rw[ak];lia,λr' aW ar=>?_));rw[ak]at r1 ar;have hm:∃m:Int,(if r' > r then r' else r)=m/\0<=m/\m<os.length:=(_,U,by split <;> lia,by split <;> lia);let(m,em,m0,m1):=hm;have aK:m.toNat<os.length:=bd;refine(.s os[m.toNat],(by show atI (os.map ϙ) (if r' > r then r' else r)=_;rw[em];exact VP m0 aK),U,ns++[os[m.toNat]],_,_,_,U,ba,?_);rw[<- take_one hf];exact hF.snoc (ho _ (Jr _))
  rintro q ⟨ns,o4,o5,L,rfl,rfl,hF⟩;rw[dN,rV]at hF;exact(aL _,hq ns hF)
theorem LS(T:Txt K mg a):aP P w K mg base CX0 3 a.uC a.GJ [WF,Tk,WP,SB,Th] (spQ K ug):=by
 refine T.A0.F.okQ dQ (λ_ _ _ _ _ _ hr=>?_);have hu:=bj hr;refine(_,_,((ag (zM (g:=(Tg.tp [5,6,7])) (i:=1) (pv 1) (oQ (K:=K) (n:=3) U U (cj (br 5 dQ.nd) (cj (br 6 dQ.nd) (cj (br 7 dQ.nd) oP)))))
(ag (az 8 dQ.nd (aI (F8 T) hr T.xf (ae (qv 0) (ae (qv 2) (ae (ZB (aM (af (XL (qv 3)) ai))) aw)))))
(ag (aS (bD uk oo (bW _) (qv 8) (ZB cO))
(aj (aC (aq (af aE (af (XL (ao (qv 8) ah)) ai)))))
aA)
(ag (az 9 dQ.nd (XL (ao (qv 7) (ZB (bq T.bP (ae (qv 2) aw))))))
(ag (bH (g:=(Tg.tp [10,11])) PassesOwn.never U (iI (XL (gw (ZB (aU (dF U) fE be T.iP bv (ae (qv 5) aw))) (qv 3)))) (eV (br 10 dQ.nd) (br 11 dQ.nd))
(ag (az 12 dQ.nd (aI (F8 T) hr T.xf (ae (qv 0) (ae (qv 2) (ae (qv 11) aw)))))
(aj (aS (bD uk oo (bW _) (qv 12) (ZB cO))
(aj (aC (aq (af aE (af (XL (qv 9)) (af (XL (qv 10)) (af (XL (qv 12)) (af (aq (af aE (af (XL (qv 9)) ai))) ai))))))))
aA))))
(ag (az 12 dQ.nd (aU (cq U) cp be T.d6 bv (ae (ZB (cu U (l5 (ZB (bK (qv 2) cN (bM (ZB (bq T.bP (ae (ao (ao (qv 6) (qv 4)) ah) aw))))))) (N':=[P3,Pi]) (.own U (.own U .nil)) (cg (g:=(Tg.tp [0,1])) (λ_ _ _ _ _=>((eV (dh 0) (dh 1)),(XL (qv 0))))))) aw)))
(aj (aC (aq (af aE (af (XL (qv 9)) (af (XL (ao (ao (qv 6) (qv 4)) ah)) (af (XL (qv 12)) (af (aq (af aE (af (XL (qv 9)) ai))) ai))))))))))))))),λts Q hh=>?_)
 let(ks,hs,ws,sc,f,h,U,W,hf,S,hq):=hh;have Qv:h∈hs:=jk hf;let(a5,a4,a3,aW):=W.hp h Qv;have ef:atI (hs.map tH) (f:Int)=Z (tH h):=bu (by rw[fZ,hf];rfl);have aF:sc.length<ws.length:=by have:=S.ln;have:=W.wl;omega
 have ex:atI (ws.map ϙ) ((sc.map tP).length:Int)=Z (.s ws[sc.length]):=by rw[dN];exact gR (fY aF)
 have zx:ws[sc.length]∈ws:=Jr aF;have fx:ws[sc.length] ∉ sc.map (·.1):=S.fresh W.wn (fY aF);generalize ws[sc.length]=x at ex fx zx;refine(_,U,U,sc,[h.2.2],_,.inr U,U,by have:=S.ln;omega,by show 1<=1000;decide,?_,λns hF=>?_)
 ·let(kd,aK,ek):=R6 aW;refine(_,ex,U,aY B9 ks,_,vw ks,_,yC W.gk.nd aW,vQ _,λi q=>Ea3 λar ak V=>q=[.r .dE,.r (tW ks hs ws),.r (.l (sc.map tP)),.r (.s h.2.2),.r (.i f),.r (tKs ks),.r (.l (hs.map tH)),.r (.l (ws.map .s)),.o .n,.o (.s x),ar,ak,V],(_,_,_,U),?_,?_)
  ·rintro i t q hx ⟨ar,ak,V,rfl⟩;rw[fZ]at hx;let(m,hm,U):=gV.mp hx;have a0:m∈kd.2:=by rw[<- BX W.gk.nd aK,ek];exact jk hm
   refine(_,U,sc,m.2,_,.inl U,U,by have:=S.ln;omega,by have:=(W.gk.fl kd aK m a0).1;omega,(_,_,_,U),λns hF=>?_);refine(U,U,aL _,U,hq 2 _ ad (.make aK a0 hF fx (.give ?_)) (uE zx AF (mz _)));rw[ek];simp
  rintro q ⟨ar,ak,V,rfl⟩;have ec:fw (sc.map tP) Y (Z ((h.2.1.map tP).length:Int))=h.2.1.map tP:=by rw[dN,MT (by rw[dN];exact S.p1),<- aa3,S.pf]
  refine(_,ef,_,U,aY fh _,?_);rw[ec];refine(aG (by rw[dN];omega),λi ys=>ys=((h.2.1.take i).map (·.1)).map .s,U,?_,?_)
  ·rintro i t ys hx rfl;rw[fZ]at hx;let(p,hp,U):=gV.mp hx;refine(_,U,U,?_);show _++[ϙ p.1]=_;rw[rr,hp];simp
  rintro ys rfl;rw[dN,rV];refine(aL _,U,_,ef,_,U,U,aL _,U,hq 2 _ ad (.call Qv ?_ fx (.give ba)) (uE zx AF (mz _)));have z:=Fills.self (sc:=sc) (n:=h.2.1.length)
  rwa [S.pf]at z
 obtain⟨n,rfl⟩:∃n,ns=[n]:=by match ns,hF.1 with|[n],_=>exact(n,U)
 exact(_,U,U,hq 1 _ ad (.give (hF.2 (n,h.2.2) ba)) AF)
theorem PY(T:Txt K mg a)(N:Nat)(j8:aP P w K mg base CX0 (2*N+3) a.vW a.EV [WF,Tk,WP,Th,Tl] (spQ K (nA N))):aP P w K mg base CX0 (2*N+4) a.AE a.MS [WF,Tk,WP,Th,Tl] (spQ K (UB N)):=by
 refine T.Nt.F.okQ dU (λ_ _ _ _ _ _ hr=>?_);have hu:=bj hr;refine(_,_,((ag (zM (g:=(Tg.tp [5,6,7])) (i:=1) (pv 1) (oQ (K:=K) (n:=3) U U (cj (br 5 dU.nd) (cj (br 6 dU.nd) (cj (br 7 dU.nd) oP)))))
(ag (qT (g:=(Tg.tp [8,9])) (ao (qv 2) (ZB (vm (rN U) J5 be T.M4 bv (ae (ZB (aI (lB (g8 T)) hr T.a6 (ae (qv 0) (ae (ZB (bq T.bP (ae (qv 2) aw))) aw)))) (ae (ZB (aI (lB (g8 T)) hr T.a6 (ae (qv 0) (ae (ZB (bq T.bP (ae (qv 2) aw))) aw)))) aw))))) (eV (br 8 dU.nd) (br 9 dU.nd)))
(ag (az 10 dU.nd (XL (gw (ZB (aU (dF U) fE be T.iP bv (ae (qv 5) aw))) (qv 9))))
(ag (Bs (i:=4) (pv 4) (pv 4) (ZB (bq T.bP (ae (qv 10) aw))))
(ag (az 11 dU.nd (aM ai))
(ag (bH (g:=(Tg.tp [12,13])) PassesOwn.never U (iI (XL (qv 10))) (eV (br 12 dU.nd) (br 13 dU.nd))
(ag (fO (i:=14) dU.nd U (Or.inl U) U (zP U T.bQ bv (ae (qv 13) aw)) (N':=[Sa,"_law_field",Ty,WP]) (.own U (.own U (.got (i:=7) U U (.inl U) (.got (i:=2) U U (.inl U) .nil)))) (cg (g:=(Tg.tp [0,1])) (λ_ _ _ _ _=>((eV (dh 0) (dh 1)),(aq (af (XL (ao (qv 2) (ZB (aV (ZB (bq T.bP (ae (qv 3) aw))) (qv 0))))) (af (XL (qv 1)) ai)))))))
(ag (az 15 dU.nd (aU (cq U) cp be T.d6 bv (ae (ZB (cu U (l5 (qv 14)) (N':=[P3,"_law_field"]) (.own U (.own U .nil)) (cg (g:=(Tg.tp [0,1])) (λ_ _ _ _ _=>((eV (dh 0) (dh 1)),(XL (qv 0))))))) aw)))
(aj (bh (i:=11) (pv 11) (aq (af (XL (qv 12)) (af (XL (qv 15)) (af (aI j8 hr T.nY (ae (qv 0) (ae (qv 1) (ae (ZB (aV (qv 2) (qv 14))) (ae (qv 3) (ae (qv 4) aw)))))) ai)))))))))
(aj (aC (aq (af aE (af (XL (qv 8)) (af (aU (cq U) cp be T.d6 bv (ae (qv 11) aw)) ai))))))))))))),λts Q hh=>?_)
 let(ks,hs,ws,sc,f,h,u,U,W,hf,S,hl,bT,cb,hq):=hh;have l0:0<sc.length:=Mn.mpr bT;have V:((sc.map tP).length:Int)=sc.length:=by rw[dN]
 refine(_,U,by rw[V];omega,by rw[V];omega,λr r0 r1=>(by rw[V];omega,by rw[V];omega,λr' a9 a0=>?_));rw[V]at r1 a0;let(m0,m1):=max_two r0 r1 a9 a0;let((x,k),hx,ex):=kX (f:=tP) m0 m1;refine(tP (x,k),ex,U,_,U,?_);let(kd,ak,ek):=R6 (S.kd _ hx);obtain rfl:kd.1=k:=ek;have em:=BX W.gk.nd ak;refine(aY B9 ks,_,vw ks,tMs kd.2,by rw[yC W.gk.nd (S.kd _ hx),em],vQ _,Int.natCast_nonneg _,?_);let(ne1,bc):=W.gk.ne kd ak;have bG:1<=kd.2.length:=Mn.mpr ne1;have bA:((kd.2.map tM).length:Int)=kd.2.length:=by rw[dN]
 have wl:=W.wl;have e1:(u-((kd.2.map tM).length:Int)).toNat=u.toNat-kd.2.length:=by rw[bA];omega
 generalize u-((kd.2.map tM).length:Int)=u' at e1 ⊢;refine(vQ kd.2,λi q=>Ea6 λarms L aW aK aF ar=>q=[.r .dE,.r (tW ks hs ws),.r (.l (sc.map tP)),.r (.i f),.r (.rm u'),.r (tKs ks),.r (.l (hs.map tH)),.r (.l (ws.map .s)),.r (.s x),.r (.s kd.1),.o (tMs kd.2),.o (.l L),aW,aK,aF,ar]/\L=arms.map tA/\t5 ws ks hs h.2.2 sc (sz u'.toNat) (3*u'.toNat+2) arms (kd.2.take i),
([],_,_,_,_,_,U,U,(U,λi a m h1=>by simp at h1)),?_,?_)
 ·rintro i t q hx ⟨arms,L,aW,aK,aF,ar,rfl,rfl,hA⟩;rw[fZ]at hx;let(m,hm,U):=gV.mp hx;let(cy,b0):=W.gk.fl kd ak m (jk hm);have cx:i<kd.2.length:=(gs.mp hm).1;have lA:arms.length=i:=by rw[hA.ln,tX];omega
  let(ln,a4,S'):=S.more (ns:=(ws.drop sc.length).take m.2.length) W.wn U bd bd b0;refine(_,U,aG (by rw[bC,dN];omega),λj ys=>ys=(((ws.drop sc.length).take j).zip (m.2.take j)).map tP,U,?_,?_)
  ·rintro j y ys hy rfl;let(z,hz,U):=cT hy;rw[fZ]at hz;let(g,hg,U):=gV.mp hz;have cw:j<m.2.length:=(gs.mp hg).1;have a5:sc.length+j<ws.length:=bd;have ew:atI (ws.map ϙ) (((sc.map tP).length:Int)+(j:Nat))=Z (.s ws[sc.length+j]):=by rw[dN];exact gR (j:=sc.length+j) (fY a5)
   refine(_,U,_,ew,U,U,?_);show _++[tP (ws[sc.length+j],g)]=_;rw[Jt (a:=ws[sc.length+j]) (by rw[List.getElem?_drop,fY a5]) hg,mu];rfl
  rintro ys rfl;rw[show(jg (m.2.map ϙ)).length=m.2.length by rw[bC,dN],rV];have a3:∀y∈(ws.drop sc.length).take m.2.length,y∈ws:=λy hy=>ae1 (Ff hy);generalize ct:(ws.drop sc.length).take m.2.length=ns at ln a4 S' a3 ⊢;refine(aG (by rw[dN,Zt];omega),λj ys=>ys=(((ns.zip m.2).take j).map (·.1)).map .s,U,?_,?_)
  ·rintro j y ys hy rfl;rw[fZ]at hy;let(p,hp,U):=gV.mp hy;refine(_,U,U,?_);show _++[ϙ p.1]=_;rw[rr,hp];simp
  rintro ys rfl;rw[show((ns.zip m.2).map tP).length=(ns.zip m.2).length by rw[dN],rV,Fm ln];refine(aL _,aG (by rw[dN];omega),U,aL _,bO (by rw[dN,dN,Zt];omega),aY fh _,aY fh _,ks,hs,ws,sc++ns.zip m.2,f,h,_,by rw[mu],W,hf,S',by rw[g5,Zt];omega,bd,λn b hn hb dd=>?_);refine(arms++[(m.1,ns,b,n)],_,_,_,_,_,U,by simp[tA],?_);rw[rr,hm];exact hA.snoc (U,ln,a4,hb,hn,dd,a3)
 rintro q ⟨arms,L,aW,aK,aF,ar,rfl,rfl,hA⟩;rw[dN,rV]at hA;let(hS,hle):=hA.snd hx ak;refine(U,hA.im,hq _ _ ?_ hS ((hA.dz bd).mono bd));rw[hA.ln,e1]at hle;have:=Oa (n:=u.toNat) bG bc;omega
def qMk(N:Nat):QS:=i5 (KW (Tg.tp [17,18]) (qOp qIx (aQ 5) (fD vo (aH (aQ 0) (aH (qCB Bw (aH (aQ 5) cH)) cH)))))
 (i5 (KW (Tg.tp [19,20]) (qOp qIx (aQ 18) (fD vo (aH (aQ 0) (aH (qCB Bw (aH (aQ 18) cH)) cH)))))
(i5 (nu 16 (fD DV (aH (aQ 0) (aH (aQ 2) (aH (aQ 20) cH)))))
(i5 (vn (eI (qOp (HR ϊ) (aQ 16) (qC .n))) (λD q=>fD ug (aH (aQ 0) (aH (aQ 1) (aH (aQ 2) (aH (aQ 8) (aH (aQ 3) cH))))) q D.rt) oH)
λD q=>mq (aH (qC (.s (Str.ofString "make"))) (aH (qIm (aQ 10)) (aH (qIm (aQ 19)) (aH (qIm (aQ 16)) (aH (fD (nA N) (aH (aQ 0) (aH (aQ 1) (aH (qOp oI (aQ 2) (O1 (aH (mq (aH (qIm (aQ 10)) (aH (qIm (aQ 17)) cH))) cH))) (aH (aQ 3) (aH (aQ 4) cH)))))) cH))))) q D.rt)))
def qCl(N:Nat):QS:=i5 (vn (eI (qOp DT (aQ 9) (qC (.i 6))))
(i5 (nu 15 (fD vo (aH (aQ 0) (aH (qCB Bw (aH (aQ 6) cH)) cH))))
(i5 (nu 16 (fD DV (aH (aQ 0) (aH (aQ 2) (aH (FP [Y] (asT (qOp qIx (qOp qIx (aQ 6) (aQ 15)) (qC (.i 1)))) (Tg.nm 0) KY (qIm (qOp qIx (aQ 0) (qC (.i 1))))) cH)))))
(vn (eI (qOp (HR O) (aQ 16) (qC .n))) (λD q=>mq (aH (qC (.s (Str.ofString "call"))) (aH (qIm (aQ 10)) (aH (qIm (qOp qIx (qOp qIx (aQ 6) (aQ 15)) (qC (.i 0)))) (aH (qIm (aQ 16)) (aH (fD (nA N) (aH (aQ 0) (aH (aQ 1) (aH (qOp oI (aQ 2) (O1 (aH (mq (aH (qIm (aQ 10)) (aH (qIm (qOp qIx (qOp qIx (aQ 6) (aQ 15)) (qC (.i 2)))) cH))) cH))) (aH (aQ 3) (aH (aQ 4) cH)))))) cH))))) q D.rt) oH))) oH) (qMk N)
def qNm(N:Nat):QS:=i5 (KW (Tg.tp [13,14]) (qOp qIx (aQ 2) (fD vo (aH (aQ 0) (aH (qCB Bw (aH (aQ 2) cH)) cH)))))
 λD q=>mq (aH (qC (.s (Str.ofString "name"))) (aH (qIm (aQ 10)) (aH (qIm (aQ 13)) (aH (fD (nA N) (aH (aQ 0) (aH (aQ 1) (aH (qOp oI (aQ 2) (O1 (aH (mq (aH (qIm (aQ 10)) (aH (qIm (aQ 14)) cH))) cH))) (aH (aQ 3) (aH (aQ 4) cH)))))) cH)))) q D.rt
structure Hf(N ύ D:Nat)(ks:ϕ)(hs:List Hd)(ws:Γ)(sc:Sc)(f:Nat)(h:Hd)(u:Int)(x:Str)(Q:ϔ):Prop where
 W:Wld ks hs ws
 kd:∀p∈sc,p.2∈ks.map (·.1)
 l16:sc.length<=16
 fx:x ∉ sc.map (·.1)
 hE:ug [.dE,tW ks hs ws,.l (sc.map tP),.s h.2.2,.i f] Q
 go:∀{k:Str},k∈ks.map (·.1)->∀{Q':ϔ},(∀n b,n<=ύ->Snd ks hs h.2.2 n (sc++[Prod.mk x k]) b->Dz ws D b->Q' b)->nA N [.dE,tW ks hs ws,.l (sc.map tP++[tP (x,k)]),.i f,.rm u] Q'
 hq:∀n b,n<=ύ+1->Snd ks hs h.2.2 n sc b->Dz ws (D+1) b->Q b
 d1:1<=D
 zx:x∈ws
theorem FL{f:Nat}{h:Hd}{u:Int}{Q:ϔ}(C:Hf N ύ D ks hs ws sc f h u x Q)(a5 a4 a3 a0 aW aK aF ar ak V:Sl):
  qMk N {nx:=λ_=>Q .n,rt:=Q} [.r .dE,.r (tW ks hs ws),.r (.l (sc.map tP)),.r (.i f),.r (.rm u),.r (tKs ks),.r (.l (hs.map tH)),.r (.l (ws.map .s)),.o (.s h.2.2),.o (.i fm),.o (.s x),a5,a4,a3,a0,aW,aK,aF,ar,ak,V]:=by
 let(W,a9,h3,fx,hE,go,hq,d1,zx):=C;have lk:((ks.map tK).length:Int)=ks.length:=by rw[dN]
 have k1:=W.gk.k1;have k2:=W.gk.k2;refine(by rw[lk];omega,by rw[lk];omega,λr6 P z=>?_);rw[lk]at z;let(kd,g,ek):=kX (f:=tK) P z;let(ne1,a6):=W.gk.ne kd g;have lm:((kd.2.map tM).length:Int)=kd.2.length:=by rw[dN]
 have l1:1<=kd.2.length:=Mn.mpr ne1;refine(_,ek,B9 kd,_,U,by rw[lm];omega,by rw[lm];omega,λr7 K q=>?_);rw[lm]at q;let(m,hm,em):=kX (f:=tM) K q;refine(_,em,Gk m,_,U,sc,m.2,_,.inl U,U,bd,by have:=(W.gk.fl kd g m hm).1;omega,hE,λns hF=>?_);refine(U,U,aL _,U,U,bO (by rw[dN];show sc.length+1<=10000;omega),aY fh _,U,?_);exact go (nR.mpr (kd,g,U)) λn b hn hb dd=>hq (n+1) _ bd (.make g hm hF fx hb) (uE zx dd d1)
theorem OE{f:Nat}{h:Hd}{u:Int}{Q:ϔ}{nx:Sq->Prop}(C:Hf N ύ D ks hs ws sc f h u x Q)(a5:sc ≠ [])(a3 a0 aW aK aF ar ak V P K:Sl):
  qNm N {nx:=nx,rt:=Q} [.r .dE,.r (tW ks hs ws),.r (.l (sc.map tP)),.r (.i f),.r (.rm u),.r (tKs ks),.r (.l (hs.map tH)),.r (.l (ws.map .s)),.o (.s h.2.2),.o (.i fm),.o (.s x),a3,a0,aW,aK,aF,ar,ak,V,P,K]:=by
 let(W,a4,h3,fx,hE,go,hq,d1,zx):=C;have g:((sc.map tP).length:Int)=sc.length:=by rw[dN]
 have l0:0<sc.length:=Mn.mpr a5;refine(by rw[g];omega,by rw[g];omega,λr5 z q=>?_);rw[g]at q;let((y,k),hy,ey):=kX (f:=tP) z q;refine(_,ey,U,_,U,U,U,U,U,bO (by rw[dN];show sc.length+1<=10000;omega),aY fh _,U,?_);exact go (a4 _ hy) λn b hn hb dd=>hq (n+1) _ bd (.name hy fx hb) (QQ zx dd)
theorem OH{f:Nat}{h:Hd}{u:Int}{Q:ϔ}(C:Hf N ύ D ks hs ws sc f h u x Q)(a0 aW aK aF ar ak V P K z:Sl):
  qCl N {nx:=λ_=>Q .n,rt:=Q} [.r .dE,.r (tW ks hs ws),.r (.l (sc.map tP)),.r (.i f),.r (.rm u),.r (tKs ks),.r (.l (hs.map tH)),.r (.l (ws.map .s)),.o (.s h.2.2),.o (.i fm),.o (.s x),a0,aW,aK,aF,ar,ak,V,P,K,z]:=by
 let(W,a3,h3,fx,hE,go,hq,d1,zx):=id C;refine(U,ay (λ_=>?_) (λ_=>FL C _ _ _ _ _ _ _ _ _ _));have lh:((hs.map tH).length:Int)=hs.length:=by rw[dN]
 have a5:=W.h1;have a4:=W.h8;refine(by rw[lh];omega,by rw[lh];omega,λg g0 g1=>?_);rw[lh]at g1;let(hd,q,eg):=kX (f:=tH) g0 g1;let(q1,q2,q3,q4):=W.hp hd q;refine(_,eg,_,U,aG (by rw[dN];omega),λi ys=>ys=((hd.2.1.take i).map (·.2)).map .s,U,?_,?_)
 ·rintro i t ys ht rfl;rw[fZ]at ht;let(p,hp,U):=gV.mp ht;refine(_,U,_,U,U,?_);show _++[ϙ p.2]=_;rw[rr,hp];simp
 rintro ys rfl;rw[show(hd.2.1.map tP).length=hd.2.1.length by rw[dN],rV];refine(sc,hd.2.1.map (·.2),_,.inr U,U,bd,by rw[dN];omega,FL C _ _ _ _ _ _ _ _ _ _,λns hF=>?_);refine(U,_,eg,_,U,U,aL _,U,_,eg,_,U,U,bO (by rw[dN];show sc.length+1<=10000;omega),aY fh _,U,?_);exact go q4 λn b hn hb dd=>hq (n+1) _ bd (.call q hF fx hb) (uE zx dd d1)
theorem W2{r:Int}(h0:0<=r)(h1:r<3):∃w:Str,atI [ϙ "pay",ϙ "pay",ϙ "get"] r=Z (.s w)/\(w="pay" \/ w="get"):=by obtain⟨n,rfl⟩:∃n:Nat,r=n:=(r.toNat,bd);match n,h1 with| 0,_=>exact(_,U,.inl U)| 1,_=>exact(_,U,.inl U)| 2,_=>exact(_,U,.inr U)|n+3,h=>lia
theorem PZ(T:Txt K mg a)(N:Nat):aP P w K mg base CX0 (2*N+3) a.vW a.EV [WF,Tk,WP,Th,Tl] (spQ K (nA N)):=by
 induction N with
 |zero =>refine never λts Q hh=>?_;let(ks,hs,ws,sc,f,h,u,U,W,hf,S,hl,a3,hq):=hh;omega|succ N j8 =>
  have V3:=PY T N j8;have V:=lB (@g8 P w K mg base a T);refine T.nY.F.okQ cm (λ_ _ _ _ _ _ hr=>?_);have hu:=bj hr;refine(_,_,((ag (zM (g:=(Tg.tp [5,6,7])) (i:=1) (pv 1) (oQ (K:=K) (n:=3) U U (cj (br 5 cm.nd) (cj (br 6 cm.nd) (cj (br 7 cm.nd) oP)))))
(ag (az 8 cm.nd (XL (ao (ao (qv 6) (qv 3)) ah)))
(ag (az 9 cm.nd (aI V hr T.a6 (ae (qv 0) (ae ah aw))))
(ag (aS (QPW.pt (KD (KG (OR (qv 4) ah) ah) (KD (bf hu (qv 9) ah) (KC (RR (ZB (bq T.bP (ae (qv 2) aw))) ah)))))
(aj (aC (aI (LS T) hr T.A0 (ae (qv 0) (ae (qv 1) (ae (qv 2) (ae (qv 8) (ae (qv 3) aw))))))))
aA)
(ag (Bs (i:=4) (pv 4) (pv 4) ah)
(ag (az 10 cm.nd (XL (ao (qv 7) (ZB (bq T.bP (ae (qv 2) aw))))))
(ag (aS (KG (qv 9) ah)
(ag (az 11 cm.nd (aV ah (ZB (aI V hr T.a6 (ae (qv 0) (ae (ZB (vk (aM (af bF (af bF (af bF ai)))) (ZB (aI V hr T.a6 (ae (qv 0) (ae ah aw)))))) aw))))))
(ag (az 12 cm.nd (vk (aM (fb be)) (ZB (aI V hr T.a6 (ae (qv 0) (ae ah aw))))))
(aj (aC (aq (af (XL (qv 12)) (af (XL (qv 11)) (af (aI j8 hr T.nY (ae (qv 0) (ae (qv 1) (ae (qv 2) (ae (qv 3) (ae (qv 4) aw)))))) ai))))))))
aA)
(ag (aS (QPW.pt (qR (KG (qv 9) ah) (lV (bD (BJ hu U) yp (bW _) (qv 2) (ZB (aM ai))))))
(aj (aC (aI V3 hr T.Nt (ae (qv 0) (ae (qv 1) (ae (qv 2) (ae (qv 3) (ae (qv 4) aw))))))))
aA)
(ag (aS (QPW.pt (qR (bf hu (qv 9) ah) (lV (bD (BJ hu U) yp (bW _) (qv 2) (ZB (aM ai))))))
(ag (qT (g:=(Tg.tp [13,14])) (ao (qv 2) (ZB (aI V hr T.a6 (ae (qv 0) (ae (ZB (bq T.bP (ae (qv 2) aw))) aw))))) (eV (br 13 cm.nd) (br 14 cm.nd)))
(aj (aC (aq (af aE (af (XL (qv 10)) (af (XL (qv 13)) (af (aI j8 hr T.nY (ae (qv 0) (ae (qv 1) (ae (ZB (aV (qv 2) (ZB (aM (af (aq (af (XL (qv 10)) (af (XL (qv 14)) ai))) ai))))) (ae (qv 3) (ae (qv 4) aw)))))) ai))))))))
aA)
(ag (aS (bf hu (qv 9) ah)
(ag (az 15 cm.nd (aI V hr T.a6 (ae (qv 0) (ae (ZB (bq T.bP (ae (qv 6) aw))) aw))))
(ag (az 16 cm.nd (aI (F8 T) hr T.xf (ae (qv 0) (ae (qv 2) (ae (ZB (cu U (gg (ao (ao (qv 6) (qv 15)) ah)) (N':=["_law_param"]) (.own U .nil) (cg (g:=(Tg.nm 0)) (λ_ _ _ _ _=>((dh 0),(XL (ao (qv 0) ah))))))) aw)))))
(aj (aS (bD uk oo (bW _) (qv 16) (ZB cO))
(aj (aC (aq (af aE (af (XL (qv 10)) (af (XL (ao (ao (qv 6) (qv 15)) ah)) (af (XL (qv 16)) (af (aI j8 hr T.nY (ae (qv 0) (ae (qv 1) (ae (ZB (aV (qv 2) (ZB (aM (af (aq (af (XL (qv 10)) (af (XL (ao (ao (qv 6) (qv 15)) ah)) ai))) ai))))) (ae (qv 3) (ae (qv 4) aw)))))) ai))))))))
aA))))
aA)
(ag (qT (g:=(Tg.tp [17,18])) (ao (qv 5) (ZB (aI V hr T.a6 (ae (qv 0) (ae (ZB (bq T.bP (ae (qv 5) aw))) aw))))) (eV (br 17 cm.nd) (br 18 cm.nd)))
(ag (qT (g:=(Tg.tp [19,20])) (ao (qv 18) (ZB (aI V hr T.a6 (ae (qv 0) (ae (ZB (bq T.bP (ae (qv 18) aw))) aw))))) (eV (br 19 cm.nd) (br 20 cm.nd)))
(ag (az 16 cm.nd (aI (F8 T) hr T.xf (ae (qv 0) (ae (qv 2) (ae (qv 20) aw)))))
(ag (aS (bD vx oq (bW _) (qv 16) (ZB cO))
(aj (aC (aI (LS T) hr T.A0 (ae (qv 0) (ae (qv 1) (ae (qv 2) (ae (qv 8) (ae (qv 3) aw))))))))
aA)
(aj (aC (aq (af aE (af (XL (qv 10)) (af (XL (qv 19)) (af (XL (qv 16)) (af (aI j8 hr T.nY (ae (qv 0) (ae (qv 1) (ae (ZB (aV (qv 2) (ZB (aM (af (aq (af (XL (qv 10)) (af (XL (qv 17)) ai))) ai))))) (ae (qv 3) (ae (qv 4) aw)))))) ai))))))))))))))))))))))),λts Q hh=>?_)
  let(ks,hs,ws,sc,f,h,u,U,W,hf,S,hl,a3,hq):=hh;have ef:atI (hs.map tH) (f:Int)=Z (tH h):=bu (by rw[fZ,hf];rfl);have hE:ug [.dE,tW ks hs ws,.l (sc.map tP),.s h.2.2,.i f] Q:=(ks,hs,ws,sc,f,h,U,W,hf,S,λn b hn hb dd=>hq n b (tY hn (JT _)) hb (dd.mono bd));have a0:((sc.map tP).length:Int)=sc.length:=by rw[dN]
  have wl:=W.wl;have ak:sc.length<ws.length:=bd;have ex:atI (ws.map ϙ) ((sc.map tP).length:Int)=Z (.s ws[sc.length]):=by rw[dN];exact gR (fY ak)
  have hx:ws[sc.length]?=Z ws[sc.length]:=fY ak;have zx:ws[sc.length]∈ws:=Jr ak;have fx:ws[sc.length] ∉ sc.map (·.1):=S.fresh W.wn hx;generalize ws[sc.length]=x at ex fx hx zx;refine(_,U,_,ef,_,U,U,ad,ad,λfm f0 f1=>(U,λr a9=>ay (λ_=>hE) (λh1=>(U,ay (λ_=>hE) (λ_=>ay (λ_=>hE) (λh3=>?_))))));have h1:¬ r<1:=λz=>h1 (decide_eq_true z);have h3:sc.length<=16:=by have h3:¬(16:Int)<((sc.map tP).length:Int):=λz=>h3 (decide_eq_true z);rw[a0]at h3;omega
  have u1:u.toNat=(u-1).toNat+1:=bd;have uN:(u-1).toNat<N:=bd;have s1:=Dx (u-1).toNat;rw[<- u1]at s1;have go:∀{k:Str},k∈ks.map (·.1)->∀{Q':ϔ},(∀n b,n<=sz (u-1).toNat->Snd ks hs h.2.2 n (sc++[Prod.mk x k]) b->Dz ws (3*(u-1).toNat+2) b->Q' b)->nA N [.dE,tW ks hs ws,.l (sc.map tP++[tP (x,k)]),.i f,.rm (u-1)] Q':=λ{k} hk {Q'} hQ =>
   (ks,hs,ws,sc++[(x,k)],f,h,u-1,by rw[mu];rfl,W,hf,S.snoc hx bd hk,by rw[g5];simp;omega,uN,hQ)
  have C:Hf N (sz (u-1).toNat) (3*(u-1).toNat+2) ks hs ws sc f h (u-1) x Q:=(W,S.kd,h3,fx,hE,go,λn b hn hb dd=>hq n b bd hb (dd.mono bd),bd,zx);refine(ad,_,ex,U,ay (λ_=>?_) (λ_=>?_))
  ·refine(ad,ad,λr2 aW aK=>?_);let(v2,a4,a5):=RX (x:=3) (y:=9) (z:=1000) aW aK;refine(_,a4,bd,bd,λc c0 c1=>(ad,ad,λr4 aF ar=>?_));let(wd,ew,hw):=W2 aF ar;refine(_,ew,U,U,ks,hs,ws,sc,f,h,u-1,U,W,hf,S,hl,uN,λn b hn hb dd=>hq (n+1) _ bd (.bJ hw bd hb) ((MH dd).mono bd))
  refine(λrest=>ay (λ_=>ay (λq=>?_) (λ_=>rest)) (λ_=>rest)) ?_
  ·have Qu:sc ≠ []:=λz=>by rw[z]at q;exact absurd q ad
   exact(ks,hs,ws,sc,f,h,u-1,U,W,hf,S,bd,Qu,uN,λn b hn hb dd=>hq n b (by rw[u1];exact hn) hb (dd.mono bd))
  refine(λrest=>(U,ay (λ_=>ay (λq=>OE C (λz=>by rw[z]at q;exact absurd q ad) _ _ _ _ _ _ _ _ _ _) (λ_=>rest)) (λ_=>rest))) ?_;exact OH C _ _ _ _ _ _ _ _ _ _
theorem Ea(T:Txt K mg a):aP P w K mg base CX0 66 a.mf a.yK [WF,Of,Tl] (spQ K HW):=by
 have aO:=lB (@g8 P w K mg base a T);refine T.y8.F.okQ cf (λ_ _ _ _ _ _ hr=>?_);have hu:=bj hr;refine(_,_,((ag (az 3 cf.nd (aI (LM T) hr T.G7 (ae (qv 0) (ae ah aw))))
(ag (az 4 cf.nd (aI (LR T) hr T.Hc (ae (qv 0) (ae (qv 3) aw))))
(ag (az 5 cf.nd (aM ai))
(ag (bH (g:=(Tg.nm 6)) PassesOwn.never U (iY U T.fB (ae (ZB (aV ah (ZB (aI aO hr T.a6 (ae (qv 0) (ae (qv 1) aw)))))) aw)) (br 6 cf.nd)
(ag (az 7 cf.nd (vk (aM (af bF (af bF (af bF (af bF (af bF (af bF (af bF ai)))))))) (ZB (aI aO hr T.a6 (ae (qv 0) (ae ah aw))))))
(ag (fO (i:=8) cf.nd U (Or.inl U) U (iZ U T.fB (ae (qv 7) aw)) (N':=[Sa,Ty,ST,WF]) (.own U (.got (i:=3) U U (.inl U) (.got (i:=4) U U (.inl U) (.got (i:=0) U U (.inl U) .nil)))) (cg (g:=(Tg.nm 0)) (λ_ _ _ _ _=>((dh 0),(aq (af (XL (ao (qv 1) (qv 0))) (af (XL (ao (ao (qv 2) (ZB (aI aO hr T.a6 (ae (qv 3) (ae (ZB (bq T.bP (ae (qv 2) aw))) aw))))) ah)) ai)))))))
(aj (bh (i:=5) (pv 5) (aq (af (XL (ao (qv 3) (ZB (zQ ah (qv 6))))) (af (aU (cq U) cp be T.d6 bv (ae (qv 8) aw)) (af (XL (ao (ao (qv 4) (ZB (aI aO hr T.a6 (ae (qv 0) (ae (ZB (bq T.bP (ae (qv 4) aw))) aw))))) ah)) ai)))))))))
(ag (az 9 cf.nd (aM ai))
(ag (bH (g:=(Tg.tp [6,10])) PassesOwn.never U (KL (i:=5) U T.bQ bv (pv 5)) (eV (br 6 cf.nd) (br 10 cf.nd))
(ag (az 11 cf.nd (aI (PZ T 31) hr T.nY (ae (qv 0) (ae (OP (ae (qv 4) (ae (qv 5) (ae (qv 3) aw)))) (ae (ZB (aU (rO U) qJ be T.nL bv (ae (ao (qv 10) ah) aw))) (ae (qv 6) (ae (ZB (OQ (aM (af (XL (qv 2)) ai)))) aw)))))))
(aj (bh (i:=9) (pv 9) (aV (qv 10) (ZB (aq (af (XL (qv 11)) ai))))))))
(aj (aC (aq (af (XL (qv 4)) (af (aU (cq U) cp be T.d6 bv (ae (qv 9) aw)) ai)))))))))))),λts Q hh=>?_)
 let(mo,u,U,cR,cC,u0,cA,hq):=hh;refine(40,U,ad,ad,λws hl aK _ wz=>?_);have hl:ws.length=40:=bd;refine(ws,U,hl,aK,λks bA _=>?_);obtain⟨ow,eo⟩:∃ow:Int,ow=1:=(1,U);have w0:0<=ow:=bd;have w1:ow<2:=bd;have gk:=bA.p;have k1:=gk.k1;have k2:=gk.k2;have lk:((ks.map tK).length:Int)=ks.length:=by rw[dN]
 refine(bd,bd,λn n0 n1=>?_);refine(bd,bd,λi q=>Ea5 λhs L o5 o6 o7=>q=[.r .dE,.r (.i mo),.r (.i u),.o (.l (ws.map .s)),.o (tKs ks),.o (.l L),o5,o6,o7,.no,.no,.no]/\L=hs.map tH/\yV ks ws ow.toNat hs i,([],_,_,_,_,U,U,(U,U,nofun)),?_,?_)
 ·rintro i x q hx ⟨hs,L,o5,o6,o7,rfl,rfl,hH⟩;let(U,hi):=iG hx;refine(_,U,ad,ad,λr2 cb b0=>?_);let(m,hm,em):=kX (xs:=[1,1,2,2,0,3,4]) (f:=Ϛ) cb b0;have hm:m=1\/m=1\/m=2\/m=2\/m=0\/m=3\/m=4:=(hm:);refine(_,em,bd,bd,aG (by rw[cZ];omega),λp ys=>∃ps:Sc,ys=ps.map tP/\ps.map (·.1)=ws.take p/\∀q∈ps,q.2∈ks.map (·.1),([],U,U,nofun),?_,?_)
  ·rintro p y ys hy ⟨ps,rfl,ar,a0⟩;let(U,hp):=iG hy;have bc:p<ws.length:=bd;have ew:atI (ws.map ϙ) (0+((p:Nat):Int))=Z (.s ws[p]):=by rw[ZH];exact gR (by simp[bc])
   refine(_,U,_,ew,U,by rw[lk];omega,by rw[lk];omega,λr3 bT a5=>?_);rw[lk]at a5;let(kd,a3,ek):=kX (f:=tK) bT a5;refine(_,ek,_,U,U,ps++[(ws[p],kd.1)],by simp[tP],?_,λq cw=>?_)
   ·rw[mu,ar];exact take_one (by simp[bc])
   obtain z|z:=lN.mp cw
   ·exact a0 q z
   rw[fy.mp z];exact nR.mpr (kd,a3,U)
  rintro ys ⟨ps,rfl,ar,a0⟩;rw[cZ]at ar;have ct:ps.length=m.toNat:=by have:=congrArg CP ar;rw[dN,tX]at this;omega
  have a9:tm ow.toNat i<ws.length:=by unfold tm;split <;> omega
  have ei:atI (ws.map ϙ) (39-(0+(i:Int)))=Z (.s ws[tm ow.toNat i]):=by
   have e:39-(0+(i:Int))=((tm ow.toNat i:Nat):Int):=by subst eo;show _=((39-i:Nat):Int);omega
   rw[e];exact gR (by simp[a9])
  refine(aG (by rw[dN,hH.ln];omega),_,ei,U,aY fh _,by rw[lk];omega,by rw[lk];omega,λr4 bG a4=>?_);rw[lk]at a4;let(kd,a3,ek):=kX (f:=tK) bG a4;refine(_,ek,_,U,U,hs++[(ws[tm ow.toNat i],ps,kd.1)],_,_,_,_,U,by simp[tH],hH.snoc (fY a9) (by show ps.length<=4;omega,a0,by show ps.map (·.1)=ws.take ps.length;rw[ct];exact ar,nR.mpr (kd,a3,U)))
 rintro q ⟨hs,L,o5,o6,o7,rfl,rfl,hH⟩;rw[cZ]at hH;have W:Wld ks hs ws:=(gk,hl,aK,by rw[hH.ln];omega,by rw[hH.ln];omega,hH.nd hl aK bd,hH.hp);refine(λi q=>Ea5 λfs L o5 o9 aW=>q=[.r .dE,.r (.i mo),.r (.i u),.o (.l (ws.map .s)),.o (tKs ks),.r (.l (hs.map tH)),o5,o6,o7,.o (.l L),o9,aW]/\L=fs.map tF/\fs.map (·.1)=hs.take i/\∀f∈fs,Snd ks hs f.1.2.2 f.2.2 f.1.2.1 f.2.1/\f.2.2<=sz u.toNat/\Dz ws (3*u.toNat+2) f.2.1,([],_,_,_,_,U,U,U,nofun),?_,?_)
 ·rintro i x q hx ⟨fs,L,o5,o9,aW,rfl,rfl,V,ak⟩;let(y,hy,U):=cT hx;rw[fZ]at hy;let(hd,aF,U):=gV.mp hy;have Qv:=jk aF;let(q1,q2,q3,q4):=W.hp hd Qv;have cV:fs.length=i:=by have:=congrArg CP V;rw[dN,tX]at this;have:=(gs.mp aF).1;omega
  have lhs:=W.h8;have cW:=(gs.mp aF).1;refine(_,U,_,U,aY fh _,U,ks,hs,ws,hd.2.1,i,hd,u,U,W,aF,(q3,bd,q2,mz _,by rw[rV]),bd,bd,λn b hn hb dd=>?_);refine(aG (by rw[dN];omega),hb.im,bO (by show 4<=10000;decide),Xr hd,(by show(b.im&&O)=O;rw[hb.im];rfl),fs++[(hd,b,n)],_,_,_,_,U,by simp[tF],?_,λf' cy=>?_)
  ·rw[mu,V,rr,aF];rfl
  obtain z|z:=lN.mp cy
  ·exact ak f' z
  rw[fy.mp z];exact(hb,hn,dd)
 rintro q ⟨fs,L,o5,o9,aW,rfl,rfl,V,ak⟩;rw[bC,dN,rV]at V;have cx:Ϙ (fs.map tF)=true:=by
  have go:∀(l:ϖ),(∀f∈l,f.2.1.im=O)->Ϙ (l.map tF)=true:=by
   intro l;induction l with
   |nil=>intro _;rfl
   |cons f r ih =>intro h;show((O&&(Ϙ (f.1.2.1.map tP)&&(O&&(f.2.1.im&&O))))&&Ϙ (r.map tF))=O;rw[aY fh,h f j4,ih λf hf=>h f (j6 _ hf)];rfl
  exact go fs λf hf=>(ak f hf).1.im
 refine(rG ks,cx,hq ks fs ws wz (gk,?_,?_,λf hf=>?_,λf hf=>?_,λf hf=>((ak f hf).2.2).d.mono bd) bA ?_ (λf hf=>(ak f hf).2.1) ?_ λf hf=>((ak f hf).2.2,λp hp=>?_))
 ·have:=congrArg CP V;rw[dN]at this;have:=W.h8;omega
 ·have:fs.map (·.1.1)=(fs.map (·.1)).map (·.1):=by rw[wH];rfl
  rw[this,V];exact W.hn
 ·have hm:f.1∈hs:=by rw[<- V];exact nR.mpr (f,hf,U)
  let(q1,q2,q3,q4):=W.hp f.1 hm;exact(q1,q2,by rw[q3];exact aK.sublist (V0 _ _),q4)
 ·rw[V];exact((ak f hf).1,tY (ak f hf).2.1 (tY (N9 bd) Wu))
 ·intro e;rw[e]at V;have:=hH.ln;rw[<- V]at this;simp at this;omega
 ·have:=hH.ln;rw[<- V,dN]at this;omega
 have hm:f.1∈hs:=by rw[<- V];exact nR.mpr (f,hf,U)
 let(q1,q2,q3,q4):=W.hp f.1 hm;have:p.1∈f.1.2.1.map (·.1):=nR.mpr (p,hp,U);rw[q3]at this;exact Ff this
theorem ma{ts:ϑ}(h:∀t∈ts,t.im=O):Ϙ ts=true:=by induction ts with|nil=>rfl|cons t r g=>show(t.im&&Ϙ r)=O;rw[h t j4,g λt q=>h t (j6 _ q)];rfl
theorem c8(h:n<=1002000):n<lK:=R4 h ad
def Rc:L2.T->L2.T
 |.t [_,_,b]=>b|_=>.n
def subs:L2.T->List (L2.T×L2.T)
 |.t [.s _,.s _,.t arms]=>arms.map λx=>(Rc x,x)|.t [.s _,.i _,b]=>[(b,.n)]|.t [.s _,.s _,.s _,b]=>[(b,.n)]|.t [.s _,.s _,.s _,.t _,b]=>[(b,.n)]|_=>[]
inductive Kid(ks:ϕ)(hs:List Hd):Sc->L2.T->Nat->L2.T->L2.T->Sc->Prop
 |bJ{sc:Sc}{w:Str}{c:Int}{b:L2.T}:(w="pay" \/ w="get")->Kid ks hs sc (.t [.s w,.i c,b]) 0 b .n sc|name{sc:Sc}{x y k:Str}{b:L2.T}:(y,k)∈sc->x ∉ sc.map (·.1)->Kid ks hs sc (.t [.s "name",.s x,.s y,b]) 0 b .n (sc++[Prod.mk x k])|make{sc:Sc}{x:Str}{m:Mk1}{kd:Kd}{ns:Γ}{b:L2.T}:kd∈ks->m∈kd.2->x ∉ sc.map (·.1)->Kid ks hs sc (.t [.s "make",.s x,.s m.1,.t (ns.map .s),b]) 0 b .n (sc++[(x,kd.1)])|call{sc:Sc}{x:Str}{h:Hd}{ns:Γ}{b:L2.T}:h∈hs->x ∉ sc.map (·.1)->Kid ks hs sc (.t [.s "call",.s x,.s h.1,.t (ns.map .s),b]) 0 b .n (sc++[(x,h.2.2)])|case{sc:Sc}{x:Str}{kd:Kd}{arms:List Arm}{j:Nat}{a:Arm}{m:Mk1}:(x,kd.1)∈sc->kd∈ks->arms.map (·.1)=kd.2.map (·.1)->arms[j]?=Z a->kd.2[j]?=Z m->a.2.1.length=m.2.length->(sc.map (·.1)++a.2.1).Nodup->Kid ks hs sc (.t [.s "case",.s x,.t (arms.map tA)]) j a.2.2.1 (tA a) (sc++a.2.1.zip m.2)
inductive Shp:ϔ
 |give{x:Str}:Shp (.t [.s "give",.s x])|bJ{w:Str}{c:Int}{b:L2.T}:(w="pay" \/ w="get")->b.im=O->Shp (.t [.s w,.i c,b])|name{x y:Str}{b:L2.T}:b.im=O->Shp (.t [.s "name",.s x,.s y,b])|use{w x m:Str}{ns:Γ}{b:L2.T}:(w="make" \/ w="call")->b.im=O->Shp (.t [.s w,.s x,.s m,.t (ns.map .s),b])|case{x:Str}{arms:List Arm}:(∀a∈arms,a.2.2.1.im=O)->arms.length<=50000->Shp (.t [.s "case",.s x,.t (arms.map tA)])
structure Nod where
 b:L2.T
 ab:L2.T
 am:L2.T
 pa:List (Nat×L2.T×Nat)
 sc:Sc
def IF(n:Nat)(d:Nod)(j:Nat)(b am:L2.T)(sc:Sc):Nod:=(b,.i n,am,d.pa++[(n,d.b,j)],sc)
inductive Ask(ks:ϕ)(sc:Sc):L2.T->Option Str->Prop
 |give{x:Str}:Ask ks sc (.t [.s "give",.s x]) Y|bJ{w:Str}{c:Int}{b:L2.T}:(w="pay" \/ w="get")->Ask ks sc (.t [.s w,.i c,b]) Y|name{x y k:Str}{b:L2.T}:(y,k)∈sc->Ask ks sc (.t [.s "name",.s x,.s y,b]) (Z k)|make{x:Str}{m:Mk1}{kd:Kd}{ns:Γ}{b:L2.T}:kd∈ks->m∈kd.2->Ask ks sc (.t [.s "make",.s x,.s m.1,.t (ns.map .s),b]) (Z kd.1)|call{x g:Str}{ns:Γ}{b:L2.T}:Ask ks sc (.t [.s "call",.s x,.s g,.t (ns.map .s),b]) Y|case{x k:Str}{arms:List Arm}:(x,k)∈sc->Ask ks sc (.t [.s "case",.s x,.t (arms.map tA)]) (Z k)
structure Ni(ks:ϕ)(hs:List Hd)(n:Nat)(d:Nod)(cs:List Nod):Prop where
 ok:∀(j:Nat)(c:Nod),cs[j]?=Z c->c=IF n d j c.b c.am c.sc/\Kid ks hs d.sc d.b j c.b c.am c.sc
 su:cs.map (λc=>Prod.mk c.b c.am)=subs d.b
 sh:Shp d.b
 ak:∃o,Ask ks d.sc d.b o
mutual
inductive Pre(ks:ϕ)(hs:List Hd):Nat->Nod->List Nod->Prop
 |mk{n:Nat}{d:Nod}{cs L:List Nod}:Ni ks hs n d cs->bx ks hs (n+1) cs L->Pre ks hs n d (d::L)
inductive bx(ks:ϕ)(hs:List Hd):Nat->List Nod->List Nod->Prop
 |nil{n:Nat}:bx ks hs n [] []|cons{n:Nat}{d:Nod}{ds L M:List Nod}:Pre ks hs n d L->bx ks hs (n+L.length) ds M->bx ks hs n (d::ds) (L++M)
end
variable{ds:List Nod}{L:List Nod}{M:List Nod}
theorem bx.app{es:List Nod}:∀{n:Nat},bx ks hs n ds L->bx ks hs (n+L.length) es M->bx ks hs n (ds++es) (L++M):=by
 induction ds generalizing L with
 |nil=>intro n h h2;cases h;simpa using h2
 |cons d ds g =>intro n h h2;cases h with|@cons _ _ _ z q h1 h3 =>rw[wI];exact .cons h1 (g h3 (by rw[g5,<- Nat.add_assoc]at h2;exact h2))
variable{d:Nod}
theorem bx.pop(h:bx ks hs n (d::ds) L):∃cs g,Ni ks hs n d cs/\L=d::g/\bx ks hs (n+1) (cs++ds) g:=by cases h with|@cons _ _ _ z q h1 h3 =>cases h1 with|@mk _ _ cs L2 hk h2 =>refine(cs,L2++q,hk,U,h2.app ?_);rw[show n+1+L2.length=n+(L2.length+1)by lia];exact h3
theorem bx.le(h:bx ks hs n ds L):ds.length<=L.length:=by induction ds generalizing n L with|nil=>exact AY _|cons d ds g =>cases h with|cons h1 h3 =>have:=g h3;cases h1;simp only[tZ,g5];lia
theorem U1{l:List Nat}{x:Nat}(h:x∈l):x<=l.sum:=by
 induction l with
 |nil=>cases h
 |cons y r g =>
  rw[aa5];obtain z|z:=lb.mp h
  ·lia
  lia
theorem Qa{l:List Nat}(h:∀x∈l,1<=x):l.length<=l.sum:=by induction l with|nil=>exact mz _|cons y r g =>have h1:=h y j4;have h2:=g λz q=>h z (j6 _ q);rw[aa5,tZ];lia
theorem Snd.pos{b:L2.T}(h:Snd ks hs r n sc b):1<=n:=by cases h <;> lia
theorem Snd.pre{b:L2.T}(h:Snd ks hs r m sc b)(aK:m<=50000):∀(n:Nat)(ab am:L2.T)(pa:List (Nat×L2.T×Nat)),∃L,Pre ks hs n (b,ab,am,pa,sc) L/\L.length<=m:=by
 have one:∀{m:Nat}{sc sc':Sc}{b b':L2.T}{o:Option Str},Kid ks hs sc b 0 b' .n sc'->Shp b->Ask ks sc b o->subs b=[(b',.n)]->(∀(n:Nat)(ab am:L2.T)(pa:List (Nat×L2.T×Nat)),∃L,Pre ks hs n (b',ab,am,pa,sc') L/\L.length<=m)->∀(n:Nat)(ab am:L2.T)(pa:List (Nat×L2.T×Nat)),∃L,Pre ks hs n (b,ab,am,pa,sc) L/\L.length<=m+1:=by
  intro m sc sc' b b' o hk sh ak aF g n ab am pa;let(L,h1,h2):=g (n+1) (.i n) .n (pa++[(n,b,0)]);refine((b,ab,am,pa,sc)::L,.mk (cs:=[(b',.i n,.n,pa++[(n,b,0)],sc')]) (λj c q=>?_,by rw[aF];rfl,sh,(o,ak)) (by have:=bx.cons h1 (.nil);rwa [pq]at this),by simp;omega);cases j with
  |zero=>cases q;exact(U,hk)
  |succ j=>simp at q
 induction h with
 |give hx =>
  intro n ab am pa;exact([_],.mk (cs:=[]) (λj c q=>by simp at q,U,.give,(Y,.give)) .nil,ba)
 |bJ hw _ h g=>exact one (.bJ hw) (.bJ hw h.im) (.bJ hw) U (g bd)|name hy hx h g=>exact one (.name hy hx) (.name h.im) (.name hy) U (g bd)|make K hm hF hx h g=>exact one (.make K hm hx) (.use (.inl U) h.im) (.make K hm) U (g bd)|call hh hF hx h g=>exact one (.call hh hx) (.use (.inr U) h.im) .call U (g bd)|@case sc x kd arms hx K Q h1 h2 g =>
  intro n ab am pa;have el:arms.length=kd.2.length:=(congrArg CP Q:);have sz:∀(j:Nat)(a:Arm),arms[j]?=Z a->a.2.2.2 <=(arms.map (·.2.2.2)).sum:=λj a ha=>U1 (nR.mpr (a,jk ha,U));have sh:Shp (.t [.s "case",.s x,.t (arms.map tA)]):=.case (λa ha=>by let(i,hi,e):=ro ha;exact(h2 i a (kd.2[i]' bd) (by rw[fY hi,e]) (fY _)).im) (by
   have:arms.length <=(arms.map (·.2.2.2)).sum:=by
    have:=Qa (l:=arms.map (·.2.2.2)) λz hz=>by
     let(a,ha,U):=nR.mp hz;let(i,hi,e):=ro ha;exact(h2 i a (kd.2[i]' bd) (by rw[fY hi,e]) (fY _)).pos
    simpa using this
   omega)
  let b:L2.T:=.t [.s "case",.s x,.t (arms.map tA)];have go:∀(k j:Nat),j+k=arms.length->∀P,∃(cs L:List Nod),bx ks hs P cs L/\cs.length=k/\L.length <=((arms.drop j).map (·.2.2.2)).sum/\cs.map (λc=>Prod.mk c.b c.am)=(arms.drop j).map (λa=>Prod.mk a.2.2.1 (tA a))/\∀(i:Nat)(c:Nod),cs[i]?=Z c->c=IF n (b,ab,am,pa,sc) (j+i) c.b c.am c.sc/\Kid ks hs sc b (j+i) c.b c.am c.sc:=by
   intro k;induction k with
   |zero =>
    intro j hj P;refine([],[],.nil,U,AY _,?_,λi c q=>by simp at q);rw[List.drop_eq_nil_of_le bd];rfl
   |succ k ar =>
    intro j hj P;have V:j<arms.length:=bd;have ea:arms[j]?=Z arms[j]:=fY V;have em:kd.2[j]?=Z (kd.2[j]' bd):=fY _;let(q1,q2):=h1 j _ _ ea em;have hK:Kid ks hs sc b j arms[j].2.2.1 (tA arms[j]) (sc++arms[j].2.1.zip (kd.2[j]' bd).2):=.case hx K Q ea em q1 q2;let(L1,p1,p2):=g j _ _ ea em (by have:=sz j _ ea;omega) P (.i n) (tA arms[j]) (pa++[(n,b,j)]);let(cs,L,c1,c2,c3,c4,c5):=ar (j+1) bd (P+L1.length);have ed:arms.drop j=arms[j]::arms.drop (j+1):=ab8 V;refine(_::cs,L1++L,.cons p1 c1,by simp[c2],?_,?_,λi c q=>?_)
    ·rw[ed,AZ,aa5,g5];omega
    ·rw[ed,AZ,AZ,c4]
    cases i with
    |zero=>cases q;exact(U,hK)
    |succ i =>let(z1,z2):=c5 i c q;rw[show j+(i+1)=j+1+i by omega];exact(z1,z2)
  let(cs,L,c1,_,c3,c4,c5):=go arms.length 0 bd (n+1);rw[ae0]at c3 c4;refine(_::L,.mk (cs:=cs) (λj c q=>?_,?_,sh,(_,.case hx)) c1,by simp;omega)
  ·have:=c5 j c q
   rwa [RC]at this
  rw[c4];show _=(arms.map tA).map λx=>Prod.mk (Rc x) x;rw[wH];rfl
theorem bx.from:∀(k:Nat){n:Nat}{ds M:List Nod},M.length=k->bx ks hs n ds M->∀(m:Nat)(d:Nod),M[m]?=Z d->(∃j,ds[j]?=Z d/\(m=0->j=0))\/∃(p:Nat)(e:Nod)(cs:List Nod)(j:Nat),p<m/\M[p]?=Z e/\Ni ks hs (n+p) e cs/\cs[j]?=Z d:=by
 intro k;induction k with
 |zero =>
  intro n ds M hl h m d hm;rw[uG.mp hl]at hm;simp at hm
 |succ k P =>
  intro n ds M hl h m d hm;cases ds with
  |nil=>cases h;simp at hl
  |cons d0 ds =>
   let(cs,L',hk,U,h2):=h.pop;cases m with
   |zero=>cases hm;exact .inl (0,U,λ_=>rfl)
   |succ m =>
    obtain⟨j,g,_⟩|⟨p,e,K,j,hp,he,V,Q⟩:=P (n:=n+1) (hl:) h2 m d (hm:)
    ·by_cases q:j<cs.length
     ·rw[u4 q]at g;exact .inr (0,d0,cs,j,bd,U,hk,g)
     rw[u6 bd]at g;exact .inl (j-cs.length+1,(g:),λz=>bd)
    exact .inr (p+1,e,K,j,bd,(he:),by rw[show n+(p+1)=n+1+p by lia];exact V,Q)
def spT(C:J)(p a r:L2.T):L2.T:=.ob C [We,"above","arm"] [p,a,r]
def spN(C:J)(d:Nod):L2.T:=spT C d.b d.ab d.am
inductive HY(C:J)(ts:ϑ)(Q:ϔ):Prop
 |mk (b:L2.T) (n:Nat) (h1:ts=[b,.i n]) (h2:Shp b) (h3:b.im=O) (h4:Q (.l ((subs b).map λp=>spT C p.1 (.i n) p.2)))
theorem Shp.im{b:L2.T}(h:Shp b):b.im=true:=by cases h with|give=>rfl|bJ _ h=>show(O&&(O&&(L2.T.im _&&O)))=O;rw[h];rfl|name h=>show(O&&(O&&(O&&(L2.T.im _&&O))))=O;rw[h];rfl|use _ h=>show(O&&(O&&(O&&(Ϙ _&&(L2.T.im _&&O)))))=O;rw[h,aL];rfl|case h =>show(O&&(O&&(Ϙ _&&O)))=O;rw[ma λt g=>by let(a,q,U):=nR.mp g;show(O&&(Ϙ (a.2.1.map .s)&&(a.2.2.1.im&&O)))=O;rw[h a q,aL];rfl];rfl
theorem bx.ims(h:bx ks hs n ds M):∀e∈M,e.b.im=true:=by
 have go:∀k {n:Nat} {ds M:List Nod},M.length=k->bx ks hs n ds M->∀e∈M,e.b.im=true:=by
  intro k;induction k with
  |zero =>
   intro n ds M hl h e he;rw[uG.mp hl]at he;cases he
  |succ k g =>
   intro n ds M hl h e he;cases ds with
   |nil=>cases h;simp at hl
   |cons z ds =>
    let(cs,K,q,U,h2):=h.pop;obtain rfl|he:=lb.mp he
    ·exact q.sh.im
    exact g (hl:) h2 e he
 exact go _ U h
theorem bx.asks:∀(k:Nat){n:Nat}{ds M:List Nod},M.length=k->bx ks hs n ds M->∀e∈M,∃o,Ask ks e.sc e.b o:=by
 intro k;induction k with
 |zero =>
  intro n ds M hl h e he;rw[uG.mp hl]at he;cases he
 |succ k g =>
  intro n ds M hl h e he;cases ds with
  |nil=>cases h;simp at hl
  |cons z ds =>
   let(cs,K,q,U,h2):=h.pop;obtain rfl|he:=lb.mp he
   ·exact q.ak
   exact g (hl:) h2 e he
inductive Pa(C:J)(ts:ϑ)(Q:ϔ):Prop
 |mk(ks:ϕ)(hs:List Hd)(d:Nod)(L:List Nod)(h1:ts=[d.b])(h2:d.ab=.n)(h3:d.am=.n)(h4:Pre ks hs 0 d L)(h5:L.length<=50000)(h6:Q (.l (L.map (spN C))))
inductive Li(ts:ϑ)(Q:ϔ):Prop
 |mk(ks:ϕ)(hs:List Hd)(d:Nod)(L:List Nod)(h1:ts=[d.b])(h2:d.ab=.n)(h3:d.am=.n)(h4:Pre ks hs 0 d L)(h5:L.length<=50000)(h6:Q (.l (L.map (·.b))))
theorem F7(T:Txt K mg a):aP P w K mg base CX0 1 a.eQ a.lE ["self",We,"above","arm"] (zr a.aK [We,"above","arm"]):=by
 refine Fun.ok T.il zy (λvs H Q E h=>?_) λcdv A outer s H vs Q E hr h=>?_
 ·let(x,dx,args,U,hl,_):=h;show args.length+1=4;rw[hl];rfl
 let(x,dx,args,U,hl,hx,hq):=h;obtain⟨v1,v2,g,rfl⟩:∃v1 v2 g,args=[v1,v2,g]:=by
  cases args with
  |nil=>cases hl
  |cons v1 r=>cases r with
   |nil=>cases hl
   |cons v2 r=>cases r with
    |nil=>cases hl
    |cons g r=>cases r with|nil=>exact(v1,v2,g,U)|cons=>cases hl
 refine(_,bI (kO (pv 0) (pv 1) U) (bI (kO (pv 0) (pv 2) U) (gx (kO (pv 0) (pv 3) U))),(_,U,_,U,x,a.aK,dx,_,U,hx,T.c9,T.dR,(by show 0<1000;decide),(_,U,_,U,x,a.aK,dx,_,U,ax,T.c9,T.cV,(by show 1<1000;decide),(_,U,_,U,x,a.aK,dx,_,U,ax,T.c9,T.kU,(by show 2<1000;decide),?_))));rw[g7,g7];exact hq
theorem q9(T:Txt K mg a):aP P w K mg base CX0 3 a.dX a.kh [We,"number"] (spQ K (HY a.aK)):=by
 refine T.ku.F.okQ qL (λ_ _ _ _ _ _ hr=>?_);have hu:=bj hr;refine(_,_,((ag (aS (bf hu (ao (qv 0) ah) (ZB aE))
(aj (aC (aM ai)))
aA)
(ag (aS (bf hu (ao (qv 0) ah) (ZB aE))
(aj (aC (cu U (gg (ao (qv 0) ah)) (N':=["arm","number"]) (.own U (.got (i:=1) U U (.inl U) .nil)) (cg (g:=(Tg.nm 0)) (λ_ _ _ _ _=>((dh 0),(i4 U T.Ai (F7 T) (hr.mono bd) U T.Ag T.lG (ae (ao (qv 0) ah) (ae (qv 1) (ae (qv 0) aw))))))))))
aA)
(aj (aC (aM (af (i4 U T.Ai (F7 T) (hr.mono bd) U T.Ag T.lG (ae (ao (qv 0) (ZB (du ah))) (ae (qv 1) (ae (ZB cO) aw)))) ai))))))),λts Q h=>?_)
 let(b,n,U,hS,ak,hq):=h;cases hS with
 |give=>exact(_,U,U,ay (λ_=>hq) (λz=>absurd bn z))|@bJ w c b hw q =>
  have n1:¬ decide ((ϙ w).v=(ϙ "give").v)=true:=by obtain rfl|rfl:=hw <;> decide +kernel
  have V:¬ decide ((ϙ w).v=(ϙ "case").v)=true:=by obtain rfl|rfl:=hw <;> decide +kernel
  refine(_,U,U,ay (λz=>absurd z n1) λ_=>(_,U,U,ay (λz=>absurd z V) λ_=>(_,U,?_)));exact((by show(b.im&&(O&&(O&&O)))=O;rw[q];rfl),U,hq)
 |@name x y b q =>refine(_,U,U,aa ((_,U,U,aa ((_,U,?_)))));exact((by show(b.im&&(O&&(O&&O)))=O;rw[q];rfl),U,hq)|@use w x m ns b hw q =>
  have n1:¬ decide ((ϙ w).v=(ϙ "give").v)=true:=by obtain rfl|rfl:=hw <;> decide +kernel
  have V:¬ decide ((ϙ w).v=(ϙ "case").v)=true:=by obtain rfl|rfl:=hw <;> decide +kernel
  refine(_,U,U,ay (λz=>absurd z n1) λ_=>(_,U,U,ay (λz=>absurd z V) λ_=>(_,U,?_)));exact((by show(b.im&&(O&&(O&&O)))=O;rw[q];rfl),U,hq)
 |@case x arms q hl =>
  refine(_,U,U,aa ((_,U,U,ay (λ_=>?_) λz=>absurd bn z)));refine(_,U,c8 (by rw[dN];omega),λi ys=>ys=(arms.take i).map (λz=>spT a.aK z.2.2.1 (.i n) (tA z)),U,?_,?_)
  ·rintro i y ys hy rfl;rw[fZ]at hy;let(z,hz,U):=gV.mp hy;have hi:=q z (jk hz);refine(_,U,_,U,(by show(z.2.2.1.im&&(O&&((O&&(Ϙ (z.2.1.map .s)&&(z.2.2.1.im&&O)))&&O)))=O;rw[hi,aL];rfl),U,?_);show _++[spT a.aK z.2.2.1 (.i n) (tA z)]=_;rw[rr,hz];simp
  rintro ys rfl;rw[dN,rV];have e:(subs (.t [.s "case",.s x,.t (arms.map tA)])).map (λp=>spT a.aK p.1 (.i n) p.2)=arms.map λz=>spT a.aK z.2.2.1 (.i n) (tA z):=by show((arms.map tA).map λx=>Prod.mk (Rc x) x).map _=_;rw[wH,wH];rfl
  rw[e]at hq;exact hq
theorem oX(T:Txt K mg a):aP P w K mg base CX0 4 a.ux a.GD [W1] (spQ K (Pa a.aK)):=by
 refine T.qw.F.okQ ox (λ_ _ _ _ _ _ hr=>?_);have hu:=bj hr;refine(_,_,((ag (az 1 ox.nd (aM ai))
(ag (az 2 ox.nd (aM (af (i4 U T.Ai (F7 T) (hr.mono bd) U T.Ag T.lG (ae (qv 0) (ae (ZB cO) (ae (ZB cO) aw)))) ai)))
(ag (oF PassesOwn.never (kM (qv 2))
(ag (KH (j:=3) ox.nd U (Or.inl U) (pv 2))
(ag (cG (i:=2) (pv 2) (sC U U T.nL U T.nK (ZB (aI (q9 T) hr T.ku (ae (bz T.c9 T.dR (qv 3)) (ae (ZB (bq T.bP (ae (qv 1) aw))) aw))))))
(aj (bh (i:=1) (pv 1) (XL (qv 3)))))))
(aj (fN (i:=1) (pv 1))))))),λts Q h=>?_)
 let(ks,hs,d,L,U,e1,e2,hP,hL,hq):=h;have ak:d.b.im=true:=by cases hP with|mk hk _=>exact hk.sh.im
 refine((by show(d.b.im&&(O&&(O&&O)))=O;rw[ak];rfl),U,?_);refine(λc q=>Ea6 λ(A W M:List Nod)(X ό:ϑ)(V:Sl)=>q=[.r d.b,.o (.l X),.o (.l ό),V]/\X=A.map (spN a.aK)/\ό=W.reverse.map (spN a.aK)/\bx ks hs A.length W M/\L=A++M/\c=M.length,(_,[],[d],L,_,_,_,U,U,?_,?_,U,U),?_)
 ·show [spT a.aK d.b .n .n]=[spT a.aK d.b d.ab d.am];rw[e1,e2]
 ·have:=bx.cons hP (.nil)
  rwa [pq]at this
 rintro c q ⟨A,W,M,X,ό,V,rfl,rfl,rfl,hM,g,rfl⟩;cases W with
 |nil =>
  cases hM;rw[pq]at g;subst g;exact hq
 |cons v W =>
  let(cs,M',hK,U,h2):=hM.pop;have hle:=h2.le;have aF:A.length+(M'.length+1)<=50000:=by rw[g,g5,tZ]at hL;exact hL
  rw[g5]at hle;have eY:(v::W).reverse.map (spN a.aK)=W.reverse.map (spN a.aK)++[spN a.aK v]:=by simp
  have ar:cs.map (spN a.aK)=(subs v.b).map λp=>spT a.aK p.1 (.i A.length) p.2:=by rw[<- hK.su,wH];refine ab1 λc hc=>?_;let(j,hj,U):=ro hc;have e:=(hK.ok j _ (fY hj)).1;show spT _ _ _ _=spT _ _ _ _;rw[show cs[j].ab=.i A.length from congrArg Nod.ab e]
  refine ay (λ_=>?_) (λz=>absurd (by rw[eY];simp) z);refine(λq'=>∃(A W M:List Nod)(X ό:ϑ)(V:Sl),q'=[.r d.b,.o (.l X),.o (.l ό),V]/\X=A.map (spN a.aK)/\ό=W.reverse.map (spN a.aK)/\bx ks hs A.length W M/\L=A++M/\M.length<M'.length+1,?_,?_)
  ·rintro q' ⟨A,W,M,X,ό,V,rfl,rfl,rfl,g1,g2,g3⟩;exact(M.length,g3,A,W,M,_,_,_,U,U,U,g1,g2,U)
  refine(_,_,eY,ma λt ht=>by let(z,_,U):=nR.mp ht;rfl,ad,?_);refine(U,ad,_,U,v.b,A.length,(by rw[dN]),hK.sh,hK.sh.im,?_);refine(ma λt ht=>by let(z,_,U):=nR.mp ht;rfl,?_);rw[<- ar];refine(?_,?_)
  ·have:W.length+cs.length<=1002000:=bd;simp only[dN,ae2];exact v5 (c8 this)
  refine(c8 (by rw[dN];omega),U,?_);exact(A++[v],cs++W,M',_,_,_,U,ba,ba,by rw[g5];exact h2,by simp[g],bd)
def en{α:Type}(f:α->Str)(g:α->L2.T)(x:α):Key×L2.T:=(.inr (f x),g x)
theorem oV{α:Type}{f:α->Str}{g:α->L2.T}:∀xs:List α,d9 (xs.map λx=>.t [.s (f x),g x])=Z (xs.map (en f g))
 |[]=>rfl|k::r=>by
  show(match(Z (.inr (f k))),d9 (r.map λx=>.t [.s (f x),g x])with|some k',Z r=>Z ((Prod.mk k' (g k))::r)|_,_=>Y)=_;rw[oV r];rfl
theorem BW{α:Type}{f:α->Str}{g:α->L2.T}{xs ys:List α}(h:((xs++ys).map f).Nodup):ck (xs.map (en f g)) (ys.map (en f g))=(xs++ys).map (en f g):=by
 rw[mu]at h;let(h1,h2,h3):=yf.mp h;rw[vI,mu]
 ·rw[wH];have:(ys.map ((λx=>x.1) ∘ en f g))=(ys.map f).map Sum.inr:=by rw[wH];rfl
  rw[this];exact ZO.mpr (h2.imp λK z=>K (Sum.inr.inj z))
 intro p hp q hq;let(x,hx,U):=nR.mp hp;let(y,P,U):=nR.mp hq;exact λz=>h3 _ (nR.mpr (y,P,U)) _ (nR.mpr (x,hx,U)) (Sum.inr.inj z)
theorem uF{α:Type}{f:α->Str}{g:α->L2.T}{xs:List α}(h:(xs.map f).Nodup):ck [] (xs.map (en f g))=xs.map (en f g):=BW (xs:=[]) h
theorem uo{α:Type}{f:α->Str}{g:α->L2.T}:∀{xs:List α}{x:α},(xs.map f).Nodup->x∈xs->cL (xs.map (en f g)) (.inr (f x))=Z (g x)
 |y::r,x,h,hx=>by
  have h':=wh.mp h;unfold cL;rw[AZ,Fs,show(en f g y).1=.inr (f y)from U,Aq];by_cases e:f y=f x
  ·rw[decide_eq_true e];obtain rfl|z:=lb.mp hx
   ·rfl
   exact absurd (nR.mpr (x,z,e.symm)) h'.1
  rw[decide_eq_false e];obtain rfl|z:=lb.mp hx
  ·exact absurd U e
  exact uo h'.2 z
theorem P9{α:Type}{f:α->Str}{g:α->L2.T}{xs:List α}{k:Str}(h:k ∉ xs.map f):cL (xs.map (en f g)) (.inr k)=none:=by
 unfold cL;rw[List.find?_eq_none.mpr]
 ·rfl
 intro p hp;let(x,hx,U):=nR.mp hp;rw[show(en f g x).1=.inr (f x)from U,Aq];exact λz=>h (nR.mpr (x,hx,of_decide_eq_true z))
abbrev enM:Mk1->Key×L2.T:=en (·.1) λm=>.t (m.2.map .s)
abbrev enP:Str×Str->Key×L2.T:=en (·.1) λp=>.s p.2
theorem Px(ms:List Mk1):d9 (ms.map tM)=Z (ms.map enM):=oV ms
theorem Aa(sc:Sc):d9 (sc.map tP)=Z (sc.map enP):=oV sc
theorem Aj{k:Str}(h:(sc.map (·.1)).Nodup)(hx:(x,k)∈sc):cL (sc.map enP) (.inr x)=Z (.s k):=uo h hx
theorem vU:∀{ks:ϕ}{i j:Nat}{k k':Kd}{m m':Mk1},(names ks).Nodup->ks[i]?=Z k->ks[j]?=Z k'->m∈k.2->m'∈k'.2->m.1=m'.1->i=j
 |x::r,0,0,_,_,_,_,_,_,_,_,_,_=>rfl|x::r,i+1,j+1,k,k',m,m',h,h1,h2,h3,h4,h5=>by
  exact congrArg (· + 1) (vU (yf.mp h).2.1 (h1:) (h2:) h3 h4 h5)
 |x::r,0,j+1,k,k',m,m',h,h1,h2,h3,h4,h5=>by
  cases h1;exact absurd h5 ((yf.mp h).2.2 _ (nR.mpr (m,h3,U)) _ (ZC.mpr (k',jk (h2:),nR.mpr (m',h4,U))))
 |x::r,i+1,0,k,k',m,m',h,h1,h2,h3,h4,h5=>by
  cases h2;exact absurd h5.symm ((yf.mp h).2.2 _ (nR.mpr (m',h4,U)) _ (ZC.mpr (k,jk (h1:),nR.mpr (m,h3,U))))
theorem BS(h:(names ks).Nodup){k:Kd}(hk:k∈ks):(k.2.map (·.1)).Nodup:=by
 induction ks with
 |nil=>cases hk
 |cons x r g =>
  let(h1,h2,_):=yf.mp h;obtain rfl|z:=lb.mp hk
  ·exact h1
  exact g h2 z
theorem Ga(h:(ks.map (·.1)).Nodup){k:Kd}(hk:k∈ks):ja ks k.1=k.2:=by let(i,hi,U):=ro hk;refine Gb (fY hi) U λj y z q e=>?_;have g:j<ks.length:=bd;rw[fY g]at q;cases q;have:=(ac1 (h₀:=(g:)) (h₁:=(hi:)) h).mp (e:);lia
inductive Pth(ks:ϕ)(hs:List Hd):Sc->List (Nat×L2.T×Nat)->Sc->Prop
 |nil{sc:Sc}:Pth ks hs sc [] sc|cons{sc sc' Wv:Sc}{n j:Nat}{b b' am:L2.T}{r:List (Nat×L2.T×Nat)}:Kid ks hs sc b j b' am sc'->Pth ks hs sc' r Wv->Pth ks hs sc ((n,b,j)::r) Wv
theorem Pth.snoc{g:Sc}{pa:List (Nat×L2.T×Nat)}{b b' am:L2.T}(h:Pth ks hs g pa sc)(hk:Kid ks hs sc b j b' am sc'):Pth ks hs g (pa++[(n,b,j)]) sc':=by induction h with|nil=>exact .cons hk .nil|cons h1 _ q=>exact .cons h1 (q hk)
theorem bx.all{R:Nod->Prop}(hk:∀n d j b am sc,R d->Kid ks hs d.sc d.b j b am sc->R (IF n d j b am sc)):∀(k:Nat){n:Nat}{ds M:List Nod},M.length=k->bx ks hs n ds M->(∀d∈ds,R d)->∀e∈M,R e:=by
 intro k;induction k with
 |zero =>
  intro n ds M hl h h0 e he;rw[uG.mp hl]at he;cases he
 |succ k g =>
  intro n ds M hl h h0 e he;cases ds with
  |nil=>cases h;simp at hl
  |cons V ds =>
   let(cs,L',P,U,h2):=h.pop;have hd:=h0 V j4;obtain rfl|he:=lb.mp he
   ·exact hd
   refine g (hl:) h2 (λc K=>?_) e he;obtain z|z:=lN.mp K
   ·let(j,q,U):=ro z;let(e1,Q):=P.ok j _ (fY q);rw[e1];exact hk _ _ _ _ _ _ hd Q
   exact h0 c (j6 _ z)
theorem Kid.nd{b b' am:L2.T}(h:Kid ks hs sc b j b' am sc')(hn:(sc.map (·.1)).Nodup):(sc'.map (·.1)).Nodup:=by
 have one:∀{x k:Str},x ∉ sc.map (·.1)->((sc++[Prod.mk x k]).map (·.1)).Nodup:=λ{x k} hx=>by
  rw[mu];exact yf.mpr (hn,ba,λy q z g e=>hx (by rw[AZ,List.map_nil,fy]at g;subst g;rw[<- e];exact q))
 cases h with|bJ=>exact hn|name _ hx=>exact one hx|make _ _ hx=>exact one hx|call _ hx=>exact one hx|case _ _ _ _ _ hl K =>rw[mu,aa0 bd];exact K
theorem Kid.ext{b b' am:L2.T}(h:Kid ks hs sc b j b' am sc'):sc'=sc++sc'.drop sc.length:=by cases h <;> simp
theorem Kid.dep{b b' am:L2.T}(h:Kid ks hs sc b j b' am sc')(hd:Dep (N+1) b):Dep N b':=by
 have sub:∀{M:Nat}{xs:ϑ}{x:L2.T},Dep M (.t xs)->x∈xs->Dep (M-1) x:=λ{M xs x} h hx=>by
  cases M with
  |zero=>obtain⟨_,z⟩|⟨_,z⟩:=h <;> cases z
  |succ M =>
   obtain⟨_,z⟩|⟨_,z⟩|⟨_,z,h⟩:=h
   ·cases z
   ·cases z
   cases z;exact h _ hx
 cases h with|bJ=>exact sub hd ba|name=>exact sub hd ba|make=>exact sub hd ba|call=>exact sub hd ba|@case _ _ arms _ ar _ _ _ _ g =>have h1:=sub hd (x:=.t (arms.map tA)) ba;have h2:=sub h1 (nR.mpr (ar,jk g,U));have h3:=sub h2 (x:=ar.2.2.1) ba;exact h3.mono bd
def iN(z:Nat):L2.T:=.i (z:Int)
theorem yB(T:Txt K mg a):aP P w K mg base CX0 5 a.pF a.Cq [W1] (spQ K Li):=by
 refine T.w6.F.okQ HJ (λ_ _ _ _ _ _ hr=>?_);have hu:=bj hr;refine(_,_,((aj (aC (cu U (l5 (ZB (aI (oX T) hr T.qw (ae (qv 0) aw)))) (N':=["spot"]) (.own U .nil) (cg (g:=(Tg.nm 0)) (λ_ _ _ _ _=>((dh 0),(XL (bz T.c9 T.dR (qv 0)))))))))),λts Q h=>?_);let(ks,hs,d,L,U,e1,e2,hP,hL,hq):=h;have q:=(show bx ks hs 0 [d] L by have:=bx.cons hP (.nil);rwa [pq]at this).ims;refine(ks,hs,d,L,U,e1,e2,hP,hL,c8 (by rw[dN];omega),λi ys=>ys=(L.take i).map (·.b),U,?_,?_)
 ·rintro i y ys hy rfl;rw[fZ]at hy;let(z,V,U):=gV.mp hy;refine(_,U,U,ad,_,U,q z (jk V),?_);show _++[z.b]=_;rw[rr,V];simp
 rintro ys rfl;rw[dN,rV];exact hq
inductive WW(ts:ϑ)(Q:ϔ):Prop
 |mk(ks:ϕ)(hs:List Hd)(d:Nod)(L:List Nod)(n:Nat)(e:Nod)(h1:ts=[d.b,iN n])(h2:d.ab=.n)(h3:d.am=.n)(h4:d.pa=[])(h5:Pre ks hs 0 d L)(h6:L.length<=50000)(h7:L[n]?=Z e)(h8:Q (.l ((e.pa.map (·.1)++[n]).map iN)))
theorem UR(T:Txt K mg a):aP P w K mg base CX0 5 a.Gv a.SE [W1,"n"] (spQ K WW):=by
 refine T.SU.F.okQ DE (λ_ _ _ _ _ _ hr=>?_);have hu:=bj hr;refine(_,_,((ag (az 2 DE.nd (aI (oX T) hr T.qw (ae (qv 0) aw)))
(ag (az 3 DE.nd (aM (af (XL (qv 1)) ai)))
(ag (oF PassesOwn.never (bD uk oo (bW _) (bz T.c9 T.cV (ao (qv 2) (ao (qv 3) (ZB (du ah))))) (ZB cO))
(aj (bh (i:=3) (pv 3) (XL (bz T.c9 T.cV (ao (qv 2) (ao (qv 3) (ZB (du ah)))))))))
(aj (aC (sC U U T.nL U T.nK (qv 3)))))))),λts Q h=>?_)
 let(ks,hs,d,L,n,e,U,e1,e2,e3,hP,hL,he,hq):=h;have a3:bx ks hs 0 [d] L:=by have:=bx.cons hP (.nil);rwa [pq]at this
 have a4:=(gs.mp he).1;refine(ks,hs,d,L,U,e1,e2,hP,hL,U,?_);refine(λc q=>Ea3 λ(X:ϑ)(A:List Nat)(g:Nod)=>q=[.r d.b,.r (iN n),.o (.l (L.map (spN a.aK))),.o (.l X)]/\X=(A++[c]).map iN/\L[c]?=Z g/\e.pa.map (·.1)++[n]=g.pa.map (·.1)++c::A.reverse/\A.length+c<=n,(_,_,[],e,U,U,he,U,ba),?_);rintro c q ⟨X,A,g,rfl,rfl,V,hp,hA⟩;have aF:atI ((A++[c]).map iN) (-1)=Z (iN c):=by rw[mu];exact M5 _ _
 have ar:atI (L.map (spN a.aK)) (c:Int)=Z (spN a.aK g):=bu (by rw[fZ,V];rfl);refine(_,aF,_,ar,U,ad,_,U,?_);obtain⟨j,hj,_⟩|⟨p,z,cs,j,aW,a0,hK,hc⟩:=a3.from _ rfl c g V
 ·have:g=d:=by
   cases j with
   |zero=>cases hj;rfl
   |succ j=>simp at hj
  subst this;rw[e1];refine(aY (λ_=>rfl) _,?_);rw[e3,List.map_nil,List.nil_append]at hp;rw[hp]at hq;rw[<- List.map_reverse,List.reverse_append];exact hq
 rw[RC]at hK;have ak:=(hK.ok j _ hc).1;have e4:g.ab=iN p:=congrArg Nod.ab ak;have e5:g.pa=z.pa++[(p,z.b,j)]:=congrArg Nod.pa ak;rw[e4];refine(λq'=>∃(X:ϑ)(A:List Nat)(m:Nat)(g:Nod),q'=[.r d.b,.r (iN n),.o (.l (L.map (spN a.aK))),.o (.l X)]/\X=(A++[m]).map iN/\L[m]?=Z g/\e.pa.map (·.1)++[n]=g.pa.map (·.1)++m::A.reverse/\A.length+m<=n/\m<c,?_,?_)
 ·rintro q' ⟨X,A,m,g,rfl,rfl,g1,g2,g3,g4⟩;exact(m,g4,_,A,g,U,U,g1,g2,g3)
 refine(c8 (by simp;omega),_,aF,_,ar,U,ad,_,U,?_,?_)
 ·rw[e4];rfl
 rw[e4];exact(_,A++[c],p,z,U,ba,a0,by rw[hp,e5];simp,by rw[g5];simp;omega,aW)
inductive Bz(ts:ϑ)(Q:ϔ):Prop
 |mk(fs:ϖ)(j:Nat)(f:Fn)(h1:ts=[.t (fs.map tF),.s f.1.1])(h2:(fs.map (·.1.1)).Nodup)(h3:(∀f∈fs,f.2.1.im=O))(h4:fs.length<=8)(h5:fs[j]?=Z f)(h6:Q (.i (j:Int)))
theorem BR{α β:Type}{f:α->β}{xs:List α}(h:(xs.map f).Nodup){i:Nat}{x y:α}(hx:xs[i]?=Z x)(g:xs[j]?=Z y)(e:f x=f y):i=j:=by have hi:=(gs.mp hx).1;exact(List.getElem?_inj (hi:) h).mp (by rw[fZ,fZ,hx,g];exact congrArg Z e)
theorem EE{fs:ϖ}(h:∀f∈fs,f.2.1.im=O):Ϙ (fs.map tF)=true:=ma λt g=>by
 let(f,hf,U):=nR.mp g;show(O&&(Ϙ (f.1.2.1.map tP)&&(O&&(f.2.1.im&&O))))=O;rw[aY fh,h f hf];rfl
theorem fc(T:Txt K mg a):aP P w K mg base CX0 1 a.hJ a.sL ["functions","name"] (spQ K Bz):=by
 refine T.eU.F.okQ jw (λ_ _ _ _ _ _ hr=>?_);have hu:=bj hr;refine(_,_,((ag (bH (g:=(Tg.tp [2,3])) PassesOwn.never U (ud U T.bQ bv (ae (qv 0) aw)) (eV (br 2 jw.nd) (br 3 jw.nd))
(aj (aS (bf hu (ao (qv 3) ah) (qv 1))
(aj (aC (XL (qv 2))))
aA)))
(aj (aC cO)))),λts Q h=>?_)
 let(fs,j,f,U,hn,aF,h8,hf,hq):=h;refine(EE aF,λi q=>(∃o2 o3,q=[.r (.t (fs.map tF)),.r (.s f.1.1),o2,o3])/\i<=j,((_,_,U),AY _),?_,?_)
 ·rintro i x q hx ⟨⟨o2,o3,rfl⟩,ak⟩;let(y,hy,U):=cT hx;rw[fZ]at hy;let(f',ar,U):=gV.mp hy;refine(_,U,_,U,U,ay (λg=>?_) λg=>((_,_,U),?_))
  ·have:=BR hn ar hf (V.str.inj (of_decide_eq_true g));subst this;exact(U,hq)
  obtain z|rfl:=Nat.lt_or_eq_of_le ak
  ·exact z
  rw[hf]at ar;cases ar;exact absurd (decide_eq_true U) g
 rintro q ⟨_,ak⟩;rw[bC,dN]at ak;have:=(gs.mp hf).1;omega
inductive Ll(ts:ϑ)(Q:ϔ):Prop
 |mk(ks:ϕ)(kd:Kd)(m:Mk1)(h1:ts=[tKs ks,.s m.1])(h2:cJ ks)(h3:kd∈ks)(h4:m∈kd.2)(h5:Q (.s kd.1))
theorem i9(T:Txt K mg a):aP P w K mg base CX0 1 a.dZ a.kl ["kinds","maker"] (spQ K Ll):=by
 refine T.gj.F.okQ fF (λ_ _ _ _ _ _ hr=>?_);refine(_,_,((ag (bH (g:=(Tg.tp [2,3])) PassesOwn.never U (iI (XL (qv 0))) (eV (br 2 fF.nd) (br 3 fF.nd))
(aj (aS (bD (jH U) gH U (qv 1) (ZB (cu U (gg (qv 3)) (N':=["one"]) (.own U .nil) (cg (g:=(Tg.nm 0)) (λ_ _ _ _ _=>((dh 0),(XL (ao (qv 0) ah))))))))
(aj (aC (XL (qv 2))))
aA)))
(aj (aC cO)))),λts Q h=>?_)
 let(ks,kd,m,U,gk,aK,hm,hq):=h;let(j,hj,aW):=ro aK;have ak:ks[j]?=Z kd:=by rw[fY hj,aW]
 refine(rG ks,λi q=>(∃o2 o3,q=[.r (tKs ks),.r (.s m.1),o2,o3])/\i<=j,((_,_,U),AY _),?_,?_)
 ·rintro i x q hx ⟨⟨o2,o3,rfl⟩,ar⟩;rw[fZ]at hx;let(k',V,U):=gV.mp hx;refine(_,U,aG (by rw[dN];have:=(gk.ne k' (jk V)).2;lia),λi ys=>ys=((k'.2.take i).map (·.1)).map .s,U,?_,?_)
  ·rintro i' y ys hy rfl;rw[fZ]at hy;let(z,hz,U):=gV.mp hy;refine(_,U,_,U,U,?_);rw[rr,hz];simp
  rintro ys rfl;rw[dN,rV];have a0:inT (ϙ m.1) ((k'.2.map (·.1)).map ϙ)=O ↔ i=j:=by
   rw[bY,fg];constructor
   ·intro g;let(m',aF,em):=nR.mp g;exact vU gk.mn V ak aF hm em
   rintro rfl;rw[ak]at V;cases V;exact nR.mpr (m,hm,U)
  refine(by rw[bw];rfl,ay (λg=>?_) λg=>?_)
  ·have e:=a0.mp g;subst e;rw[ak]at V;cases V;exact(U,hq)
  exact((_,_,U),bd)
 rintro q ⟨_,ar⟩;rw[dN]at ar;lia
inductive HX(ts:ϑ)(Q:ϔ):Prop
 |mk(ks:ϕ)(fs:ϖ)(sc sc':Sc)(b b' am:L2.T)(j:Nat)(kt:L2.T)(h1:ts=[.t [tKs ks,.t (fs.map tF)],b,am,kt])(h2:kt.dof=Z (sc.map enP))(h3:Prog ks fs)(h4:Kid ks (fs.map (·.1)) sc b j b' am sc')(h5:(sc.map (·.1)).Nodup)(h6:(∀p∈sc,p.2∈ks.map (·.1)))(h7:Q (.l ((sc'.drop sc.length).map tP)))
theorem sF(T:Txt K mg a):aP P w K mg base CX0 2 a.jS a.wk ["program",We,"arm","kinds"] (spQ K HX):=by
 refine T.nX.F.okQ kH (λ_ _ _ _ _ _ hr=>?_);have hu:=bj hr;refine(_,_,((ag (az 4 kH.nd (XL (ao (qv 1) ah)))
(ag (aS (bf hu (qv 4) (ZB aE))
(aj (aC (aM (af (aq (af (XL (ao (qv 1) ah)) (af (aI (i9 T) hr T.gj (ae (ao (qv 0) ah) (ae (ao (qv 1) ah) aw))) ai))) ai))))
aA)
(ag (aS (bf hu (qv 4) (ZB aE))
(aj (aC (aM (af (aq (af (XL (ao (qv 1) ah)) (af (XL (ao (ao (ao (qv 0) ah) (ZB (aI (fc T) hr T.eU (ae (ao (qv 0) ah) (ae (ao (qv 1) ah) aw))))) ah)) ai))) ai))))
aA)
(ag (aS (bf hu (qv 4) (ZB aE))
(aj (aC (aM (af (aq (af (XL (ao (qv 1) ah)) (af (XL (gw (qv 3) (ao (qv 1) ah))) ai))) ai))))
aA)
(ag (aS (bf hu (qv 4) (ZB aE))
(ag (az 5 kH.nd (aU (dF U) fE be T.iP bv (ae (ZB (aI (oZ T) hr T.lR (ae (ao (qv 0) ah) (ae (gw (qv 3) (ao (qv 1) ah)) aw)))) aw)))
(aj (aC (DR U U T.nL U T.SH (ae (ao (qv 2) ah) (ae (gw (qv 5) (ao (qv 2) ah)) aw))))))
aA)
(aj (aC (aM ai))))))))),λts Q h=>?_)
 let(ks,fs,sc,sc',b,b',am,j,kt,U,ak,q,hK,V,a3,hq):=h;cases hK with
 |@bJ w c b hw =>
  have n1:¬ decide ((ϙ w).v=(ϙ "make").v)=true:=by obtain rfl|rfl:=hw <;> decide +kernel
  have n2:¬ decide ((ϙ w).v=(ϙ "call").v)=true:=by obtain rfl|rfl:=hw <;> decide +kernel
  have n3:¬ decide ((ϙ w).v=(ϙ "name").v)=true:=by obtain rfl|rfl:=hw <;> decide +kernel
  have n4:¬ decide ((ϙ w).v=(ϙ "case").v)=true:=by obtain rfl|rfl:=hw <;> decide +kernel
  refine(_,U,U,U,ay (λz=>absurd z n1) λ_=>(U,ay (λz=>absurd z n2) λ_=>(U,ay (λz=>absurd z n3) λ_=>(U,ay (λz=>absurd z n4) λ_=>?_))));rw[aa1]at hq;exact hq
 |name hy hx =>refine(_,U,U,U,aa ((U,aa ((U,ay (λ_=>?_) λz=>absurd bn z)))));rw[ZS]at hq;refine(_,U,U,_,U,?_);simp only[sD,ak];exact(_,Aj V hy,U,hq)|make g hm hx =>refine(_,U,U,U,ay (λ_=>?_) λz=>absurd bn z);rw[ZS]at hq;exact(_,U,U,_,U,_,U,ks,_,_,U,q.gk,g,hm,hq)|call hh hx =>
  refine(_,U,U,U,aa ((U,ay (λ_=>?_) λz=>absurd bn z)));rw[ZS]at hq;let(f,hf,U):=nR.mp hh;let(i,hi,a0):=ro hf;have aF:fs[i]?=Z f:=by rw[fY hi,a0]
  refine(_,U,U,_,U,_,U,_,U,fs,i,f,U,q.hn,λf hf=>(q.sn f hf).1.im,q.l8,aF,?_);exact(_,bu (v:=tF f) (by rw[fZ,aF];rfl),_,U,U,hq)
 |@case x kd arms _ ar m hx g aK ha hm hl hN =>
  refine(_,U,U,U,aa ((U,aa ((U,aa ((U,ay (λ_=>?_) λz=>absurd bn z)))))));rw[ZS]at hq;refine(_,U,_,U,?_);simp only[sD,ak];refine(_,Aj V hx,ks,kd.1,U,?_);rw[Ga q.gk.nd g];refine(aY Gk _,_,Px kd.2,?_);rw[uF (BS q.gk.mn g)];have em:ar.1=m.1:=by have:=congrArg (·[j]?) aK;simp only[fZ,ha,hm]at this;exact Option.some.inj this
  have aW:cL (kd.2.map enM) (.inr ar.1)=Z (.t (m.2.map .s)):=by rw[em];exact uo (BS q.gk.mn g) (jk hm)
  refine(_,U,_,U,_,aW,aL _,aL _,?_);have ez:sY (ar.2.1.map ϙ) (m.2.map ϙ)=(ar.2.1.zip m.2).map tP:=by unfold sY;rw[List.zip_map,wH];rfl
  rw[ez];exact hq
theorem Kid.sk{b b' am:L2.T}(gk:cJ ks)(K:∀h∈hs,h.2.2∈ks.map (·.1))(h:Kid ks hs sc b j b' am sc')(hn:∀p∈sc,p.2∈ks.map (·.1)):∀p∈sc',p.2∈ks.map (·.1):=by
 have one:∀{x k:Str},k∈ks.map (·.1)->∀p∈sc++[(x,k)],p.2∈ks.map (·.1):=λ{x k} hk p hp=>by
  obtain z|z:=lN.mp hp
  ·exact hn p z
  rw[fy.mp z];exact hk
 cases h with
 |bJ=>exact hn|name q hx=>exact one (hn _ q)|make g _ hx=>exact one (nR.mpr (_,g,U))|call h1 hx=>exact one (K _ h1)|@case _ kd _ _ _ m _ g _ _ hm hl P =>
  intro p hp;obtain z|z:=lN.mp hp
  ·exact hn p z
  exact(gk.fl kd g m (jk hm)).2 _ (Zm z).2
def rtN(f:Fn):Nod:=(f.2.1,.n,.n,[],f.1.2.1)
structure Good(ks:ϕ)(fs:ϖ)(f:Fn)(e:Nod):Prop where
 nd:(e.sc.map (·.1)).Nodup
 sk:∀p∈e.sc,p.2∈ks.map (·.1)
 pt:Pth ks (fs.map (·.1)) f.1.2.1 e.pa e.sc
 dp:∃N,N+e.pa.length=92/\Dep N e.b
 sl:e.sc.length<=4+4*e.pa.length
 pi:∀s∈e.pa,s.2.1.im=O
variable{e:Nod}
theorem Good.d92{fs:ϖ}{f:Fn}(g:Good ks fs f e):Dep 92 e.b:=by let(N,h,d):=g.dp;exact d.mono bd
theorem Good.lim{fs:ϖ}{f:Fn}(g:Good ks fs f e):e.sc.length<=372:=by let(N,h,d):=g.dp;have:=g.sl;lia
theorem Kid.len{b b' am:L2.T}(gk:cJ ks)(h:Kid ks hs sc b j b' am sc'):sc'.length<=sc.length+4:=by cases h with|bJ=>lia|name=>simp|make=>simp|call=>simp|@case _ kd _ _ _ m _ g _ _ hm hl q =>have:=(gk.fl kd g m (jk hm)).1;rw[g5,Zt];lia
theorem Kid.tup{b b' am:L2.T}(h:Kid ks hs sc b j b' am sc'):¬ Dep 0 b:=by rintro(⟨_,z⟩|⟨_,z⟩) <;> cases h <;> cases z
theorem ET:∀{N:Nat}{t:L2.T},Dep N t->t.im=O
 | 0,_,h=>by obtain⟨_,rfl⟩|⟨_,rfl⟩:=h <;> rfl
 |N+1,_,h=>by
  obtain⟨_,rfl⟩|⟨_,rfl⟩|⟨ts,rfl,h⟩:=h
  ·rfl
  ·rfl
  exact ma λt g=>ET (h t g)
theorem yG{fs:ϖ}{f:Fn}(q:Prog ks fs)(hf:f∈fs)(hL:bx ks (fs.map (·.1)) 0 [rtN f] L):∀e∈L,Good ks fs f e:=by
 let(p1,p2,p3,p4):=q.pk f hf;refine hL.all (R:=Good ks fs f) (λn d j b am sc g hk=>(hk.nd g.nd,hk.sk q.gk (λh Q=>?_) g.sk,g.pt.snoc hk,?_,?_,λs hs=>?_)) _ U λd hd=>?_
 ·let(V,P,U):=nR.mp Q;exact(q.pk V P).2.2.2
 ·let(N,hN,K):=g.dp;cases N with|zero=>exact absurd K hk.tup|succ N=>exact(N,by show N+(d.pa++[_]).length=92;simp;lia,hk.dep K)
 ·have:=hk.len q.gk;have:=g.sl;show sc.length<=4+4*(d.pa++[_]).length;simp;lia
 ·obtain z|z:=lN.mp hs
  ·exact g.pi s z
  rw[fy.mp z];let(N,_,K):=g.dp;exact ET K
 rw[fy.mp hd];exact(p3,p2,.nil,(92,U,q.dp f hf),p1,nofun)
theorem pA:∀sc:Sc,Ϝ (sc.map enP)=O
 |[]=>rfl|p::r=>by show(O&&Ϝ (r.map enP))=O;rw[pA r];rfl
def tPr(ks:ϕ)(fs:ϖ):L2.T:=.t [tKs ks,.t (fs.map tF)]
inductive Ph(ts:ϑ)(Q:ϔ):Prop
 |mk (ks:ϕ) (fs:ϖ) (i:Nat) (f:Fn) (L:List Nod) (h1:ts=[tPr ks fs,iN i]) (h2:Prog ks fs) (h3:fs[i]?=Z f) (h4:Pre ks (fs.map (·.1)) 0 (rtN f) L) (h5:L.length<=50000) (h6:∀X:ϑ,X.map ϝ=L.map (λe=>Z (e.sc.map enP))->Q (.l X))
theorem vC(T:Txt K mg a):aP P w K mg base CX0 5 a.fU a.mO ["program","f"] (spQ K Ph):=by
 refine T.m5.F.okQ dq (λ_ _ _ _ _ _ hr=>?_);have hu:=bj hr;refine(_,_,((ag (az 2 dq.nd (aM ai))
(ag (az 3 dq.nd (aI (oX T) hr T.qw (ae (ao (ao (ao (qv 0) ah) (qv 1)) ah) aw)))
(ag (bH (g:=(Tg.nm 4)) PassesOwn.never U (OO (i:=3) (pv 3)) (br 4 dq.nd)
(aj (aS (bD vx oq (bW _) (bz T.c9 T.cV (qv 4)) (ZB cO))
(aj (bh (i:=2) (pv 2) (zS (aU (dF U) fE be T.iP bv (ae (ao (ao (ao (qv 0) ah) (qv 1)) ah) aw)))))
(ag (az 5 dq.nd (aU fA gu be T.iP bv (ae (ao (qv 2) (bz T.c9 T.cV (qv 4))) aw)))
(ag (TY (i:=5) U (pv 5) (aI (sF T) hr T.nX (ae (qv 0) (ae (bz T.c9 T.dR (ao (qv 3) (bz T.c9 T.cV (qv 4)))) (ae (bz T.c9 T.kU (qv 4)) (ae (qv 5) aw))))))
(aj (zO (i:=5) (bh (i:=2) (pv 2) (XL (qv 5))))))))))
(aj (fN (i:=2) (pv 2))))))),λts Q h=>?_)
 let(ks,fs,i,f,L,U,hP,hf,hR,hL,hq):=h;have aW:bx ks (fs.map (·.1)) 0 [rtN f] L:=by have:=bx.cons hR (.nil);rwa [pq]at this
 have ar:=jk hf;have G:=yG hP ar aW;have ef:atI (fs.map tF) (i:Int)=Z (tF f):=bu (by rw[fZ,hf];rfl);refine(_,U,_,ef,_,U,ks,fs.map (·.1),rtN f,L,U,U,U,hR,hL,?_);refine(λc q=>Ea3 λ(X:ϑ)(o4 o5:Sl)=>q=[.r (tPr ks fs),.r (iN i),.o (.l X),.r (.l (L.map (spN a.aK))),o4,o5]/\X.map ϝ=(L.take c).map λe=>Z (e.sc.map enP),(_,_,_,U,U),?_,?_)
 ·rintro c y q hy ⟨X,o4,o5,rfl,hX⟩;rw[fZ]at hy;let(e,he,U):=gV.mp hy;have bc:=(gs.mp he).1;have bA:X.length=c:=by have:=congrArg CP hX;rw[dN,dN,tX]at this;lia
  have aF:X.length<lK:=c8 bd;have fin:∀t:L2.T,t.dof=Z (e.sc.map enP)->(X++[t]).map ϝ=(L.take (c+1)).map λe=>Z (e.sc.map enP):=λt ht=>by
   rw[mu,hX,rr,he];simp[ht]
  refine(_,U,U,ad,_,U,?_);obtain⟨j,hj,_⟩|⟨p,V,cs,j,a4,ak,hK,hc⟩:=aW.from _ rfl c e he
  ·have:e=rtN f:=by
    cases j with
    |zero=>cases hj;rfl
    |succ j=>simp at hj
   subst this;refine(aF,_,U,_,ef,_,U,aY fh _,_,Aa _,?_);rw[uF (hP.pk f ar).2.2.1];exact(pA _,λo vs=>(_,_,_,U,fin _ U))
  rw[RC]at hK;let(a9,iK):=hK.ok j _ hc;let(eb,a6,a5,bG,z):=e;obtain rfl:a6=iN p:=congrArg Nod.ab a9;have g':=G V (jk ak);obtain⟨t,a3,a0⟩:∃t,X[p]?=Z t/\t.dof=Z (V.sc.map enP):=by have:=congrArg (·[p]?) hX;simp only[fZ,ac0 a4,ak]at this;exact gV.mp this
  have a1:atI X (p:Int)=Z t:=bu a3;have a2:atI (L.map (spN a.aK)) (p:Int)=Z (spN a.aK V):=bu (by rw[fZ,ak];rfl);have em:ck (V.sc.map enP) ((z.drop V.sc.length).map enP)=z.map enP:=by have ex:=iK.ext;have nn:=iK.nd g'.nd;rw[ex]at nn;rw[BW nn,<- ex]
  refine(U,ad,_,U,_,a1,?_);simp only[cH,qV,a0];refine(pA _,?_);refine(U,ad,_,U,_,a2,U,ad,_,U,U,ad,_,U,ks,fs,V.sc,z,V.b,eb,a5,j,_,U,U,hP,iK,g'.nd,g'.sk,?_);refine(pA _,aY fh _,_,Aa _,?_,?_)
  ·have:=g'.lim;have:z.length<=V.sc.length+4:=iK.len hP.gk;simp only[dN,Ry];exact v5 (c8 bd)
  rw[em];exact(pA _,λo vs=>(aF,U,_,_,_,U,fin _ U))
 rintro q ⟨X,o4,o5,rfl,hX⟩;rw[dN,rV]at hX;exact hq X hX
def mkE(r:Str):Key×L2.T:=(.inr r,.b O)
theorem um{rs:Γ}{s:Str}:(cL (rs.map mkE) (.inr s)).isSome=decide (s∈rs):=by
 unfold cL;rw[ZN,List.find?_map];rw[ZN,ZZ,List.find?_isSome];constructor
 ·rintro⟨x,hx,e⟩;have e:=of_decide_eq_true e;exact decide_eq_true (Sum.inr.inj e▸hx)
 intro h;exact(s,of_decide_eq_true h,decide_eq_true U)
theorem Ur{rs:Γ}{s:Str}(h:s ∉ rs):mv (rs.map mkE) (.inr s) (.b O)=(rs++[s]).map mkE:=by
 unfold mv;rw[if_neg]
 ·simp[mkE]
 rw[ZF,Tf];rintro⟨x,hx,e⟩;have e:=of_decide_eq_true e;exact h (Sum.inr.inj e▸hx)
theorem Mi:∀rs:Γ,Ϝ (rs.map mkE)=O
 |[]=>rfl|p::r=>by show(O&&Ϝ (r.map mkE))=O;rw[Mi r];rfl
theorem uq{α β:Type}{f:α->List β}{n:Nat}:∀xs:List α,(∀x∈xs,(f x).length<=n)->(xs.flatMap f).length<=n*xs.length
 |[],_=>by simp|x::r,h=>by
  have h1:=h x j4;have h2:=uq r λy g=>h y (j6 _ g);rw[List.flatMap_cons,g5,tZ,Nat.mul_succ];lia
theorem cJ.nM{ks:ϕ}(g:cJ ks):(nM ks).length<=144:=by
 have h:=uq (f:=λk=>k.2.flatMap (·.2)) (n:=24) ks λk hk=>by
  have h1:=uq (f:=λm=>m.2) k.2 λm hm=>(g.fl k hk m hm).1;have h2:=(g.ne k hk).2;lia
 have h2:=g.k2;unfold L2.nM;lia
inductive HV(ts:ϑ)(Q:ϔ):Prop
 |mk(ks:ϕ)(k:Str)(h1:ts=[tKs ks,.s k])(h2:cJ ks)(h3:∀rs:Γ,(∀s,s∈rs ↔ Reach ks k s)->Q (.d (rs.map mkE)))
theorem rg(T:Txt K mg a):aP P w K mg base CX0 2 a.dY a.kj ["kinds","kind"] (spQ K HV):=by
 refine T.ky.F.okQ b9 (λ_ _ _ _ _ _ hr=>?_);have hu:=bj hr;refine(_,_,((ag (az 2 b9.nd (Bu (qv 1) (ZB yx)))
(ag (az 3 b9.nd (aM (af (XL (qv 1)) ai)))
(ag (oF PassesOwn.never (kM (qv 3))
(ag (KH (j:=4) b9.nd U (Or.inl U) (pv 3))
(aj (bH (g:=(Tg.nm 5)) PassesOwn.never U (iI (aI (oZ T) hr T.lR (ae (qv 0) (ae (qv 4) aw)))) (br 5 b9.nd)
(aj (bH (g:=(Tg.nm 6)) PassesOwn.never U (iI (XL (ao (qv 5) ah))) (br 6 b9.nd)
(aj (aS (bD (yA hu) uS U (qv 6) (qv 2))
(ag (zN (i:=2) hu (pv 2) (qv 6) (ZB yx))
(aj (bh (i:=3) (pv 3) (XL (qv 6)))))
aA))))))))
(aj (fN (i:=2) (pv 2))))))),λts Q h=>?_)
 let(ks,k,U,gk,hq):=h;have aF:=gk.nM;refine(U,U,λc q=>Ea7 λ(rs W:Γ)(D:List (Key×L2.T))(X:ϑ)(o4 o5 V:Sl)=>q=[.r (tKs ks),.r (.s k),.o (.d D),.o (.l X),o4,o5,V]/\D=rs.map mkE/\X=W.map .s/\RWt ks k rs W/\c=2*un (nM ks) rs+W.length,(_,[k],[k],_,_,_,_,_,U,U,U,.start,U),?_);rintro c q ⟨rs,W,D,X,o4,o5,V,rfl,rfl,rfl,R,rfl⟩;obtain rfl |⟨W,here,rfl⟩:=ad6 W
 ·exact hq rs λs=>R.all
 rw[List.concat_eq_append]at *;have R0:=R.pop;generalize hc:2*un (nM ks) rs+(W++[here]).length=c at R0 ⊢;refine ay (λ_=>?_) (λz=>absurd ba z);refine(λq'=>∃(rs W:Γ)(D:List (Key×L2.T))(X:ϑ)(o4 o5 V:Sl),q'=[.r (tKs ks),.r (.s k),.o (.d D),.o (.l X),o4,o5,V]/\D=rs.map mkE/\X=W.map .s/\RWt ks k rs W/\2*un (nM ks) rs+W.length<c,?_,?_)
 ·rintro q' ⟨rs,W,D,X,o4,o5,V,rfl,rfl,rfl,g1,g2⟩;exact(_,g2,rs,W,_,_,_,_,_,U,U,U,g1,U)
 refine(W.map .s,.s here,ba,aL _,ad,ks,here,U,?_);refine(λi q=>Ea7 λ(rs W:Γ)(D:List (Key×L2.T))(X:ϑ)(o4 o5 V:Sl)=>q=[.r (tKs ks),.r (.s k),.o (.d D),.o (.l X),o4,o5,V]/\D=rs.map mkE/\X=W.map .s/\RS ks k here (((ja ks here).take i).flatMap (·.2)) rs W c,(rs,W,_,_,_,_,_,U,U,U,R0),?_,?_)
 ·rintro i y q hy ⟨rs,W,D,X,o4,o5,V,rfl,rfl,rfl,R1⟩;rw[fZ]at hy;let(m,hm,U):=gV.mp hy;refine(_,U,_,U,aL _,λj q=>Ea7 λ(rs W:Γ)(D:List (Key×L2.T))(X:ϑ)(o4 o5 V:Sl)=>q=[.r (tKs ks),.r (.s k),.o (.d D),.o (.l X),o4,o5,V]/\D=rs.map mkE/\X=W.map .s/\RS ks k here (((ja ks here).take i).flatMap (·.2)++m.2.take j) rs W c,(rs,W,_,_,_,_,_,U,U,U,by rw[List.take_zero,pq];exact R1),?_,?_)
  ·rintro j y q hy ⟨rs,W,D,X,o4,o5,V,rfl,rfl,rfl,R2⟩;rw[fZ]at hy;let(f,hf,U):=gV.mp hy;have ak:f∈Aw ks here:=ZC.mpr (m,jk hm,jk hf);have et:((ja ks here).take i).flatMap (·.2)++m.2.take (j+1)=(((ja ks here).take i).flatMap (·.2)++m.2.take j)++[f]:=by rw[rr,hf,wI];rfl
   have hsz:=R2.sz;have ar:=R2.sw;refine(_,U,ay (λg=>?_) λg=>?_)
   ·rw[um]at g;have hn:f ∉ rs:=λz=>by rw[decide_eq_true z]at g;cases g
    refine(aG (by rw[dN];lia),Mi _,U,?_);rw[Ur hn];refine(aG (by rw[dN];lia),U,?_);exact(rs++[f],W++[f],_,_,_,_,_,U,U,ba,by rw[et];exact R2.new hn ak)
   rw[um]at g;have hn:f∈rs:=by
    by_cases z:f∈rs
    ·exact z
    rw[decide_eq_false z]at g;exact absurd U g
   exact(rs,W,_,_,_,_,_,U,U,U,by rw[et];exact R2.old hn)
  rintro q ⟨rs,W,D,X,o4,o5,V,rfl,rfl,rfl,R2⟩;rw[dN,rV]at R2;exact(rs,W,_,_,_,_,_,U,U,U,by rw[<- qH (f:=λm:Mk1=>m.2) hm];exact R2)
 rintro q ⟨rs,W,D,X,o4,o5,V,rfl,rfl,rfl,R1⟩;rw[dN,rV]at R1;exact(rs,W,_,_,_,_,_,U,U,U,R1.fin U,R1.m)
inductive Lh(ts:ϑ)(Q:ϔ):Prop
 |mk(ks:ϕ)(k:Str)(h1:ts=[tKs ks,.s k])(h2:cJ ks)(h3:Q (.t ((iR ks k ks).map .s)))
theorem cJ.wl(g:cJ ks){k:Str}{xs:ϕ}(h:∀x∈xs,x∈ks):(iR ks k xs).length<=6*xs.length:=by
 refine uq xs λx hx=>?_;split
 ·rw[dN];exact(g.ne x (h x hx)).2
 exact AY _
theorem Ii(T:Txt K mg a):aP P w K mg base CX0 3 a.pE a.Co ["kinds","kind"] (spQ K Lh):=by
 refine T.CW.F.okQ iV (λ_ _ _ _ _ _ hr=>?_);have hu:=bj hr;refine(_,_,((ag (az 2 iV.nd (aI (rg T) hr T.ky (ae (qv 0) (ae (qv 1) aw))))
(ag (az 3 iV.nd (aM ai))
(ag (bH (g:=(Tg.tp [4,5])) PassesOwn.never U (iI (XL (qv 0))) (eV (br 4 iV.nd) (br 5 iV.nd))
(aj (aS (bD (UP hu) uS U (qv 4) (qv 2))
(aj (cG (i:=3) (pv 3) (cu U (gg (qv 5)) (N':=["maker"]) (.own U .nil) (cg (g:=(Tg.nm 0)) (λ_ _ _ _ _=>((dh 0),(XL (ao (qv 0) ah))))))))
aA)))
(aj (aC (aU (cq U) cp be T.d6 bv (ae (qv 3) aw)))))))),λts Q h=>?_)
 let(ks,k,U,gk,hq):=h;have k6:=gk.k2;refine(ks,k,U,gk,λrs V=>?_);refine(rG ks,λi q=>Ea3 λ(X:ϑ)(o4 o5:Sl)=>q=[.r (tKs ks),.r (.s k),.o (.d (rs.map mkE)),.o (.l X),o4,o5]/\X=(iR ks k (ks.take i)).map .s,(_,_,_,U,U),?_,?_)
 ·rintro i y q hy ⟨X,o4,o5,rfl,rfl⟩;rw[fZ]at hy;let(x,hx,U):=gV.mp hy;have hl:=gk.wl (k:=k) (xs:=ks.take i) λy hy=>Ff hy;have ar:(ks.take i).length<=6:=by rw[tX];lia
  have ak:=(gk.ne x (jk hx)).2;refine(_,U,ay (λg=>?_) λg=>?_)
  ·rw[um]at g;have hR:=(V _).mp (of_decide_eq_true g);refine(aG (by rw[dN];lia),λj ys=>ys=((x.2.take j).map (·.1)).map .s,U,?_,?_)
   ·rintro j z ys hz rfl;rw[fZ]at hz;let(m,hm,U):=gV.mp hz;refine(_,U,_,U,U,?_);show _++[ϙ m.1]=_;rw[rr,hm];simp
   rintro ys rfl;rw[dN,rV];refine(?_,?_)
   ·simp only[dN];exact v5 (aG bd)
   exact(_,_,_,U,by rw[Jz hx hR,mu])
  rw[um]at g;have hR:¬ Reach ks k x.1:=λz=>g (decide_eq_true ((V _).mpr z));exact(_,_,_,U,by rw[NZ hx hR])
 rintro q ⟨X,o4,o5,rfl,rfl⟩;rw[dN,rV];exact(aL _,hq)
inductive O7(ts:ϑ)(Q:ϔ):Prop
 |mk (ks:ϕ) (u:L2.T) (fam:ϑ) (k:Str) (h1:ts=[.t [tKs ks,u],.t fam,.s k]) (h2:cJ ks) (h3:Ϙ fam=O) (h4:fam.length<=10) (h5:Q (.l ((iR ks k ks).map λm=>.t (fam++[.s m]))))
theorem kR(T:Txt K mg a):aP P w K mg base CX0 4 a.fR a.mK ["program","family","kind"] (spQ K O7):=by
 refine T.cX.F.okQ uY (λ_ _ _ _ _ _ hr=>?_);have V:=bj hr;refine(_,_,((aj (aC (cu U (gg (ZB (aI (Ii T) hr T.CW (ae (ao (qv 0) ah) (ae (qv 2) aw))))) (N':=["maker","family"]) (.own U (.got (i:=1) U U (.inl U) .nil)) (cg (g:=(Tg.nm 0)) (λ_ _ _ _ _=>((dh 0),(aV (qv 1) (ZB (aq (af (XL (qv 0)) ai))))))))))),λts Q h=>?_);let(ks,u,fam,k,U,gk,hi,hl,hq):=h;have z:=gk.k2;have wl:=gk.wl (k:=k) (xs:=ks) λ_ h=>h;refine(_,U,ks,k,U,gk,aG (by rw[dN];omega),λi ys=>ys=((iR ks k ks).take i).map λm=>.t (fam++[.s m]),U,?_,?_)
 ·rintro i y ys q rfl;rw[fZ]at q;let(m,hm,U):=gV.mp q;refine(_,U,U,bO (by show fam.length+1<=10000;omega),hi,U,?_);rw[rr,hm];simp
 rintro ys rfl;rw[dN,rV];exact hq
noncomputable def HA(ks:ϕ)(i n:Nat)(o:Option Str):ϑ:=match o with|some k=>(iR ks k ks).map λm=>.t [.s "piece",iN i,iN n,.s m]|none=>[]
noncomputable def gm(ks:ϕ)(i:Nat):Nat->ϗ->ϑ
 |_,[]=>[]|n,o::r=>HA ks i n o++gm ks i (n+1) r
theorem Dp{i:Nat}:∀{n:Nat},gm ks i n (os++[o])=gm ks i n os++HA ks i (n+os.length) o:=by
 induction os with
 |nil=>intro n;show _++[]=[]++_;rw[pq];rfl
 |cons p r g=>intro n;show _++gm ks i (n+1) (r++[o])=(_++_)++_;rw[g,wI,tZ,show n+1+r.length=n+(r.length+1)by lia]
theorem JG(g:cJ ks){i:Nat}:(HA ks i n o).length<=36:=by
 unfold HA;split
 ·rw[dN];have:=g.wl (k:=by assumption) λ_ h=>h;have:=g.k2;lia
 exact AY _
theorem qF(g:cJ ks){i:Nat}:∀{n:Nat},(gm ks i n os).length<=36*os.length:=by induction os with|nil=>exact AY _|cons p r q =>intro n;show(HA ks i n p++gm ks i (n+1) r).length<=_;have h1:=JG g (i:=i) (n:=n) (o:=p);have h2:=q (n:=n+1);rw[g5,tZ];lia
theorem rA(h:n<=16000000):n<lK:=R4 h ad
structure Nw(ks:ϕ)(L:List Nod)(os:ϗ):Prop where
 ln:os.length=L.length
 ok:∀(n:Nat)(e:Nod)(o:Option Str),L[n]?=Z e->os[n]?=Z o->Ask ks e.sc e.b o
inductive Uy(ts:ϑ)(Q:ϔ):Prop
 |mk(ks:ϕ)(fs:ϖ)(i:Nat)(f:Fn)(L:List Nod)(os:ϗ)(h1:ts=[tPr ks fs,iN i])(h2:Prog ks fs)(h3:fs[i]?=Z f)(h4:Pre ks (fs.map (·.1)) 0 (rtN f) L)(h5:L.length<=50000)(h6:Nw ks L os)(h7:Q (.l (gm ks i 0 os)))
theorem oY(T:Txt K mg a):aP P w K mg base CX0 6 a.dB a.ji ["program","f"] (spQ K Uy):=by
 refine T.jq.F.okQ bS (λ_ _ _ _ _ _ hr=>?_);have hu:=bj hr;refine(_,_,((ag (az 2 bS.nd (aM ai))
(ag (az 3 bS.nd (aI (vC T) hr T.m5 (ae (qv 0) (ae (qv 1) aw))))
(ag (bH (g:=(Tg.tp [4,5])) PassesOwn.never U (Bt T.bQ (aI (yB T) hr T.w6 (ae (ao (ao (ao (qv 0) ah) (qv 1)) ah) aw))) (eV (br 4 bS.nd) (br 5 bS.nd))
(ag (az 6 bS.nd (aq (af aE (af (XL (qv 1)) (af (XL (qv 4)) ai)))))
(aj (aS (bf hu (ao (qv 5) ah) (ZB aE))
(aj (cG (i:=2) (pv 2) (aI (kR T) hr T.cX (ae (qv 0) (ae (qv 6) (ae (ZB (aI (i9 T) hr T.gj (ae (ao (qv 0) ah) (ae (ao (qv 5) ah) aw)))) aw))))))
(aj (aS (bf hu (ao (qv 5) ah) (ZB aE))
(aj (cG (i:=2) (pv 2) (aI (kR T) hr T.cX (ae (qv 0) (ae (qv 6) (ae (gw (ao (qv 3) (qv 4)) (ao (qv 5) ah)) aw))))))
(aj (aS (bf hu (ao (qv 5) ah) (ZB aE))
(aj (cG (i:=2) (pv 2) (aI (kR T) hr T.cX (ae (qv 0) (ae (qv 6) (ae (gw (ao (qv 3) (qv 4)) (ao (qv 5) ah)) aw))))))
aA))))))))
(aj (fN (i:=2) (pv 2))))))),λts Q h=>?_)
 let(ks,fs,i,f,L,os,U,V,hf,hR,hL,hA,hq):=h;have bA:bx ks (fs.map (·.1)) 0 [rtN f] L:=by have:=bx.cons hR (.nil);rwa [pq]at this
 have a9:=jk hf;have G:=yG V a9 bA;have ef:atI (fs.map tF) (i:Int)=Z (tF f):=bu (by rw[fZ,hf];rfl);refine(ks,fs,i,f,L,U,V,hf,hR,hL,λX hX=>?_);refine(_,U,_,ef,_,U,ks,fs.map (·.1),rtN f,L,U,U,U,hR,hL,?_);refine(λc q=>Ea4 λ(F:ϑ)(o4 o5 o6:Sl)=>q=[.r (tPr ks fs),.r (iN i),.o (.l F),.o (.l X),o4,o5,o6]/\F=gm ks i 0 (os.take c),(_,_,_,_,U,U),?_,?_)
 ·rintro c y q hy ⟨F,o4,o5,o6,rfl,rfl⟩;let(z,hz,U):=cT hy;rw[fZ]at hz;let(e,he,U):=gV.mp hz;have bc:=(gs.mp he).1;have a5:c<os.length:=by rw[hA.ln];exact bc
  have ho:os[c]?=Z os[c]:=fY a5;obtain⟨o,ho,hk⟩:∃o,os[c]?=Z o/\Ask ks e.sc e.b o:=(_,ho,hA.ok c e _ he ho);have g:=G e (jk he);have nx:∀{o:Option Str},os[c]?=Z o->gm ks i 0 (os.take (c+1))=gm ks i 0 (os.take c)++HA ks i c o:=λ{o} h=>by
   rw[rr,h];show gm ks i 0 (os.take c++[o])=_;rw[Dp,tX,QL bd,RC]
  have bG:(gm ks i 0 (os.take c)).length<=36*50000:=by have:=qF V.gk (i:=i) (os:=os.take c) (n:=0);rw[tX]at this;have:=hA.ln;lia
  obtain⟨t,a4,ar⟩:∃t,X[c]?=Z t/\t.dof=Z (e.sc.map enP):=by have:=congrArg (·[c]?) hX;simp only[fZ,he]at this;exact gV.mp this
  have a1:atI X (c:Int)=Z t:=bu a4;let(b,ab,am,pa,sc):=e;have hk:Ask ks sc b o:=hk;have ak:∀k,(gm ks i 0 (os.take c)).length+((iR ks k ks).map λm=>ϛ ([.s "piece",iN i,iN c]++[.s m])).length<=lK:=λk=>by
   have:=V.gk.wl (k:=k) (xs:=ks) λ_ h=>h;have:=V.gk.k2;rw[dN];exact v5 (rA bd)
  have non:o=Y->Ea4 λ(F:ϑ)(aW aK aF:Sl)=>[.r (tPr ks fs),.r (iN i),.o (.l (gm ks i 0 (os.take c))),.o (.l X),.r (iN c),.r b,.o (.t [.s "piece",iN i,iN c])]=[.r (tPr ks fs),.r (iN i),.o (.l F),.o (.l X),aW,aK,aF]/\F=gm ks i 0 (os.take (c+1)):=λe=>by
   subst e;exact(_,_,_,_,U,by rw[nx ho];exact(pq _).symm)
  refine(_,U,U,U,?_);cases hk with
  |give=>exact(_,U,U,aa ((_,U,U,aa ((_,U,U,aa (non U))))))|@bJ w c' b hw =>
   have n1:¬ decide ((ϙ w).v=(ϙ "make").v)=true:=by obtain rfl|rfl:=hw <;> decide +kernel
   have n2:¬ decide ((ϙ w).v=(ϙ "name").v)=true:=by obtain rfl|rfl:=hw <;> decide +kernel
   have n3:¬ decide ((ϙ w).v=(ϙ "case").v)=true:=by obtain rfl|rfl:=hw <;> decide +kernel
   exact(_,U,U,ay (λz=>absurd z n1) λ_=>(_,U,U,ay (λz=>absurd z n2) λ_=>(_,U,U,ay (λz=>absurd z n3) λ_=>non U)))
  |call=>exact(_,U,U,aa ((_,U,U,aa ((_,U,U,aa (non U))))))|@make x m kd ns b a6 hm =>refine(_,U,U,ay (λ_=>?_) λz=>absurd bn z);refine(_,U,_,U,ks,kd,m,U,V.gk,a6,hm,ks,.t (fs.map tF),_,kd.1,U,V.gk,U,(by show 3<=10;decide),ak kd.1,?_);exact(_,_,_,_,U,by rw[nx ho];rfl)|@name x y k b a0 =>refine(_,U,U,aa ((_,U,U,ay (λ_=>?_) λz=>absurd bn z)));refine(t,a1,_,U,?_);simp only[sD,ar];refine(_,Aj g.nd a0,ks,.t (fs.map tF),_,k,U,V.gk,U,(by show 3<=10;decide),ak k,?_);exact(_,_,_,_,U,by rw[nx ho];rfl)|@case x k arms a3 =>refine(_,U,U,aa ((_,U,U,aa ((_,U,U,ay (λ_=>?_) λz=>absurd bn z)))));refine(t,a1,_,U,?_);simp only[sD,ar];refine(_,Aj g.nd a3,ks,.t (fs.map tF),_,k,U,V.gk,U,(by show 3<=10;decide),ak k,?_);exact(_,_,_,_,U,by rw[nx ho];rfl)
 rintro q ⟨F,o4,o5,o6,rfl,rfl⟩;rw[bC,dN,<- hA.ln,rV];exact hq
noncomputable def xU(ks:ϕ)(fam:ϑ)(k:Str):ϑ:=(iR ks k ks).map λm=>.t (fam++[.s m])
theorem pC(g:cJ ks){fam:ϑ}{k:Str}:(xU ks fam k).length<=36:=by unfold xU;rw[dN];have:=g.wl (k:=k) λ_ h=>h;have:=g.k2;lia
noncomputable def ix(ks:ϕ)(i:Nat):Nat->Sc->ϑ
 |_,[]=>[]|k,p::r=>xU ks [.s "param",iN i,iN k] p.2++ix ks i (k+1) r
theorem Ba{i:Nat}{p:Str×Str}:∀{k:Nat},ix ks i k (sc++[p])=ix ks i k sc++xU ks [.s "param",iN i,iN (k+sc.length)] p.2:=by
 induction sc with
 |nil=>intro k;show _++[]=[]++_;rw[pq];rfl
 |cons q r g=>intro k;show _++ix ks i (k+1) (r++[p])=(_++_)++_;rw[g,wI,tZ,show k+1+r.length=k+(r.length+1)by lia]
theorem m6(g:cJ ks){i:Nat}:∀{k:Nat},(ix ks i k sc).length<=36*sc.length:=by induction sc with|nil=>exact AY _|cons p r q =>intro k;show(xU ks [.s "param",iN i,iN k] p.2++ix ks i (k+1) r).length<=_;have h1:=pC g (fam:=[.s "param",iN i,iN k]) (k:=p.2);have h2:=q (k:=k+1);rw[g5,tZ];lia
noncomputable def Bb(ks:ϕ)(i:Nat)(f:Fn)(os:ϗ):ϑ:=ix ks i 0 f.1.2.1++[.t [.s "first",iN i]]++xU ks [.s "result",iN i] f.1.2.2++[.t [.s "last",iN i]]++gm ks i 0 os
noncomputable def gn(ks:ϕ):Nat->List (Fn×ϗ)->ϑ
 |_,[]=>[]|i,x::r=>Bb ks i x.1 x.2++gn ks (i+1) r
theorem Dr{xs:List (Fn×ϗ)}{x:Fn×ϗ}:∀{i:Nat},gn ks i (xs++[x])=gn ks i xs++Bb ks (i+xs.length) x.1 x.2:=by
 induction xs with
 |nil=>intro i;show _++[]=[]++_;rw[pq];rfl
 |cons q r g=>intro i;show _++gn ks (i+1) (r++[x])=(_++_)++_;rw[g,wI,tZ,show i+1+r.length=i+(r.length+1)by lia]
structure Unk(ks:ϕ)(fs:ϖ)(xs:List (Fn×ϗ)):Prop where
 fn:xs.map (·.1)=fs
 ok:∀x∈xs,∃L,Pre ks (fs.map (·.1)) 0 (rtN x.1) L/\L.length<=50000/\Nw ks L x.2
theorem JH(g:cJ ks){i:Nat}{f:Fn}(h4:f.1.2.1.length<=4)(ho:os.length<=50000):(Bb ks i f os).length<=1800200:=by have h1:=m6 g (i:=i) (sc:=f.1.2.1) (k:=0);have h2:=pC g (fam:=[.s "result",iN i]) (k:=f.1.2.2);have h3:=qF g (i:=i) (os:=os) (n:=0);unfold Bb;simp only[g5,yd];lia
theorem yk(g:cJ ks){xs:List (Fn×ϗ)}(h:∀x∈xs,x.1.1.2.1.length<=4/\x.2.length<=50000):∀{i:Nat},(gn ks i xs).length<=1800200*xs.length:=by induction xs with|nil=>exact AY _|cons x r q =>intro i;show(Bb ks i x.1 x.2++gn ks (i+1) r).length<=_;have h0:=h x j4;have h1:=JH g (i:=i) h0.1 h0.2;have h2:=q (λy z=>h y (j6 _ z)) (i:=i+1);rw[g5,tZ];lia
inductive WX(ts:ϑ)(Q:ϔ):Prop
 |mk(ks:ϕ)(fs:ϖ)(xs:List (Fn×ϗ))(h1:ts=[tPr ks fs])(h2:Prog ks fs)(h3:Unk ks fs xs)(h4:Q (.l (gn ks 0 xs)))
theorem BL(T:Txt K mg a):aP P w K mg base CX0 7 a.jM a.v8 ["program"] (spQ K WX):=by
 refine T.wY.F.okQ eD (λ_ _ _ _ _ _ hr=>?_);have hu:=bj hr;refine(_,_,((ag (az 1 eD.nd (aM ai))
(ag (bH (g:=(Tg.tp [2,3])) PassesOwn.never U (ud U T.bQ bv (ae (ao (qv 0) ah) aw)) (eV (br 2 eD.nd) (br 3 eD.nd))
(ag (bH (g:=(Tg.tp [4,5])) PassesOwn.never U (ud U T.bQ bv (ae (ao (qv 3) ah) aw)) (eV (br 4 eD.nd) (br 5 eD.nd))
(aj (cG (i:=1) (pv 1) (aI (kR T) hr T.cX (ae (qv 0) (ae (ZB (aq (af aE (af (XL (qv 2)) (af (XL (qv 4)) ai))))) (ae (ao (qv 5) ah) aw)))))))
(ag (bh (i:=1) (pv 1) (aq (af aE (af (XL (qv 2)) ai))))
(ag (cG (i:=1) (pv 1) (aI (kR T) hr T.cX (ae (qv 0) (ae (ZB (aq (af aE (af (XL (qv 2)) ai)))) (ae (ao (qv 3) ah) aw)))))
(ag (bh (i:=1) (pv 1) (aq (af aE (af (XL (qv 2)) ai))))
(aj (cG (i:=1) (pv 1) (aI (oY T) hr T.jq (ae (qv 0) (ae (qv 2) aw))))))))))
(aj (fN (i:=1) (pv 1)))))),λts Q h=>?_)
 let(ks,fs,xs,U,V,hU,hq):=h;have l8:=V.l8;have lx:xs.length=fs.length:=by rw[<- hU.fn,dN]
 have lim:∀x∈xs,x.1.1.2.1.length<=4/\x.2.length<=50000:=λx hx=>by
  let(L,_,h5,hA):=hU.ok x hx;have:x.1∈fs:=by rw[<- hU.fn];exact nR.mpr (x,hx,U)
  exact((V.pk _ this).1,by rw[hA.ln];exact h5)
 refine(_,U,EE λf hf=>(V.sn f hf).1.im,λc q=>Ea5 λ(F:ϑ)(o2 o3 o4 o5:Sl)=>q=[.r (tPr ks fs),.o (.l F),o2,o3,o4,o5]/\F=gn ks 0 (xs.take c),(_,_,_,_,_,U,U),?_,?_)
 ·rintro c y q hy ⟨F,o2,o3,o4,o5,rfl,rfl⟩;let(z,hz,U):=cT hy;rw[fZ]at hz;let(f,hf,U):=gV.mp hz;have a6:=(gs.mp hf).1;have aF:=jk hf;let(p1,p2,p3,p4):=V.pk f aF;have ak:xs[c]?=Z xs[c]:=fY bd;have ex:xs[c].1=f:=by have:=congrArg (·[c]?) hU.fn;simp only[fZ,ak,hf]at this;exact Option.some.inj this
  let(L,hR,hL,hA):=hU.ok xs[c] (Jr _);rw[ex]at hR;have a4:=yk V.gk (xs:=xs.take c) (λx hx=>lim x (Ff hx)) (i:=0);have a3:(xs.take c).length<=7:=by rw[tX];lia
  have a0:(gn ks 0 (xs.take c)).length<=12601400:=bd;have hp:=m6 V.gk (i:=c) (sc:=f.1.2.1) (k:=0);have aW:=pC V.gk (fam:=[.s "result",iN c]) (k:=f.1.2.2);have aK:=qF V.gk (i:=c) (os:=xs[c].2) (n:=0);have a9:=hA.ln;refine(_,U,_,U,aY fh _,λj q=>Ea3 λ(F:ϑ)(o4 o5:Sl)=>q=[.r (tPr ks fs),.o (.l F),.r (iN c),.r (tF f),o4,o5]/\F=gn ks 0 (xs.take c)++ix ks c 0 (f.1.2.1.take j),(_,_,_,U,(pq _).symm),?_,?_)
  ·rintro j y q hy ⟨F,o4,o5,rfl,rfl⟩;let(z,hz,U):=cT hy;rw[fZ]at hz;let(p,ar,U):=gV.mp hz;have a5:=(gs.mp ar).1;have h1:=m6 V.gk (i:=c) (sc:=f.1.2.1.take j) (k:=0);have h2:=pC V.gk (fam:=[.s "param",iN c,iN j]) (k:=p.2);rw[tX]at h1;refine(_,U,U,U,_,U,ks,.t (fs.map tF),_,p.2,U,V.gk,U,(by show 3<=10;decide),?_,?_)
   ·show(gn ks 0 (xs.take c)++ix ks c 0 (f.1.2.1.take j)).length+(xU ks [.s "param",iN c,iN j] p.2).length<=lK;rw[g5];exact v5 (rA bd)
   refine(_,_,_,U,?_);rw[rr,ar];show _++_=_++ix ks c 0 (f.1.2.1.take j++[p]);rw[Ba,tX,QL bd,RC,wI];rfl
  rintro q ⟨F,o4,o5,rfl,rfl⟩;rw[bC,dN,rV];refine(rA (by rw[g5];lia),U,?_);refine(U,_,U,ks,.t (fs.map tF),_,f.1.2.2,U,V.gk,U,(by show 2<=10;decide),?_,?_)
  ·show _+(xU ks [.s "result",iN c] f.1.2.2).length<=lK;simp only[g5,yd];exact v5 (rA bd)
  refine(?_,U,?_)
  ·show(_++xU ks [.s "result",iN c] f.1.2.2).length<lK;simp only[g5,yd];exact rA bd
  refine(ks,fs,c,f,L,xs[c].2,U,V,hf,hR,hL,hA,?_,?_)
  ·show(_++xU ks [.s "result",iN c] f.1.2.2++_).length+_<=lK;simp only[g5,yd];exact v5 (rA bd)
  refine(_,_,_,_,_,U,?_);rw[rr,ak];show _=gn ks 0 (xs.take c++[xs[c]]);rw[Dr,tX,QL bd,RC,ex];unfold Bb;simp only[wI];rfl
 rintro q ⟨F,o2,o3,o4,o5,rfl,rfl⟩;rw[bC,dN,<- lx,rV];exact hq
theorem unc{α:Type}{l:List α}(h:l.length=n+1):∃x r,l=x::r/\r.length=n:=by
 cases l with
 |nil=>cases h
 |cons x r=>exact(x,r,U,Nat.succ.inj h)
theorem rh(T:Txt K mg a):aP P w K mg base CX0 1 a.dD a.jU ["self","f","free","spent","kinds","holdings"] (zr a.aW ["f","free","spent","kinds","holdings"]):=by
 refine Fun.ok (k:=0) T.gE xq (λvs H Q E h=>?_) λcdv A outer s H vs Q E hr h=>?_
 ·let(x,dx,args,U,hl,_):=h;show args.length+1=6;rw[hl];rfl
 let(x,dx,args,U,hl,hx,hq):=h;obtain⟨v1,v2,q,v4,g,rfl⟩:∃v1 v2 q v4 g,args=[v1,v2,q,v4,g]:=by let(v1,a1,U,h1):=unc (n:=4) hl;let(v2,a2,U,h2):=unc h1;let(q,a3,U,h3):=unc h2;let(v4,V,U,h4):=unc h3;let(g,z,U,h5):=unc h4;exact(v1,v2,q,v4,g,by rw[List.eq_nil_of_length_eq_zero h5])
 refine(_,bI (kO (pv 0) (pv 1) U) (bI (kO (pv 0) (pv 2) U) (bI (kO (pv 0) (pv 3) U) (bI (kO (pv 0) (pv 4) U) (gx (kO (pv 0) (pv 5) U))))),?_);refine(_,U,_,U,x,a.aW,dx,_,U,hx,T.bG,T.fK,(by show 0<1000;decide),?_);refine(_,U,_,U,x,a.aW,dx,_,U,ax,T.bG,T.iJ,(by show 1<1000;decide),?_);refine(_,U,_,U,x,a.aW,dx,_,U,ax,T.bG,T.gM,(by show 2<1000;decide),?_);refine(_,U,_,U,x,a.aW,dx,_,U,ax,T.bG,T.fe,(by show 3<1000;decide),?_);refine(_,U,_,U,x,a.aW,dx,_,U,ax,T.bG,T.c7,(by show 4<1000;decide),?_);rw[g7,g7,g7,g7];exact hq
abbrev Fam:=List Key
def tH1(p:Fam×Int):L2.T:=.t [.t (p.1.map kT),.i p.2]
def tU(p:Str×Fam):L2.T:=.t [.s p.1,.t (p.2.map kT)]
theorem Xs(p:Fam×Int):(tH1 p).im=true:=by show(Ϙ (p.1.map kT)&&O)=O;rw[aY λk=>by cases k <;> rfl];rfl
def pcF(i n:Nat):Fam:=[.inr "piece",.inl i,.inl n]
def usP(j:Nat):Nat->Γ->List (Str×Fam)
 |_,[]=>[]|k,y::r=>(y,[.inr "param",.inl j,.inl k])::usP j (k+1) r
theorem JE:∀{k:Nat},usP j k (ns++[y])=usP j k ns++[(y,[.inr "param",.inl j,.inl ((k+ns.length:Nat):Int)])]:=by
 induction ns with
 |nil=>intro k;rfl
 |cons q r g=>intro k;show _::usP j (k+1) (r++[y])=_::_;rw[g,show k+1+r.length=k+(r.length+1)by lia];rfl
inductive lH(fs:ϖ)(i n:Nat):L2.T->List (Str×Fam)->List (Fam×Int)->Int->Prop
 |give{x:Str}:lH fs i n (.t [.s "give",.s x]) [(x,[.inr "result",.inl i])] [([.inr "last",.inl i],-1)] 0|pay{c:Int}{b:L2.T}:lH fs i n (.t [.s "pay",.i c,b]) [] [] c|get{c:Int}{b:L2.T}:lH fs i n (.t [.s "get",.i c,b]) [] [] (-c)|name{x y:Str}{b:L2.T}:lH fs i n (.t [.s "name",.s x,.s y,b]) [(y,pcF i n)] [] 0|make {x m:Str} {ns:Γ} {b:L2.T}:ns.length<=4->lH fs i n (.t [.s "make",.s x,.s m,.t (ns.map .s),b]) (ns.map λy=>(y,pcF i n)) [(pcF i n++[.inr m],-1)] 0|call{x:Str}{j:Nat}{f:Fn}{ns:Γ}{b:L2.T}:fs[j]?=Z f->ns.length<=4->lH fs i n (.t [.s "call",.s x,.s f.1.1,.t (ns.map .s),b]) (usP j 0 ns) [([.inr "first",.inl j],-1)] 0|case{x:Str}{arms:List Arm}:lH fs i n (.t [.s "case",.s x,.t (arms.map tA)]) [(x,pcF i n)] [] 0
inductive Ux(ts:ϑ)(Q:ϔ):Prop
 |mk(ks:ϕ)(fs:ϖ)(i n:Nat)(b:L2.T)(us:List (Str×Fam))(fr:List (Fam×Int))(sp:Int)(h1:ts=[tPr ks fs,iN i,iN n,b])(h2:Prog ks fs)(h3:lH fs i n b us fr sp)(h4:Q (.l (us.map tU)))
inductive O8(ts:ϑ)(Q:ϔ):Prop
 |mk(ks:ϕ)(fs:ϖ)(i n:Nat)(b:L2.T)(us:List (Str×Fam))(fr:List (Fam×Int))(sp:Int)(h1:ts=[tPr ks fs,iN i,iN n,b])(h2:Prog ks fs)(h3:lH fs i n b us fr sp)(h4:Q (.t (fr.map tH1)))
inductive Pb(ts:ϑ)(Q:ϔ):Prop
 |mk(fs:ϖ)(i n:Nat)(b:L2.T)(us:List (Str×Fam))(fr:List (Fam×Int))(sp:Int)(h1:ts=[b])(h2:lH fs i n b us fr sp)(h3:Q (.i sp))
abbrev dv:=List (Fam×Int)
structure Sd where
 fr:dv
 sp:Int
 sc:Sc
 ho:List (Str×dv)
def tHo(h:dv):L2.T:=.t (h.map tH1)
abbrev enH:Str×dv->Key×L2.T:=en (·.1) (λp=>tHo p.2)
inductive IsS(C:J)(i:Nat):L2.T->Sd->Prop
 |mk{d:Sd}{o1 o2:Obj}{v1 v2:Ϗ}:IsS C i (.ob C ["f","free","spent","kinds","holdings"] [iN i,tHo d.fr,.i d.sp,.fd o1 v1 (d.sc.map enP),.fd o2 v2 (d.ho.map enH)]) d
def tN(ho:List (Str×dv))(u:Str×Fam):List (Str×dv):=ho.map λp=>if p.1=u.1 then(p.1,p.2++[(u.2,-1)])else p
def Sd.wth(d:Sd)(us:List (Str×Fam))(fr:dv)(sp:Int):Sd:=(d.fr++fr,d.sp+sp,d.sc,us.foldl tN d.ho)
structure SOk(ύ:Nat)(d:Sd):Prop where
 nd:(d.ho.map (·.1)).Nodup
 fl:d.fr.length<=ύ
 hl:∀p∈d.ho,p.2.length<=ύ
 ln:d.ho.length<=1000
theorem N3:∀{k:Nat},(usP j k ns).length=ns.length:=by
 induction ns with
 |nil=>intro k;rfl
 |cons q r g=>intro k;show(usP j (k+1) r).length+1=_;rw[g];rfl
variable{us:List (Str×Fam)}{fr:dv}
theorem lH.len{fs:ϖ}{i:Nat}{b:L2.T}(h:lH fs i n b us fr sp):us.length<=4/\fr.length<=1:=by cases h with|make h=>exact(by rw[dN];exact h,mz _)|call _ h=>exact(by rw[N3];exact h,mz _)|_=>exact(ba,ba)
variable{ho:List (Str×dv)}{u:Str×Fam}
theorem Jh:(tN ho u).map (·.1)=ho.map (·.1):=by unfold tN;rw[wH];exact ab1 λp _=>by show(if p.1=u.1 then(p.1,p.2++[(u.2,-1)])else p).1=p.1;split <;> rfl
theorem md:∀{ho:List (Str×dv)},(us.foldl tN ho).map (·.1)=ho.map (·.1):=by
 induction us with
 |nil=>intro ho;rfl
 |cons u r g=>exact g.trans Jh
theorem M7(h:∀p∈ho,p.2.length<=ύ):∀p∈tN ho u,p.2.length<=ύ+1:=λp hp=>by
 let(q,hq,U):=nR.mp hp;have:=h q hq;split
 ·simpa using this
 lia
theorem Gp:∀{ύ:Nat}{ho:List (Str×dv)},(∀p∈ho,p.2.length<=ύ)->∀p∈us.foldl tN ho,p.2.length<=ύ+us.length:=by
 induction us with
 |nil=>intro ύ ho h;exact h
 |cons u r g=>intro ύ ho h p hp;have:=g (M7 h) p hp;rw[tZ];lia
variable{fam:Fam}
theorem K9{h:dv}(hn:(ho.map (·.1)).Nodup)(hx:(x,h)∈ho):mv (ho.map enH) (.inr x) (tHo (h++[(fam,-1)]))=(tN ho (x,fam)).map enH:=by
 unfold mv tN;rw[if_pos,wH,wH]
 ·refine ab1 λp hp=>?_;show(if(Sum.inr p.1:Key)=.inr x then(Sum.inr p.1,tHo (h++[(fam,-1)]))else enH p)=enH (if p.1=x then(p.1,p.2++[(fam,-1)])else p);by_cases e:p.1=x
  ·rw[if_pos (congrArg _ e),if_pos e];let(i,hi,q):=ro hp;let(j,K,g):=ro hx;have:=BR hn (fY hi) (fY K) (by rw[q,g];exact e);subst this;have P:=q.symm.trans g;rw[P];rfl
  rw[if_neg λz=>e (Sum.inr.inj z),if_neg e]
 rw[ZF,Tf];exact(_,hx,decide_eq_true U)
theorem vR(f:Fam):Ϙ (f.map kT)=true:=aY (λk=>by cases k <;> rfl) f
theorem k8(h:dv):(tHo h).im=true:=aY Xs h
theorem sJ:∀ho:List (Str×dv),Ϝ (ho.map enH)=O
 |[]=>rfl|p::r=>by
  show(L2.T.im (tHo p.2)&&Ϝ (r.map enH))=O;rw[sJ r,k8];rfl
inductive Uw(C:J)(ts:ϑ)(Q:ϔ):Prop
 |mk(ks:ϕ)(fs:ϖ)(i n:Nat)(b S:L2.T)(d:Sd)(us:List (Str×Fam))(fr:dv)(sp:Int)(h1:ts=[tPr ks fs,iN n,b,S])(h2:Prog ks fs)(h3:b.im=O)(h4:IsS C i S d)(h5:lH fs i n b us fr sp)(h6:(∀u∈us,u.1∈d.ho.map (·.1)))(h7:SOk 5000 d)(h8:∀S',IsS C i S' (d.wth us fr sp)->Q S')
def xZ(i:Nat):Nat->Sc->List (Str×dv)
 |_,[]=>[]|k,p::r=>(p.1,[([.inr "param",.inl i,.inl k],1)])::xZ i (k+1) r
theorem Jg{i:Nat}{p:Str×Str}:∀{k:Nat},xZ i k (sc++[p])=xZ i k sc++[(p.1,[([.inr "param",.inl i,.inl ((k+sc.length:Nat):Int)],1)])]:=by
 induction sc with
 |nil=>intro k;rfl
 |cons q r g=>intro k;show _::xZ i (k+1) (r++[p])=_::_;rw[g,show k+1+r.length=k+(r.length+1)by lia];rfl
theorem yU{i:Nat}:∀{k:Nat},(xZ i k sc).map (·.1)=sc.map (·.1):=by
 induction sc with
 |nil=>intro k;rfl
 |cons q r g=>intro k;show _ ::(xZ i (k+1) r).map (·.1)=_::_;rw[g]
def Q8(i:Nat)(f:Fn):Sd:=([([.inr "first",.inl i],1)],0,f.1.2.1,xZ i 0 f.1.2.1)
inductive Pd(C:J)(ts:ϑ)(Q:ϔ):Prop
 |mk(ks:ϕ)(fs:ϖ)(i:Nat)(f:Fn)(h1:ts=[tPr ks fs,iN i])(h2:Prog ks fs)(h3:fs[i]?=Z f)(h4:∀S,IsS C i S (Q8 i f)->Q S)
inductive BrR(fs:ϖ)(i n:Nat):L2.T->L2.T->Fam->dv->Prop
 |plain{w:Str}{r:ϑ}{am:L2.T}:w ≠ "call"->w ≠ "case"->BrR fs i n (.t (.s w::r)) am (pcF i n) []|call{x:Str}{j:Nat}{f:Fn}{ns:Γ}{b am:L2.T}:fs[j]?=Z f->BrR fs i n (.t [.s "call",.s x,.s f.1.1,.t (ns.map .s),b]) am [.inr "result",.inl j] [([.inr "last",.inl j],1)]|case{x:Str}{arms:List Arm}{ar:Arm}:BrR fs i n (.t [.s "case",.s x,.t (arms.map tA)]) (tA ar) (pcF i n) [(pcF i n++[.inr ar.1],1)]
def Sd.bhd(d:Sd)(fam:Fam)(fr:dv)(sc':Sc):Sd:=(d.fr++fr,d.sp,sc',d.ho++(sc'.drop d.sc.length).map λp=>(Prod.mk p.1 [(fam,1)]))
inductive Lm(C:J)(ts:ϑ)(Q:ϔ):Prop
 |mk(ks:ϕ)(fs:ϖ)(i n j:Nat)(b b' am S:L2.T)(d:Sd)(sc':Sc)(fam:Fam)(fr:dv)(h1:ts=[tPr ks fs,iN n,b,am,S])(h2:Prog ks fs)(h3:IsS C i S d)(h4:Kid ks (fs.map (·.1)) d.sc b j b' am sc')(h5:BrR fs i n b am fam fr)(h6:(d.sc.map (·.1)).Nodup)(h7:(∀p∈d.sc,p.2∈ks.map (·.1)))(h8:d.ho.map (·.1)=d.sc.map (·.1))(h9:d.sc.length<=900)(h10:d.fr.length<=5000)(h11:∀S',IsS C i S' (d.bhd fam fr sc')->Q S')
theorem BN(T:Txt K mg a):aP P w K mg base CX0 1 a.jO a.wa [We] (spQ K Pb):=by
 refine T.w5.F.okQ Bj (λ_ _ _ _ _ _ hr=>?_);have g:=bj hr;refine(_,_,((ag (aS (bf g (ao (qv 0) ah) (ZB aE))
(aj (aC (XL (ao (qv 0) ah))))
aA)
(ag (aS (bf g (ao (qv 0) ah) (ZB aE))
(aj (aC (du (ao (qv 0) ah))))
aA)
(aj (aC bF))))),λts Q h=>?_)
 let(fs,i,n,b,us,fr,sp,U,q,hq):=h;cases q with|pay=>exact(_,U,U,ay (λ_=>(_,U,U,hq)) λz=>absurd bn z)|get=>exact(_,U,U,aa ((_,U,U,ay (λ_=>(_,U,hq)) λz=>absurd bn z)))|_=>exact(_,U,U,aa ((_,U,U,aa (hq))))
theorem xx(T:Txt K mg a):aP P w K mg base CX0 2 a.gy a.pJ ["program","f","n",We] (spQ K O8):=by
 refine T.qj.F.okQ xp (λ_ _ _ _ _ _ hr=>?_);have g:=bj hr;refine(_,_,((ag (aS (bf g (ao (qv 3) ah) (ZB aE))
(aj (aC (aq (af (aq (af (aq (af aE (af (XL (qv 1)) (af (XL (qv 2)) (af (XL (ao (qv 3) ah)) ai))))) (af (du ah) ai))) ai))))
aA)
(ag (aS (bf g (ao (qv 3) ah) (ZB aE))
(aj (aC (aq (af (aq (af (aq (af aE (af (aI (fc T) hr T.eU (ae (ao (qv 0) ah) (ae (ao (qv 3) ah) aw))) ai))) (af (du ah) ai))) ai))))
aA)
(ag (aS (bf g (ao (qv 3) ah) (ZB aE))
(aj (aC (aq (af (aq (af (aq (af aE (af (XL (qv 1)) ai))) (af (du ah) ai))) ai))))
aA)
(aj (aC (aq ai))))))),λts Q h=>?_)
 let(ks,fs,i,n,b,us,fr,sp,U,q,hU,hq):=h;cases hU with|make=>exact(_,U,U,ay (λ_=>(U,U,_,U,U,hq)) λz=>absurd bn z)|@call x j f ns b V =>exact(_,U,U,aa ((_,U,U,ay (λ_=>(_,U,_,U,fs,j,f,U,q.hn,λf hf=>(q.sn f hf).1.im,q.l8,V,hq)) λz=>absurd bn z)))|give=>exact(_,U,U,aa ((_,U,U,aa ((_,U,U,ay (λ_=>(U,hq)) λz=>absurd bn z)))))|_=>exact(_,U,U,aa ((_,U,U,aa ((_,U,U,aa (hq))))))
theorem F6(T:Txt K mg a):aP P w K mg base CX0 2 a.Ax a.MO ["program","f","n",We] (spQ K Ux):=by
 refine T.Fj.F.okQ zw (λ_ _ _ _ _ _ hr=>?_);have V:=bj hr;refine(_,_,((ag (az 4 zw.nd (XL (ao (qv 3) ah)))
(ag (aS (bf V (qv 4) (ZB aE))
(aj (aC (cu U (gg (ao (qv 3) ah)) (N':=["name","f","n"]) (.own U (.got (i:=1) U U (.inl U) (.got (i:=2) U U (.inl U) .nil))) (cg (g:=(Tg.nm 0)) (λ_ _ _ _ _=>((dh 0),(aq (af (XL (qv 0)) (af (aq (af aE (af (XL (qv 1)) (af (XL (qv 2)) ai)))) ai)))))))))
aA)
(ag (aS (bf V (qv 4) (ZB aE))
(ag (az 5 zw.nd (aI (fc T) hr T.eU (ae (ao (qv 0) ah) (ae (ao (qv 3) ah) aw))))
(aj (aC (cu U (zP U T.bQ bv (ae (ao (qv 3) ah) aw)) (N':=["k","name","g"]) (.own U (.own U (.got (i:=5) U U (.inl U) .nil))) (cg (g:=(Tg.tp [0,1])) (λ_ _ _ _ _=>((eV (dh 0) (dh 1)),(aq (af (XL (qv 1)) (af (aq (af aE (af (XL (qv 2)) (af (XL (qv 0)) ai)))) ai))))))))))
aA)
(ag (aS (bf V (qv 4) (ZB aE))
(aj (aC (aM (af (aq (af (XL (ao (qv 3) ah)) (af (aq (af aE (af (XL (qv 1)) (af (XL (qv 2)) ai)))) ai))) ai))))
aA)
(ag (aS (bf V (qv 4) (ZB aE))
(aj (aC (aM (af (aq (af (XL (ao (qv 3) ah)) (af (aq (af aE (af (XL (qv 1)) (af (XL (qv 2)) ai)))) ai))) ai))))
aA)
(ag (aS (bf V (qv 4) (ZB aE))
(aj (aC (aM (af (aq (af (XL (ao (qv 3) ah)) (af (aq (af aE (af (XL (qv 1)) ai))) ai))) ai))))
aA)
(aj (aC (aM ai)))))))))),λts Q h=>?_)
 let(ks,fs,i,n,b,us,fr,sp,U,hP,hU,hq):=h;cases hU with
 |@make x m ns b hl =>
  refine(_,U,U,U,ay (λ_=>?_) λz=>absurd bn z);refine(_,U,aG (by rw[dN];lia),λc ys=>ys=((ns.take c).map λy=>(y,pcF i n)).map tU,U,?_,?_)
  ·rintro c y ys hy rfl;rw[fZ]at hy;let(z,hz,U):=gV.mp hy;refine(_,U,U,U,U,?_);rw[rr,hz,mu,mu];rfl
  rintro ys rfl;rw[dN,rV];exact hq
 |@call x j f ns b hj hl =>
  refine(_,U,U,U,aa ((U,ay (λ_=>?_) λz=>absurd bn z)));refine(_,U,_,U,fs,j,f,U,hP.hn,λf hf=>(hP.sn f hf).1.im,hP.l8,hj,?_);refine(_,U,aG (by rw[bC,dN];lia),λc ys=>ys=(usP j 0 (ns.take c)).map tU,U,?_,?_)
  ·rintro c y ys hy rfl;let(z,q,U):=cT hy;rw[fZ]at q;let(z,hz,U):=gV.mp q;have ak:=(gs.mp hz).1;refine(_,U,U,U,U,?_);rw[rr,hz];show _++_=(usP j 0 (ns.take c++[z])).map tU;rw[JE,mu,tX,QL bd,RC];rfl
  rintro ys rfl;rw[bC,dN,rV];exact hq
 |name=>exact(_,U,U,U,aa ((U,aa ((U,ay (λ_=>(_,U,U,U,U,hq)) λz=>absurd bn z)))))|case=>exact(_,U,U,U,aa ((U,aa ((U,aa ((U,ay (λ_=>(_,U,U,U,U,hq)) λz=>absurd bn z)))))))|give=>exact(_,U,U,U,aa ((U,aa ((U,aa ((U,aa ((U,ay (λ_=>(_,U,U,U,hq)) λz=>absurd bn z)))))))))|_=>exact(_,U,U,U,aa ((U,aa ((U,aa ((U,aa ((U,aa (hq))))))))))
theorem xy(T:Txt K mg a):aP P w K mg base CX0 3 a.gA a.pK ["program","n",We,"stand"] (spQ K (Uw a.aW)):=by
 refine T.qm.F.okQ dP (λ_ _ _ _ _ _ hr=>?_);have hu:=bj hr;refine(_,_,((ag (az 4 dP.nd (aU fA gu be T.iP bv (ae (bz T.bG T.c7 (qv 3)) aw)))
(ag (bH (g:=(Tg.tp [5,6])) PassesOwn.never U (uc (aI (F6 T) hr T.Fj (ae (qv 0) (ae (bz T.bG T.fK (qv 3)) (ae (qv 1) (ae (qv 2) aw)))))) (eV (br 5 dP.nd) (br 6 dP.nd))
(aj (zN (i:=4) hu (pv 4) (qv 5) (ZB (aV (gw (qv 4) (qv 5)) (ZB (aq (af (aq (af (XL (qv 6)) (af (du ah) ai))) ai))))))))
(ag (az 7 dP.nd (aV (bz T.bG T.iJ (qv 3)) (ZB (aI (xx T) hr T.qj (ae (qv 0) (ae (bz T.bG T.fK (qv 3)) (ae (qv 1) (ae (qv 2) aw))))))))
(aj (zO (i:=4) (aC (i4 U T.vH (rh T) (hr.mono (by first|decide|omega)) U T.vG T.jW (ae (bz T.bG T.fK (qv 3)) (ae (qv 7) (ae (ZB (aV (bz T.bG T.gM (qv 3)) (ZB (aI (BN T) hr T.w5 (ae (qv 2) aw))))) (ae (bz T.bG T.fe (qv 3)) (ae (qv 4) aw))))))))))))),λts Q h=>?_)
 let(ks,fs,i,n,b,S,d,us,fr,sp,U,hP,hb,hS,V,hx,hk,hq):=h;let(l1,l2):=V.len;cases hS with
 |@mk _ o1 o2 v1 v2 =>
  refine(U,ad,_,U,sJ _,?_);refine(U,ad,_,U,ks,fs,i,n,b,us,fr,sp,U,hP,V,?_);refine(λc q=>Ea4 λ(o5 o6 o7:Sl)(D:List (Key×L2.T))=>q=[.r (tPr ks fs),.r (iN n),.r b,.r (.ob a.aW ["f","free","spent","kinds","holdings"] [iN i,tHo d.fr,.i d.sp,.fd o1 v1 (d.sc.map enP),.fd o2 v2 (d.ho.map enH)]),.o (.d D),o5,o6,o7]/\D=((us.take c).foldl tN d.ho).map enH,(_,_,_,_,U,U),?_,?_)
  ·rintro c y q hy ⟨o5,o6,o7,D,rfl,rfl⟩;rw[fZ]at hy;let((x,fam),hz,U):=gV.mp hy;have hm:=jk hz;have z:=hx _ hm;rw[<- md (us:=us.take c)]at z;let((x',h),hp,U):=nR.mp z;have hn:(((us.take c).foldl tN d.ho).map (·.1)).Nodup:=by rw[md];exact hk.nd
   have hl:=Gp (us:=us.take c) hk.hl _ hp;have a0:((us.take c).foldl tN d.ho).length=d.ho.length:=(congrArg CP (md (us:=us.take c) (ho:=d.ho)):);have aK:=hk.ln;rw[tX]at hl;have hl:h.length<=5000+min c us.length:=hl;have aF:=uo (f:=λp:Str×dv=>p.1) (g:=λp=>tHo p.2) hn hp;refine(_,U,?_);simp only[sD,ϝ];refine(_,aF,vR fam,?_);refine(?_,k8 _,?_,aG (by rw[dN,a0];exact aK),sJ _,?_,?_)
   ·show(h.map tH1).length+1<=lK;rw[dN];exact v5 (c8 bd)
   ·show((Ϙ (fam.map kT)&&O)&&O)=O;rw[vR];rfl
   ·show Ϙ (h.map tH1++[tH1 (fam,-1)])=O;rw[show h.map tH1++[tH1 (fam,-1)]=(h++[Prod.mk fam (-1)]).map tH1 by rw[mu];rfl];exact k8 _
   refine(_,_,_,_,U,?_);have:=K9 (fam:=fam) hn hp;unfold tHo at this;rw[mu]at this;refine Eq.trans this ?_;rw[rr,hz,List.foldl_append];rfl
  rintro q ⟨o5,o6,o7,D,rfl,rfl⟩;rw[dN,rV];refine(U,ad,_,U,U,ad,_,U,ks,fs,i,n,b,us,fr,sp,U,hP,V,?_);refine(?_,k8 _,k8 _,sJ _,λar ak=>?_)
  ·show(d.fr.map tH1).length+(fr.map tH1).length<=lK;have:=hk.fl;rw[dN,dN];exact v5 (c8 bd)
  refine(U,ad,_,U,U,ad,_,U,fs,i,n,b,us,fr,sp,U,V,U,ad,_,U,?_,U,?_)
  ·show(Ϙ (d.fr.map tH1++fr.map tH1)&&O)=O;rw[<- mu];rw[show Ϙ ((d.fr++fr).map tH1)=O from k8 _];rfl
  refine hq _ ?_;have:=IsS.mk (C:=a.aW) (i:=i) (d:=d.wth us fr sp) (o1:=o1) (o2:=ar) (v1:=v1) (v2:=ak);unfold tHo Sd.wth at this;rw[mu]at this;exact this
theorem oW(T:Txt K mg a):aP P w K mg base CX0 3 a.dA a.jh ["program","f"] (spQ K (Pd a.aW)):=by
 refine T.jo.F.okQ eZ (λ_ _ _ _ _ _ hr=>?_);have hu:=bj hr;refine(_,_,((ag (az 2 eZ.nd (XL (ao (ao (ao (qv 0) ah) (qv 1)) ah)))
(ag (fO (i:=3) eZ.nd U (Or.inl U) U (zP U T.bQ bv (ae (qv 2) aw)) (N':=["k","param","f"]) (.own U (.own U (.got (i:=1) U U (.inl U) .nil))) (cg (g:=(Tg.tp [0,1])) (λ_ _ _ _ _=>((eV (dh 0) (dh 1)),(aq (af (XL (ao (qv 1) ah)) (af (aq (af (aq (af (aq (af aE (af (XL (qv 2)) (af (XL (qv 0)) ai)))) (af bF ai))) ai)) ai)))))))
(aj (aC (i4 U T.vH (rh T) (hr.mono (by first|decide|omega)) U T.vG T.jW (ae (qv 1) (ae (ZB (aq (af (aq (af (aq (af aE (af (XL (qv 1)) ai))) (af bF ai))) ai))) (ae ah (ae (ZB (zS (aU (dF U) fE be T.iP bv (ae (qv 2) aw)))) (ae (ZB (zS (aU (dF U) fE be T.iP bv (ae (qv 3) aw)))) aw))))))))))),λts Q h=>?_)
 let(ks,fs,i,f,U,hP,hf,hq):=h;have V:=jk hf;let(p1,p2,p3,p4):=hP.pk f V;have ef:atI (fs.map tF) (i:Int)=Z (tF f):=bu (by rw[fZ,hf];rfl);refine(_,U,_,ef,_,U,?_);refine(aY fh _,aG (by rw[bC,dN];lia),λc ys=>ys=(xZ i 0 (f.1.2.1.take c)).map λp=>ϛ [.s p.1,tHo p.2],U,?_,?_)
 ·rintro c y ys hy rfl;let(z,q,U):=cT hy;rw[fZ]at q;let(z,hz,U):=gV.mp q;have ak:=(gs.mp hz).1;refine(_,U,_,U,U,U,U,?_);rw[rr,hz];show _++_=(xZ i 0 (f.1.2.1.take c++[z])).map _;rw[Jg,mu,tX,QL bd,RC];rfl
 rintro ys rfl;rw[bC,dN,rV];refine(U,aY fh _,_,Aa _,?_);rw[uF p3];refine(pA _,λo1 v1=>?_);refine(aY (λp=>by show(O&&(L2.T.im (tHo p.2)&&O))=O;rw[k8];rfl) _,_,oV (f:=λp:Str×dv=>p.1) (g:=λp=>tHo p.2) _,?_);rw[uF (by rw[yU];exact p3)];exact(sJ _,λo2 v2=>(U,U,hq _ (IsS.mk (d:=Q8 i f))))
theorem Up{p:Str×Str}(h:((sc++[p]).map (·.1)).Nodup):mv (sc.map enP) (.inr p.1) (.s p.2)=(sc++[p]).map enP:=by
 unfold mv;rw[if_neg,mu]
 ·rfl
 rw[ZF,Tf];rintro⟨q,hq,e⟩;have e:=of_decide_eq_true e;rw[mu,yf]at h;exact h.2.2 _ (nR.mpr (q,hq,U)) _ (nR.mpr (p,fy.mpr U,U)) (Sum.inr.inj e)
theorem Uq{h:dv}(hx:x ∉ ho.map (·.1)):mv (ho.map enH) (.inr x) (tHo h)=(ho++[Prod.mk x h]).map enH:=by
 unfold mv;rw[if_neg,mu]
 ·rfl
 rw[ZF,Tf];rintro⟨q,hq,e⟩;have e:=of_decide_eq_true e;exact hx (nR.mpr (q,hq,Sum.inr.inj e))
theorem XX{fs:ϖ}{i:Nat}{b am S:L2.T}{f0:dv}{D:cM}(g:Prog ks fs)(hB:BrR fs i n b am fam fr)(hl:f0.length<=5000)
  (k:∀o7:Sl,D.nx [.r (tPr ks fs),.r (iN n),.r b,.r am,.r S,.o (.t (fam.map kT)),.o (tHo (f0++fr)),o7,.no,.no,.no,.no]):
  vn (eI (qOp DT (qOp qIx (aQ 2) (qC (.i 0))) (qC (.s "call"))))
   (i5 (nu 7 (fD Bz (aH (qOp qIx (aQ 0) (qC (.i 1))) (aH (qOp qIx (aQ 2) (qC (.i 2))) cH))))
(i5 (nu 5 (mq (aH (qC (.s "result")) (aH (qIm (aQ 7)) cH))))
(nu 6 (qOp oI (aQ 6) (mq (aH (mq (aH (mq (aH (qC (.s "last")) (aH (qIm (aQ 7)) cH))) (aH (qC (.i 1)) cH))) cH))))))
   (vn (eI (qOp DT (qOp qIx (aQ 2) (qC (.i 0))) (qC (.s "case"))))
(nu 6 (qOp oI (aQ 6) (mq (aH (mq (aH (qOp oI (aQ 5) (mq (aH (qIm (qOp qIx (aQ 3) (qC (.i 0)))) cH))) (aH (qC (.i 1)) cH))) cH))))
oH) D [.r (tPr ks fs),.r (iN n),.r b,.r am,.r S,.o (.t ((pcF i n).map kT)),.o (tHo f0),.no,.no,.no,.no,.no]:=by
 have q:(f0.map tH1).length+1<=lK:=by rw[dN];exact v5 (c8 bd)
 cases hB with|@plain w r _ Q P =>have n1:=λz=>Q (V.str.inj (of_decide_eq_true z));have n2:=λz=>P (V.str.inj (of_decide_eq_true z));have K:atI (ϙ w::r) 0=Z (ϙ w):=bu U;refine(_,K,U,ay (λz=>absurd z n1) λ_=>(_,K,U,ay (λz=>absurd z n2) λ_=>?_));have:=k .no;rw[pq]at this;exact this|@call x j f ns b _ hj =>refine(_,U,U,ay (λ_=>(_,U,_,U,fs,j,f,U,g.hn,λf hf=>(g.sn f hf).1.im,g.l8,hj,U,U,(q,k8 _,U,?_))) λz=>absurd bn z);have:=k (.o (.i j));unfold tHo at this;rw[mu]at this;exact this|@case x arms ar =>refine(_,U,U,aa ((_,U,U,ay (λ_=>(_,U,U,(by show 3+1<=lK;decide),U,U,q,k8 _,U,?_)) λz=>absurd bn z)));have:=k .no;unfold tHo at this;rw[mu]at this;exact this
theorem tj(T:Txt K mg a):aP P w K mg base CX0 3 a.ft a.lD ["program","n",We,"arm","stand"] (spQ K (Lm a.aW)):=by
 refine T.lQ.F.okQ bb (λ_ _ _ _ _ _ hr=>?_);have hu:=bj hr;refine(_,_,((ag (az 5 bb.nd (aq (af aE (af (XL (bz T.bG T.fK (qv 4))) (af (XL (qv 1)) ai)))))
(ag (az 6 bb.nd (XL (bz T.bG T.iJ (qv 4))))
(ag (aS (bf hu (ao (qv 2) ah) (ZB aE))
(ag (az 7 bb.nd (aI (fc T) hr T.eU (ae (ao (qv 0) ah) (ae (ao (qv 2) ah) aw))))
(ag (az 5 bb.nd (aq (af aE (af (XL (qv 7)) ai))))
(aj (az 6 bb.nd (aV (qv 6) (ZB (aq (af (aq (af (aq (af aE (af (XL (qv 7)) ai))) (af bF ai))) ai))))))))
(aj (aS (bf hu (ao (qv 2) ah) (ZB aE))
(aj (az 6 bb.nd (aV (qv 6) (ZB (aq (af (aq (af (aV (qv 5) (ZB (aq (af (XL (ao (qv 3) ah)) ai)))) (af bF ai))) ai))))))
aA)))
(ag (az 8 bb.nd (aU fA gu be T.iP bv (ae (bz T.bG T.fe (qv 4)) aw)))
(ag (az 9 bb.nd (aU fA gu be T.iP bv (ae (bz T.bG T.c7 (qv 4)) aw)))
(ag (bH (g:=(Tg.tp [10,11])) PassesOwn.never U (uc (aI (sF T) hr T.nX (ae (qv 0) (ae (qv 2) (ae (qv 3) (ae (bz T.bG T.fe (qv 4)) aw)))))) (eV (br 10 bb.nd) (br 11 bb.nd))
(ag (zN (i:=8) hu (pv 8) (qv 10) (qv 11))
(aj (zN (i:=9) hu (pv 9) (qv 10) (ZB (aq (af (aq (af (XL (qv 5)) (af bF ai))) ai)))))))
(aj (zO (i:=9) (zO (i:=8) (aC (i4 U T.vH (rh T) (hr.mono (by first|decide|omega)) U T.vG T.jW (ae (bz T.bG T.fK (qv 4)) (ae (qv 6) (ae (bz T.bG T.gM (qv 4)) (ae (qv 8) (ae (qv 9) aw))))))))))))))))),λts Q h=>?_)
 let(ks,fs,i,n,j,b,b',am,S,d,sc',fam,fr,U,hP,hS,hK,hB,ar,aK,aF,bc,a0,hq):=h;have ex:=hK.ext;have nn:=hK.nd ar;have hlen:=hK.len hP.gk;cases hS with|@mk _ o1 o2 v1 v2 =>
 have a9:∀g:Fam,Ϙ (g.map kT)=true:=vR;refine(U,ad,_,U,U,U,U,ad,_,U,?_);refine(k8 _,XX hP hB a0 λo7=>?_);refine(U,ad,_,U,pA _,U,ad,_,U,sJ _,?_);refine(U,ad,_,U,ks,fs,d.sc,sc',b,b',am,j,_,U,U,hP,hK,ar,aK,?_);have bP:(sc'.drop d.sc.length).length<=4:=by rw[Ry];lia
 refine(λc q=>Ea4 λ(ak V:Sl)(A ύ:List (Key×L2.T))=>q=[.r (tPr ks fs),.r (iN n),.r b,.r am,.r (.ob a.aW ["f","free","spent","kinds","holdings"] [iN i,tHo d.fr,.i d.sp,.fd o1 v1 (d.sc.map enP),.fd o2 v2 (d.ho.map enH)]),.o (.t (fam.map kT)),.o (tHo (d.fr++fr)),o7,.o (.d A),.o (.d ύ),ak,V]/\A=(d.sc++(sc'.drop d.sc.length).take c).map enP/\ύ=(d.ho++((sc'.drop d.sc.length).take c).map λp:Str×Str=>Prod.mk p.1 [Prod.mk fam (1:Int)]).map enH,(_,_,_,_,U,ba,ba),?_,?_)
 ·rintro c y q hy ⟨ak,V,A,ύ,rfl,rfl,rfl⟩;rw[fZ]at hy;let(p,hz,U):=gV.mp hy;have bQ:=(gs.mp hz).1;have et:(sc'.drop d.sc.length).take (c+1)=(sc'.drop d.sc.length).take c++[p]:=by rw[rr,hz];rfl
  have n2:((d.sc++(sc'.drop d.sc.length).take c++[p]).map (·.1)).Nodup:=by rw[wI,<- et];rw[ex]at nn;refine List.Nodup.sublist (List.Sublist.map _ (List.Sublist.append_left (V0 _ _) _)) nn
  have n3:p.1 ∉ (d.ho++((sc'.drop d.sc.length).take c).map λp=>(Prod.mk p.1 [Prod.mk fam (1:Int)])).map (·.1):=by rw[mu,aF,wH];have:=n2;rw[mu,mu,yf]at this;intro z;exact this.2.2 _ z _ (nR.mpr (p,fy.mpr U,U)) U
  have bA:d.ho.length=d.sc.length:=(congrArg CP aF:);have tl:((sc'.drop d.sc.length).take c).length<=4:=by rw[tX];lia
  refine(_,U,?_);refine(aG (by rw[dN,g5];lia),pA _,U,?_);rw[show ϙ p.2=.s p.2 from U,Up n2];refine(vR _,aG (by rw[dN,g5,dN];lia),sJ _,?_,?_)
  ·show((Ϙ (fam.map kT)&&O)&&O)=O;rw[vR];rfl
  refine(_,_,_,_,U,?_,?_)
  ·rw[et,wI]
  refine(Uq (h:=[(fam,1)]) n3).trans (congrArg (List.map enH) ?_);rw[et];simp
 rintro q ⟨ak,V,A,ύ,rfl,rfl,rfl⟩;rw[dN,rV,<- ex];refine(sJ _,λa5 a3=>(pA _,λa6 a4=>?_));refine(U,ad,_,U,U,ad,_,U,?_,U,hq _ (IsS.mk (d:=d.bhd fam fr sc')));show(O&&(L2.T.im (tHo (d.fr++fr))&&O))=O;rw[k8];rfl
theorem iA{k k':Str}(h:(sc.map (·.1)).Nodup)(h1:(x,k)∈sc)(h2:(x,k')∈sc):k=k':=by let(i,hi,e1):=ro h1;let(j,q,g):=ro h2;have:=BR h (fY hi) (fY q) (by rw[e1,g]);subst this;rw[e1]at g;exact congrArg Prod.snd g
theorem EA(g:cJ ks){q:Kd}{m m':Mk1}(h1:kd∈ks)(h2:q∈ks)(h3:m∈kd.2)(h4:m'∈q.2)(e:m.1=m'.1):kd=q:=by let(i,hi,e1):=ro h1;let(j,K,z):=ro h2;have:=vU g.mn (fY hi) (fY K) (e1▸h3) (z▸h4) e;subst this;exact e1.symm.trans z
theorem Xp(g:cJ ks){q:Kd}(h1:kd∈ks)(h2:q∈ks)(e:kd.1=q.1):kd=q:=by let(i,hi,e1):=ro h1;let(j,K,z):=ro h2;have:=BR g.nd (fY hi) (fY K) (by rw[e1,z];exact e);subst this;exact e1.symm.trans z
theorem VA(hn:(hs.map (·.1)).Nodup){h h':Hd}(h1:h∈hs)(h2:h'∈hs)(e:h.1=h'.1):h=h':=by let(i,hi,e1):=ro h1;let(j,q,g):=ro h2;have:=BR hn (fY hi) (fY q) (by rw[e1,g];exact e);subst this;exact e1.symm.trans g
theorem OC:(("make":Str)="call")=False:=eq_false ad
theorem OD:(("call":Str)="make")=False:=eq_false ad
theorem Dw{a b:Arm}(h:tA a=tA b):a.1=b.1/\a.2.1=b.2.1/\a.2.2.1=b.2.2.1:=by
 injection h with h
 injection h with h1 h
 injection h with h2 h
 injection h with h3 _
 injection h1 with h1
 injection h2 with h2
 exact(h1,(List.map_inj_right λ_ _ z=>L2.T.s.inj z).mp h2,h3)
theorem Snd.kid{b t b' am:L2.T}(gk:cJ ks)(hn:(hs.map (·.1)).Nodup)(nd:(sc.map (·.1)).Nodup)(S:Snd ks hs r m sc b)(e:b=t)(K:Kid ks hs sc t j b' am sc'):∃m',Snd ks hs r m' sc' b':=by
 cases S <;> cases K <;> first|exact absurd (congrArg tgT e) (Nat.ne_of_beq_eq_false rfl)|simp[OC,OD]at e
 ·rename_i S _ _ _;let(U,U,U):=e;exact(_,S)
 ·rename_i hy hx S _ _ _ P g;let(U,U,U):=e;obtain rfl:=iA nd hy P;exact(_,S)
 ·rename_i q hm _ hx S _ _ _ _ EL Q g;let(U,e1,z,U):=e;obtain rfl:=EA gk q EL hm Q e1;exact(_,S)
 ·rename_i hh _ hx S _ _ _ V g;let(U,e1,z,U):=e;obtain rfl:=VA hn hh V e1;exact(_,S)
 rename_i x kd arms q aK hx h1 h2 x' aF de ar mm g EL Zn hl hN ha hm;let(U,e1):=e;obtain rfl:=Xp gk q EL (iA nd hx g);have z:=congrArg (·[j]?) e1;simp only[fZ,ha]at z;let(ak,h0,e3):=gV.mp z;let(_,q2,q3):=Dw e3;have:=h2 j ak mm h0 hm;rw[q2,q3]at this;exact(_,this)
theorem Od{fs:ϖ}{f:Fn}(g:Prog ks fs)(hf:f∈fs)(hL:bx ks (fs.map (·.1)) 0 [rtN f] L):∀e∈L,∃m,Snd ks (fs.map (·.1)) f.1.2.2 m e.sc e.b:=by
 have hn:((fs.map (·.1)).map (·.1)).Nodup:=by have:=g.hn;rwa [wH]
 have:=hL.all (R:=λe=>(e.sc.map (·.1)).Nodup/\∃m,Snd ks (fs.map (·.1)) f.1.2.2 m e.sc e.b) (λn d j b am sc (g1,m,g2) hk=>(hk.nd g1,g2.kid g.gk hn g1 U hk)) _ U λd hd=>by
  rw[fy.mp hd];exact((g.pk f hf).2.2.1,_,(g.sn f hf).1)
 exact λe he=>(this e he).2
theorem uJ{k m:Str}{xs:ϕ}:m∈iR ks k xs ↔ ∃x∈xs,Reach ks k x.1/\m∈x.2.map (·.1):=by
 unfold iR;rw[ZC];constructor
 ·rintro⟨x,hx,h⟩;split at h
  ·exact(x,hx,(by assumption),h)
  cases h
 rintro⟨x,hx,hr,h⟩;exact(x,hx,by rw[if_pos hr];exact h)
theorem yj{m:Mk1}(h:kd∈ks)(hm:m∈kd.2):m.1∈iR ks kd.1 ks:=uJ.mpr (kd,h,.here,nR.mpr (m,hm,U))
theorem JA(g:cJ ks){m:Mk1}{k s:Str}(h:kd∈ks)(hm:m∈kd.2)(hk:k∈m.2)(hs:s∈iR ks k ks):s∈iR ks kd.1 ks:=by let(x,hx,hr,h'):=uJ.mp hs;refine uJ.mpr (x,hx,Reach.trans (.step .here ?_) hr,h');unfold Aw;rw[Ga g.nd h];exact ZC.mpr (m,hm,hk)
def FK(ub9:ϔ)(ks:ϕ)(fam:Fam)(k:Str):Prop:=∀m∈iR ks k ks,ub9 (.t ((fam++[(.inr m:Key)]).map kT))
structure UOk(ub9:ϔ)(ks:ϕ)(fs:ϖ)(i:Nat)(os:ϗ):Prop where
 par:∀(j:Nat)(g:Fn)(k:Nat)(p:Str×Str),fs[j]?=Z g->g.1.2.1[k]?=Z p->FK ub9 ks [.inr "param",.inl j,.inl k] p.2
 fst:∀(j:Nat)(g:Fn),fs[j]?=Z g->ub9 (.t [.s "first",iN j])
 lst:∀(j:Nat)(g:Fn),fs[j]?=Z g->ub9 (.t [.s "last",iN j])
 res:∀(j:Nat)(g:Fn),fs[j]?=Z g->FK ub9 ks [.inr "result",.inl j] g.1.2.2
 pce:∀(n:Nat)(k:Str),os[n]?=Z (Z k)->FK ub9 ks (pcF i n) k
theorem FK.fld{ub9:ϔ}{m:Mk1}{k:Str}(h:FK ub9 ks fam kd.1)(g:cJ ks)(q:kd∈ks)(hm:m∈kd.2)(hk:k∈m.2):FK ub9 ks fam k:=λs hs=>h s (JA g q hm hk hs)
theorem N2:∀{k:Nat},u∈usP j k ns->∃l,ns[l]?=Z u.1/\u.2=[.inr "param",.inl (j:Int),.inl ((k+l:Nat):Int)]:=by
 induction ns with
 |nil=>intro k h;cases h
 |cons y r g =>
  intro k h;obtain rfl|h:=lb.mp h
  ·exact(0,U,U)
  let(l,h1,h2):=g h;exact(l+1,(h1:),by rw[h2,show k+1+l=k+(l+1)by lia])
theorem Gu{fl:Γ}(h:Fills sc ns fl){l:Nat}(g:ns[l]?=Z y):∃k,fl[l]?=Z k/\(y,k)∈sc:=by have hl:=(gs.mp g).1;have hk:fl[l]?=Z (fl[l]'(by rw[<- h.1];exact hl)):=fY _;refine(_,hk,h.2 _ (jk (i:=l) ?_));rw[Rz];exact(g,hk)
section
variable{ub9:ϔ}{ks:ϕ}{fs:ϖ}{i n m:Nat}{f:Fn}{os:ϗ}{o:Option Str}{sc:Sc}{b t:L2.T}
theorem JD(hP:Prog ks fs)(hf:fs[i]?=Z f)(Q:UOk ub9 ks fs i os)(nd:(sc.map (·.1)).Nodup)(S:Snd ks (fs.map (·.1)) f.1.2.2 m sc b)(ho:os[n]?=Z o)(e:b=t)(hA:Ask ks sc t o):
  ∃us fr sp,lH fs i n b us fr sp/\(∀u∈us,∃k,(u.1,k)∈sc/\FK ub9 ks u.2 k)/\∀p∈fr,ub9 (.t (p.1.map kT)):=by
 have one:∀{x:Str}{fam:Fam}{k:Str},(x,k)∈sc->FK ub9 ks fam k->∀u ∈ [(Prod.mk x fam)],∃k,(u.1,k)∈sc/\FK ub9 ks u.2 k:=λ{x fam k} h1 h2 u V=>by
  rw[fy.mp V];exact(k,h1,h2)
 have on1:∀{p:Fam×Int},ub9 (.t (p.1.map kT))->∀q ∈ [p],ub9 (.t (q.1.map kT)):=λ{p} h q hq=>by rw[fy.mp hq];exact h
 cases S <;> cases hA <;> first|exact absurd (congrArg tgT e) (Nat.ne_of_beq_eq_false rfl)|simp[OC,OD]at e
 ·rename_i hx _;exact(_,_,_,.give,one hx (Q.res i f hf),on1 (Q.lst i f hf))
 ·rename_i w c b hw _ _ _ _ _ _;obtain rfl|rfl:=hw
  ·exact(_,_,_,.pay,nofun,nofun)
  exact(_,_,_,.get,nofun,nofun)
 ·rename_i hy hx S _ _ _ _ ak;let(U,U,U):=e;obtain rfl:=iA nd hy ak;exact(_,_,_,.name,one hy (Q.pce n _ ho),nofun)
 ·rename_i x mm kd ns b K hm hF hx S _ _ aK _ _ EL aF;let(U,e1,e2,U):=e;obtain rfl:=EA hP.gk K EL hm aF e1;have hp:=Q.pce n _ ho;refine(_,_,_,.make (by rw[hF.1];exact(hP.gk.fl kd K mm hm).1),λu V=>?_,on1 (hp _ (yj K hm)));let(y,hy,U):=nR.mp V;let(l,hl,U):=ro hy;let(k,hk,hs):=Gu hF (fY hl);exact(k,hs,hp.fld hP.gk K hm (jk hk))
 ·rename_i x h ns b hh hF hx S _ _ _ _;let(g,hg,U):=nR.mp hh;let(j,hj,e1):=ro hg;have P:fs[j]?=Z g:=by rw[fY hj,e1]
  have l4:=(hP.pk g hg).1;refine(_,_,_,.call P (by rw[hF.1,dN];exact l4),λu V=>?_,on1 (Q.fst j g P));let(l,h1,h2):=N2 V;let(k,hk,hs):=Gu hF h1;rw[fZ]at hk;let(p,hp,U):=gV.mp hk;rw[h2,RC];exact(_,hs,Q.par j g l p P hp)
 rename_i x kd arms K aW hx h1 h2 x' k de ar;let(U,e1):=e;obtain rfl:=iA nd hx ar;exact(_,_,_,.case,one hx (Q.pce n _ ho),nofun)
theorem VO{b' am:L2.T}(hP:Prog ks fs)(hU:UOk ub9 ks fs i os)(nd:(sc.map (·.1)).Nodup)(K:Kid ks (fs.map (·.1)) sc b j b' am sc')(ho:os[n]?=Z o)(e:b=t)(hA:Ask ks sc t o):
  ∃fam fr,BrR fs i n b am fam fr/\(∀p∈sc'.drop sc.length,FK ub9 ks fam p.2)/\∀p∈fr,ub9 (.t (p.1.map kT)):=by
 have one:∀{x:Str}{fam:Fam}{k:Str},FK ub9 ks fam k->∀p∈(sc++[Prod.mk x k]).drop sc.length,FK ub9 ks fam p.2:=λ{x fam k} h p hp=>by
  rw[ZS]at hp;rw[fy.mp hp];exact h
 have on1:∀{p:Fam×Int},ub9 (.t (p.1.map kT))->∀q ∈ [p],ub9 (.t (q.1.map kT)):=λ{p} h q hq=>by rw[fy.mp hq];exact h
 cases K <;> cases hA <;> first|exact absurd (congrArg tgT e) (Nat.ne_of_beq_eq_false rfl)|simp[OC,OD]at e
 ·rename_i w c hw _ _ _ _;refine(_,_,.plain ?_ ?_,(λp hp=>by rw[aa1]at hp;cases hp),nofun)
  ·obtain rfl|rfl:=hw <;> decide
  obtain rfl|rfl:=hw <;> decide
 ·rename_i hy hx _ _ _ _ aF;let(U,U,U):=e;obtain rfl:=iA nd hy aF;exact(_,_,.plain ad ad,one (hU.pce n _ ho),nofun)
 ·rename_i x mm kd ns P hm hx _ _ a3 _ _ EL a0;let(U,e1,e2,U):=e;obtain rfl:=EA hP.gk P EL hm a0 e1;exact(_,_,.plain ad ad,one (hU.pce n _ ho),nofun)
 ·rename_i x h ns hh hx _ _ _ _;let(g,hg,U):=nR.mp hh;let(j',hj,e1):=ro hg;have Q:fs[j']?=Z g:=by rw[fY hj,e1]
  exact(_,_,.call Q,one (hU.res j' g Q),on1 (hU.lst j' g Q))
 rename_i x kd arms ar mm hx P aW hl hN ha hm x' k de aK;let(U,e1):=e;obtain rfl:=iA nd hx aK;have hp:=hU.pce n _ ho;have ak:=jk hm;have em:ar.1=mm.1:=by have:=congrArg (·[j]?) aW;simp only[fZ,ha,hm]at this;exact Option.some.inj this
 refine(_,_,.case,λp V=>?_,on1 ?_)
 ·rw[ZS]at V;exact hp.fld hP.gk P ak (Zm V).2
 rw[em];exact hp _ (yj P ak)
end
inductive Std(ks:ϕ)(fs:ϖ)(i:Nat)(f:Fn)(L:List Nod):Nod->Sd->Prop
 |root:Std ks fs i f L (rtN f) (Q8 i f)|kid{n j:Nat}{e:Nod}{d:Sd}{b am:L2.T}{sc:Sc}{us:List (Str×Fam)}{fr fr':dv}{sp:Int}{fam:Fam}:Std ks fs i f L e d->L[n]?=Z e->Kid ks (fs.map (·.1)) e.sc e.b j b am sc->lH fs i n e.b us fr sp->BrR fs i n e.b am fam fr'->Std ks fs i f L (IF n e j b am sc) ((d.wth us fr sp).bhd fam fr' sc)
structure SdG(ub9:ϔ)(ks:ϕ)(sc:Sc)(F H:Nat)(d:Sd):Prop where
 es:d.sc=sc
 hk:d.ho.map (·.1)=sc.map (·.1)
 fl:d.fr.length<=F
 hl:∀p∈d.ho,p.2.length<=H
 fm:∀p∈d.fr,ub9 (.t (p.1.map kT))
 hm:∀p∈d.ho,∀k,(p.1,k)∈sc->∀q∈p.2,FK ub9 ks q.1 k
theorem CA{i:Nat}{p:Str×dv}:∀{k:Nat},p∈xZ i k sc->∃l x,sc[l]?=Z (p.1,x)/\p.2=[([.inr "param",.inl (i:Int),.inl ((k+l:Nat):Int)],1)]:=by
 induction sc with
 |nil=>intro k h;cases h
 |cons y r g =>
  intro k h;obtain rfl|h:=lb.mp h
  ·exact(0,y.2,U,U)
  let(l,x,h1,h2):=g h;exact(l+1,x,(h1:),by rw[h2,show k+1+l=k+(l+1)by lia])
theorem MC:∀{ho:List (Str×dv)}{p:Str×dv},p∈us.foldl tN ho->∃g∈ho,g.1=p.1/\∀q∈p.2,q∈g.2\/∃u∈us,u.1=p.1/\q=(u.2,-1):=by
 induction us with
 |nil=>intro ho p h;exact(p,h,U,λq hq=>.inl hq)
 |cons u r Q =>
  intro ho p h;let(p1,h1,e1,h2):=Q h;let(g,h0,U):=nR.mp h1;refine(g,h0,?_,λq hq=>?_)
  ·rw[<- e1];split <;> rfl
  obtain z |⟨v,hv,P,K⟩:=h2 q hq
  ·split at z
   ·rename_i e;obtain z|z:=lN.mp z
    ·exact .inl z
    refine .inr (u,j4,?_,fy.mp z);rw[<- e1,if_pos e];exact e.symm
   exact .inl z
  exact .inr (v,j6 _ hv,P,K)
section
variable{ub9:ϔ}{ks:ϕ}{fs:ϖ}{i F H:Nat}{f:Fn}{os:ϗ}{sc:Sc}{d:Sd}
theorem SdG.root(z:Prog ks fs)(hf:fs[i]?=Z f)(g:UOk ub9 ks fs i os):SdG ub9 ks f.1.2.1 1 1 (Q8 i f) where
 es:=rfl
 hk:=yU
 fl:=mz _
 hl:=λp hp=>by let(l,x,_,h):=CA hp;rw[h];exact mz _
 fm:=λp hp=>by rw[fy.mp hp];exact g.fst i f hf
 hm:=λp hp k hk q hq=>by
  let(l,x,h1,h2):=CA hp;rw[h2,RC]at hq;rw[fy.mp hq];obtain rfl:=iA (z.pk f (jk hf)).2.2.1 hk (jk h1);exact g.par i f l _ hf h1
theorem SdG.wth{us:List (Str×Fam)}{fr:dv}{sp:Int}(g:SdG ub9 ks sc F H d)(nd:(sc.map (·.1)).Nodup)(h1:us.length<=4)(h2:fr.length<=1)(h3:∀u∈us,∃k,(u.1,k)∈sc/\FK ub9 ks u.2 k)(h4:∀p∈fr,ub9 (.t (p.1.map kT))):SdG ub9 ks sc (F+1) (H+4) (d.wth us fr sp) where
 es:=g.es
 hk:=md.trans g.hk
 fl:=by show(d.fr++fr).length<=_;have:=g.fl;rw[g5];lia
 hl:=λp hp=>by have:=Gp g.hl p hp;lia
 fm:=λp hp=>(lN.mp hp).elim (g.fm p) (h4 p)
 hm:=λp hp k hk q hq=>by
  let(K,m0,Q,h0):=MC hp;obtain z |⟨u,P,e1,rfl⟩:=h0 q hq
  ·exact g.hm K m0 k (by rw[Q];exact hk) q z
  let(k',h5,h6):=h3 u P;rw[e1]at h5;rw[iA nd hk h5];exact h6
theorem SdG.bhd{hs:List Hd}{b b' am:L2.T}{j:Nat}{sc':Sc}{fam:Fam}{fr:dv}(g:SdG ub9 ks sc F H d)(nd:(sc.map (·.1)).Nodup)(K:Kid ks hs sc b j b' am sc')(h1:1<=H)(h2:fr.length<=1)(h3:∀p∈sc'.drop sc.length,FK ub9 ks fam p.2)(h4:∀p∈fr,ub9 (.t (p.1.map kT))):SdG ub9 ks sc' (F+1) H (d.bhd fam fr sc') where
 es:=rfl
 hk:=by show(d.ho++(sc'.drop d.sc.length).map λp=>(Prod.mk p.1 [Prod.mk fam (1:Int)])).map (·.1)=_;rw[mu,g.hk,g.es,wH];have ex:=congrArg (List.map (·.1)) K.ext;rw[mu]at ex;exact ex.symm
 fl:=by show(d.fr++fr).length<=_;have:=g.fl;rw[g5];lia
 hl:=λp hp=>by
  obtain z|z:=lN.mp hp
  ·exact g.hl p z
  let(q,_,U):=nR.mp z;exact h1
 fm:=λp hp=>(lN.mp hp).elim (g.fm p) (h4 p)
 hm:=λp hp k hk q hq=>by
  have nn:=K.nd nd;have ex:=K.ext;obtain z|z:=lN.mp hp
  ·have hx:p.1∈sc.map (·.1):=by rw[<- g.hk];exact nR.mpr (p,z,U)
   let((x,k'),h5,P):=nR.mp hx;subst P;obtain rfl:=iA nn hk (by rw[ex];exact ui _ h5);exact g.hm p z _ h5 q hq
  let(r,hr,U):=nR.mp z;rw[g.es]at hr;rw[fy.mp hq];obtain rfl:=iA nn hk (by rw[ex];exact p7 _ hr);exact h3 r hr
end
theorem BrR.len{fs:ϖ}{i:Nat}{b am:L2.T}(h:BrR fs i n b am fam fr):fr.length<=1:=by cases h <;> simp
def SO(C:J)(ub9:ϔ)(ks:ϕ)(fs:ϖ)(i:Nat)(f:Fn)(L:List Nod)(e:Nod)(S:L2.T):Prop:=∃d,IsS C i S d/\Std ks fs i f L e d/\SdG ub9 ks e.sc (1+2*e.pa.length) (1+4*e.pa.length) d
theorem IsS.im{C:J}{i:Nat}{S:L2.T}{d:Sd}(h:IsS C i S d):S.im=true:=by cases h;rfl
theorem Good.p88{fs:ϖ}{f:Fn}(g:Good ks fs f e):e.pa.length<=92:=by let(N,h,_):=g.dp;lia
def nums(e:Nod)(n:Nat):List Nat:=e.pa.map (·.1)++[n]
inductive Stp(ks:ϕ)(hs:List Hd)(L:List Nod):Nat->Nat->Prop
 |mk{m m2:Nat}{e1:Nod}{j:Nat}{b am:L2.T}{sc:Sc}:L[m]?=Z e1->L[m2]?=Z (IF m e1 j b am sc)->Kid ks hs e1.sc e1.b j b am sc->Stp ks hs L m m2
theorem chn(P:bx ks hs 0 [d] L)(h0:d.pa=[]):∀(n:Nat)(e:Nod),L[n]?=Z e->(∃m0,(nums e n)[0]?=Z m0/\L[m0]?=Z d)/\∀c m m2,(nums e n)[c]?=Z m->(nums e n)[c+1]?=Z m2->Stp ks hs L m m2:=by
 intro n;induction n using Nat.strongRecOn with
 |ind n ih =>
  intro e he;obtain⟨j,Q,_⟩|⟨p,g,cs,j,hp,q,V,hc⟩:=P.from _ rfl n e he
  ·have:e=d:=by
    cases j with
    |zero=>cases Q;rfl
    |succ j=>simp at Q
   subst this;have en:nums e n=[n]:=by unfold nums;rw[h0];rfl
   rw[en];exact((n,U,he),λc m m2 _ h2=>by simp at h2)
  rw[RC]at V;let(e3,iK):=V.ok j _ hc;let((m0,i1,i2),i3):=ih p hp g q;have en:nums e n=nums g p++[n]:=by unfold nums;rw[show e.pa=g.pa++[(p,g.b,j)]from congrArg Nod.pa e3];simp
  have ll:(nums g p).length=g.pa.length+1:=by unfold nums;simp
  have la:(nums g p)[g.pa.length]?=Z p:=by unfold nums;rw[u6 ba];simp
  rw[en];refine((m0,by rw[u4 bd];exact i1,i2),λc m m2 h1 h2=>?_);by_cases K:c+1<(nums g p).length
  ·rw[u4 bd]at h1;rw[u4 K]at h2;exact i3 c m m2 h1 h2
  have z:=(gs.mp h2).1;rw[g5,yd]at z;have ec:c=g.pa.length:=bd;subst ec;rw[u4 bd,la]at h1;rw[u6 bd,show g.pa.length+1-(nums g p).length=0 by omega]at h2;cases h1;cases h2;exact .mk q (e3▸he) iK
inductive HS(C:J)(ts:ϑ)(Q:ϔ):Prop
 |mk (ks:ϕ) (fs:ϖ) (i n:Nat) (f:Fn) (L:List Nod) (e:Nod) (h1:ts=[tPr ks fs,iN i,iN n]) (h2:Prog ks fs) (h3:fs[i]?=Z f) (h4:Pre ks (fs.map (·.1)) 0 (rtN f) L) (h5:L.length<=50000) (h6:L[n]?=Z e) (h7:∀S,SO C (λ_=>True) ks fs i f L e S->Q S)
theorem N4{fs:ϖ}{i:Nat}:UOk (λ_=>True) ks fs i os:=(λ_ _ _ _ _ _ _ _=>trivial,λ_ _ _=>trivial,λ_ _ _=>trivial,λ_ _ _ _ _=>trivial,λ_ _ _ _ _=>trivial)
theorem BM(T:Txt K mg a):aP P w K mg base CX0 6 a.jN a.v9 ["program","f","n"] (spQ K (HS a.aW)):=by
 refine T.wZ.F.okQ cK (λ_ _ _ _ _ _ hr=>?_);have hu:=bj hr;refine(_,_,((ag (az 3 cK.nd (aI (oX T) hr T.qw (ae (ao (ao (ao (qv 0) ah) (qv 1)) ah) aw)))
(ag (az 4 cK.nd (aI (UR T) hr T.SU (ae (ao (ao (ao (qv 0) ah) (qv 1)) ah) (ae (qv 2) aw))))
(ag (az 5 cK.nd (aI (oW T) hr T.jo (ae (qv 0) (ae (qv 1) aw))))
(ag (bH (g:=(Tg.tp [6,7])) PassesOwn.never U (ON (i:=4) U T.SH bv (pv 4) (bK (qv 4) (bM ah) cN)) (eV (br 6 cK.nd) (br 7 cK.nd))
(ag (az 8 cK.nd (XL (bz T.c9 T.dR (ao (qv 3) (qv 6)))))
(aj (az 5 cK.nd (aI (tj T) hr T.lQ (ae (qv 0) (ae (qv 6) (ae (qv 8) (ae (bz T.c9 T.kU (ao (qv 3) (qv 7))) (ae (ZB (aI (xy T) hr T.qm (ae (qv 0) (ae (qv 6) (ae (qv 8) (ae (qv 5) aw)))))) aw))))))))))
(aj (aC (XL (qv 5))))))))),λts Q h=>?_)
 let(ks,fs,i,n,f,L,e,U,hP,hf,hR,hL,he,hq):=h;have aF:bx ks (fs.map (·.1)) 0 [rtN f] L:=by have:=bx.cons hR (.nil);rwa [pq]at this
 have bG:=jk hf;have G:=yG hP bG aF;have SN:=Od hP bG aF;have ef:atI (fs.map tF) (i:Int)=Z (tF f):=bu (by rw[fZ,hf];rfl);let((m0,c1,c2),c3):=chn aF U n e he;refine(_,U,_,ef,_,U,ks,fs.map (·.1),rtN f,L,U,U,U,hR,hL,?_);refine(_,U,_,ef,_,U,ks,fs.map (·.1),rtN f,L,n,e,U,U,U,U,hR,hL,he,?_);refine(ks,fs,i,f,U,hP,hf,λS hS=>?_);have cl:((nums e n).map iN).length=e.pa.length+1:=by unfold nums;simp
 have p88:=(G e (jk he)).p88;have ec:fw ((nums e n).map iN) (Z 1) Y=((nums e n).drop 1).map iN:=by unfold fw;rw[show(1:Int)=((1:Nat):Int)from U,HT.oC,HT.vf,QL bd,<- aa2,Z7 (by rw[dN,Ry,<- dN (f:=iN)];omega)]
 refine(aY (λ_=>rfl) _,?_);show Yd _ _ _ (sY ((nums e n).map iN) (fw ((nums e n).map iN) (Z 1) Y)) _;rw[ec];refine(λc q=>Ea6 λ(S:L2.T)(m:Nat)(e1:Nod)(o6 o7 o8:Sl)=>q=[.r (tPr ks fs),.r (iN i),.r (iN n),.o (.l (L.map (spN a.aK))),.r (.l ((nums e n).map iN)),.o S,o6,o7,o8]/\(nums e n)[c]?=Z m/\L[m]?=Z e1/\SO a.aW (λ_=>True) ks fs i f L e1 S,(S,m0,_,_,_,_,U,c1,c2,(_,hS,.root,.root hP hf (N4 (os:=[])))),?_,?_)
 ·rintro c y q hy ⟨S,m,V,o6,o7,o8,rfl,hm,z,d,hd,hs,hg⟩;let(x1,y1,bc,a9,U):=Ft hy;rw[fZ]at bc a9;let(m',bA,U):=gV.mp bc;let(m2,a4,U):=gV.mp a9;rw[hm]at bA;cases bA;rw[List.getElem?_drop,Nat.add_comm]at a4;rcases c3 c m m2 hm a4 with @⟨e1, j, eb, bP, a6, q1, q2, iK⟩;rw[z]at q1;cases q1;have a0:=jk z;have g':=G V a0;let(mm,a5):=SN V a0;let(o,hk):=aF.asks _ U V a0;have ho:(rY (m+1) o)[m]?=Z o:=by simp
  let(us,fr,sp,u1,u2,u3):=JD hP hf (N4 (i:=i) (os:=rY (m+1) o)) g'.nd a5 ho U hk;let(fam,fr',b1,b2,b3):=VO hP (N4 (i:=i) (os:=rY (m+1) o)) g'.nd iK ho U hk;let(l1,l2):=u1.len;have p88:=g'.p88;have ar:=hg.wth (sp:=sp) g'.nd l1 l2 u2 u3;have ak:=ar.bhd g'.nd iK bd b1.len b2 b3;have a2:atI (L.map (spN a.aK)) (m:Int)=Z (spN a.aK V):=bu (by rw[fZ,z];rfl);have a3:atI (L.map (spN a.aK)) (m2:Int)=Z (spN a.aK (IF m V j eb bP a6)):=bu (by rw[fZ,q2];rfl);have lim:=g'.lim;have key:d.ho.length=V.sc.length:=(congrArg CP hg.hk:);refine(_,U,_,a2,U,ad,_,U,a5.im,_,a3,U,ad,_,U,?_);refine(ks,fs,i,m,V.b,S,d,us,fr,sp,U,hP,a5.im,hd,u1,λu hu=>?_,(?_,?_,λq hq=>?_,?_),λS2 bT=>?_)
  ·let(k,h1,_):=u2 u hu;rw[hg.hk];exact nR.mpr (_,h1,U)
  ·rw[hg.hk];exact g'.nd
  ·have:=hg.fl;omega
  ·have:=hg.hl q hq;omega
  ·omega
  have w1:(d.wth us fr sp).sc=V.sc:=ar.es;refine(ks,fs,i,m,j,V.b,eb,bP,S2,d.wth us fr sp,a6,fam,fr',U,hP,bT,by rw[w1];exact iK,b1,by rw[w1];exact g'.nd,by rw[w1];exact g'.sk,by rw[w1];exact ar.hk,by rw[w1];omega,by have:=ar.fl;omega,λS3 bQ=>?_);refine(S3,m2,_,_,_,_,U,a4,q2,_,bQ,.kid hs z iK u1 b1,?_);show SdG _ ks a6 (1+2*(V.pa++[Prod.mk m (Prod.mk V.b j)]).length) (1+4*(V.pa++[Prod.mk m (Prod.mk V.b j)]).length) _;rw[g5];exact(ak.es,ak.hk,by have:=ak.fl;simp;omega,λq hq=>by have:=ak.hl q hq;simp;omega,ak.fm,ak.hm)
 rintro q ⟨S,m,V,o6,o7,o8,rfl,hm,z,hA⟩;have lz:(sY ((nums e n).map iN) (((nums e n).drop 1).map iN)).length=e.pa.length:=by rw[uH,dN,dN,Ry,<- dN (f:=iN),cl];omega
 rw[lz]at hm;have:(nums e n)[e.pa.length]?=Z n:=by unfold nums;rw[u6 ba];simp
 rw[this]at hm;cases hm;rw[he]at z;cases z;let(d,hd,_):=id hA;exact(hd.im,hq S hA)
def ldP(p:L2.T×L2.T):L2.T:=.t [p.1,p.2]
inductive Uz(ts:ϑ)(Q:ϔ):Prop
 |mk(ks:ϕ)(fs:ϖ)(i:Nat)(f:Fn)(L:List Nod)(h1:ts=[tPr ks fs,iN i])(h2:Prog ks fs)(h3:fs[i]?=Z f)(h4:Pre ks (fs.map (·.1)) 0 (rtN f) L)(h5:L.length<=50000)(h6:∀X:List (L2.T×L2.T),X.map (·.1)=L.map (·.b)->(∀p∈X,p.2.im=O)->Q (.l (X.map ldP)))
theorem sE(T:Txt K mg a):aP P w K mg base CX0 6 a.jQ a.we ["program","f"] (spQ K Uz):=by
 refine T.nW.F.okQ Bk (λ_ _ _ _ _ _ hr=>?_);have hu:=bj hr;refine(_,_,((aj (aC (cu U (KN U T.bQ bv (ae (ZB (aI (yB T) hr T.w6 (ae (ao (ao (ao (qv 0) ah) (qv 1)) ah) aw))) aw)) (N':=["n",We,"f"]) (.own U (.own U (.got (i:=1) U U (.inl U) .nil))) (cg (g:=(Tg.tp [0,1])) (λ_ _ _ _ _=>((eV (dh 0) (dh 1)),(aq (af (XL (qv 1)) (af (aq (af (aq (af (aq (af aE (af (XL (qv 2)) (af (XL (qv 0)) ai)))) (af bF ai))) ai)) ai)))))))))),λts Q h=>?_);let(ks,fs,f,fn,L,U,hP,hf,hR,hL,hq):=h;have ar:bx ks (fs.map (·.1)) 0 [rtN fn] L:=by have:=bx.cons hR (.nil);rwa [pq]at this
 have ef:atI (fs.map tF) (f:Int)=Z (tF fn):=bu (by rw[fZ,hf];rfl);refine(_,U,_,ef,_,U,ks,fs.map (·.1),rtN fn,L,U,U,U,hR,hL,?_);have pl:(L.map (·.b)).length=L.length:=dN ..;refine(c8 (by rw[bC,pl];omega),λi ys=>∃X:List (L2.T×L2.T),ys=X.map ldP/\X.map (·.1)=(L.map (·.b)).take i/\∀p∈X,p.2.im=O,([],U,U,nofun),?_,?_)
 ·rintro i y ys hy ⟨X,rfl,hX,V⟩;let(z,hz,U):=cT hy;have ak:=hz;rw[fZ]at hz;let(x,hx,U):=gV.mp hz;refine(_,U,ar.ims x (jk hx),U,U,X++[(x.b,.t [.t [.t [.s "piece",iN f,iN i],.i 1]])],by rw[mu];rfl,?_,λp hp=>?_)
  ·rw[mu,hX,rr,ak];rfl
  obtain q|q:=lN.mp hp
  ·exact V p q
  rw[fy.mp q];rfl
 rintro ys ⟨X,rfl,hX,V⟩;rw[bC,pl,Z7 (by rw[pl];exact mz _)]at hX;exact hq X hX V
def In(k n:Int):Prop:=0<=k/\k<n
def Yb(L:List Nod)(Q:ϔ):Prop:=∀X:List (L2.T×L2.T),X.map (·.1)=L.map (·.b)->(∀p∈X,p.2.im=O)->Q (.l (X.map ldP))
theorem MY{x y:Int}{qa qb qc:QE}(V:∀R,R (.i x)->qa q R)(P:∀R,R (.i y)->qb q R)(K:∀R,R (.i z)->qc q R)(h1:¬(x<=y/\y<z)->Q O)(h2:x<=y/\y<z->Q ϊ):
  OZ (eI (kN (qI0 λi j=>L2.T.b (decide (i<=j))) (qI0 λi j=>L2.T.b (decide (i<j))) qa qb qc)) q Q:=by
 unfold OZ eI kN;refine V _ (P _ ?_);show(if decide (x<=y)=O then _ else _);by_cases g:x<=y
 ·rw[if_pos (decide_eq_true g)];refine K _ ?_;show Q (!decide (y<z));by_cases g2:y<z
  ·rw[decide_eq_true g2];exact h2 (g,g2)
  rw[decide_eq_false g2];exact h1 λz=>g2 z.2
 rw[if_neg (by rw[decide_eq_false g];decide)];exact h1 λz=>g z.1
inductive UA(a:Adr)(ts:ϑ)(Q:ϔ)(W:QW):Prop
 |mk(ks:ϕ)(fs:ϖ)(f n:Int)(h1:ts=[tPr ks fs,.i f,.i n])(h2:Prog ks fs)(h3:(¬ In f fs.length->W a.a9 [] []))(h4:∀(i:Nat)(fn:Fn),f=(i:Int)->fs[i]?=Z fn->∃L,Pre ks (fs.map (·.1)) 0 (rtN fn) L/\L.length<=50000/\(¬ In n L.length->W a.a9 [] [])/\(In n L.length->Yb L Q))
theorem jI(T:Txt K mg a):aP P w K mg base (CX1 P w) 7 a.ib a.sO ["program","f","n"] (m7 K (UA a)):=by
 refine T.ip.F.xA oy (λts Q W h=>?_) (λ_ _ _ _ _ _ hr=>?_)
 ·let(ks,fs,f,n,U,_):=h;rfl
 have hu:=bj hr;refine(_,_,((aT (gL (DQ (vi LJ (iz (g':=λi j=>.b (decide (i<=j))) λ_ _ _ _=>.b _) FZ (iz (g':=λi j=>.b (decide (i<j))) λ_ _ _ _=>.b _) ah (qv 1) (ZB (bq T.bP (ae (ao (qv 0) ah) aw)))))
(a8 (fI U U T.dj T.gF U T.fL))
(lZ aA))
(aT (cn (az 3 oy.nd (aI (sE T) hr T.nW (ae (qv 0) (ae (qv 1) aw)))))
(aT (gL (DQ (vi LJ (iz (g':=λi j=>.b (decide (i<=j))) λ_ _ _ _=>.b _) FZ (iz (g':=λi j=>.b (decide (i<j))) λ_ _ _ _=>.b _) ah (qv 2) (ZB (bq T.bP (ae (qv 3) aw)))))
(a8 (fI U U T.dj T.gF U T.fL))
(lZ aA))
(a8 (cn (fN (i:=3) (pv 3)))))))),λts Q W h=>?_)
 let(ks,fs,f,n,U,hP,ho,hi):=h;have lf:((fs.map tF).length:Int)=fs.length:=by rw[dN]
 refine MY (x:=0) (y:=f) (z:=((fs.map tF).length:Int)) (λ_ h=>h) (λ_ h=>h) (λR h=>(_,U,h)) (λhn=>ho (by rw[lf]at hn;exact hn)) λhf=>?_;rw[lf]at hf;let(i,U):=Fd hf.1;have g:i<fs.length:=by have:=hf.2;omega
 let(L,hR,hL,h1,h2):=hi i _ U (fY g);refine(ks,fs,i,_,L,U,hP,fY g,hR,hL,λX hX V=>?_);have lX:((X.map ldP).length:Int)=L.length:=by have:=congrArg CP hX;rw[dN,dN]at this;rw[dN,this]
 exact id (MY (x:=0) (y:=n) (z:=((X.map ldP).length:Int)) (qa:=qC (.i 0)) (qb:=aQ 2) (qc:=qCB Bw (aH (aQ 3) cH)) (q:=[.r (tPr ks fs),.r (.i (i:Int)),.r (.i n),.o (.l (X.map ldP))]) (Q:=λb=>if b=O then W a.a9 [] []else Q (.l (X.map ldP))) (λ_ h=>h) (λ_ h=>h) (λR h=>h) (λhn=>h1 (by rw[lX]at hn;exact hn)) λhn=>h2 (by rw[lX]at hn;exact hn) X hX V)
structure At(ks:ϕ)(fs:ϖ)(f n:Int)(i m:Nat)(fn:Fn)(L:List Nod)(e:Nod):Prop where
 ef:f=(i:Int)
 en:n=(m:Int)
 hf:fs[i]?=Z fn
 hR:Pre ks (fs.map (·.1)) 0 (rtN fn) L
 hL:L.length<=50000
 he:L[m]?=Z e
def Out(ks:ϕ)(fs:ϖ)(f n:Int):Prop:=¬ In f fs.length\/∃(i:Nat)(fn:Fn)(L:List Nod),f=(i:Int)/\fs[i]?=Z fn/\Pre ks (fs.map (·.1)) 0 (rtN fn) L/\L.length<=50000/\¬ In n L.length
theorem Em{fs:ϖ}{f n:Int}{Q:ϔ}{W:QW}(K:Prog ks fs)(h:Out ks fs f n)(q:W a.a9 [] []):UA a [tPr ks fs,.i f,.i n] Q W:=by
 obtain h |⟨i,fn,L,rfl,hf,hR,hL,hn⟩:=h
 ·exact(ks,fs,f,n,U,K,λ_=>q,λi fn e hf=>absurd (bd,by have:=(gs.mp hf).1;omega) h)
 refine(ks,fs,i,n,U,K,λ_=>q,λP V e g=>?_);obtain rfl:i=P:=bd;cases hf.symm.trans g;exact(L,hR,hL,λ_=>q,λz=>absurd z hn)
theorem L5{fs:ϖ}{f n:Int}{i:Nat}{fn:Fn}{Q:ϔ}{W:QW}(K:Prog ks fs)(h:At ks fs f n i m fn L e)(hq:Yb L Q):UA a [tPr ks fs,.i f,.i n] Q W:=by let(U,U,hf,hR,hL,he):=h;have hi:=(gs.mp hf).1;have hm:=(gs.mp he).1;refine(ks,fs,i,m,U,K,λz=>absurd (bd,bd) z,λq P e g=>?_);obtain rfl:i=q:=bd;cases hf.symm.trans g;exact(L,hR,hL,λz=>absurd (bd,bd) z,λ_=>hq)
def V7(ks:ϕ)(fs:ϖ)(f n:Int):Prop:=Out ks fs f n\/∃(i m:Nat)(fn:Fn)(L:List Nod)(e:Nod)(w:Str)(r:ϑ),At ks fs f n i m fn L e/\e.b=.t (.s w::r)/\w ≠ "call"
inductive Lp(a:Adr)(ts:ϑ)(_Q:ϔ)(W:QW):Prop
 |mk(ks:ϕ)(fs:ϖ)(f n:Int)(h1:ts=[tPr ks fs,.i f,.i n])(h2:Prog ks fs)(h3:V7 ks fs f n)(h4:W a.a9 [] [])
theorem L7{X:List (L2.T×L2.T)}(g:X.map (·.1)=L.map (·.b))(he:L[m]?=Z e):∃s,atI (X.map ldP) (m:Int)=Z (ldP (e.b,s)):=by
 have:(X.map (·.1))[m]?=Z e.b:=by rw[g,fZ,he];rfl
 rw[fZ]at this;let(p,hp,q):=gV.mp this;exact(p.2,bu (by rw[fZ,hp,<- q];rfl))
theorem bE{x:L2.T}{l:ϑ}:atI (x::l) 0=Z x:=bu (xs:=x::l) (j:=0) U
theorem gp(T:Txt K mg a):aP P w K mg base (CX1 P w) 8 a.cR a.gU ["program","f","n"] (m7 K (Lp a)):=by
 have yh:aP P w K mg base CX0 1 a.fV a.mP ["program","f","g"] (spQ K i6):=cQ;have wK:aP P w K mg base CX0 1 a.lr a.wg ["laid","n"] (spQ K i6):=cQ;have pX:aP P w K mg base CX0 1 a.lj a.wb ["new","old","source"] (spQ K i6):=cQ;have rW:aP P w K mg base CX0 1 a.jf a.rL [We,"called"] (spQ K i6):=cQ;refine T.eC.F.xA aN (λts Q W h=>?_) (λ_ _ _ _ _ _ hr=>?_)
 ·let(ks,fs,f,n,U,_):=h;rfl
 have hu:=bj hr;refine(_,_,((aT (zL (i:=3) aN.nd U (Or.inl U) (nt (jI T) hr T.ip (ae (qv 0) (ae (qv 1) (ae (qv 2) aw)))))
(aT (cn (az 4 aN.nd (XL (ao (ao (qv 3) (qv 2)) ah))))
(aT (gL (bD FY zu (bW _) (ao (qv 4) ah) (ZB aE))
(a8 (fI U U T.dj T.gF U T.fL))
(lZ aA))
(aT (cn (az 5 aN.nd (aI (fc T) hr T.eU (ae (ao (qv 0) ah) (ae (ao (qv 4) ah) aw)))))
(aT (cn (az 6 aN.nd (aI yh hr T.yi (ae (qv 0) (ae (qv 1) (ae (qv 5) aw))))))
(aT (cn (az 7 aN.nd (aI wK hr T.CZ (ae (qv 3) (ae (qv 2) aw)))))
(aT (cn (az 8 aN.nd (bK (qv 3) cN (bM (qv 2)))))
(aT (cn (bH (g:=(Tg.tp [9,10])) PassesOwn.leaving U (ud U T.bQ bv (ae (ao (ao (ao (qv 0) ah) (qv 5)) ah) aw)) (eV (br 9 aN.nd) (br 10 aN.nd))
(aj (bh (i:=8) (pv 8) (aI pX hr T.xa (ae (ao (qv 6) (ao (qv 10) ah)) (ae (ao (ao (qv 4) ah) (qv 9)) (ae (ZB (aq (af (aq (af (aq (af aE (af (XL (qv 5)) (af (XL (qv 9)) ai)))) (af bF ai))) ai))) aw))))))))
(aT (cn (bH (g:=(Tg.tp [11,12])) PassesOwn.leaving U (iI (aI (sE T) hr T.nW (ae (qv 0) (ae (qv 5) aw)))) (eV (br 11 aN.nd) (br 12 aN.nd))
(aj (aS (bf hu (ao (qv 11) ah) (ZB aE))
(ag (bh (i:=8) (pv 8) (aI pX hr T.xa (ae (ao (qv 4) ah) (ae (ao (qv 6) (ao (qv 11) ah)) (ae (ZB (aq (af (aq (af (aq (af aE (af (XL (qv 5)) ai))) (af bF ai))) ai))) aw)))))
(aj (cG (i:=8) (pv 8) (bK (qv 3) (bM (ZB (aV (qv 2) ah))) (bM (qv 7))))))
(aj (bh (i:=8) (pv 8) (aq (af (aI rW hr T.y4 (ae (qv 11) (ae (qv 6) aw))) (af (XL (qv 12)) ai)))))))))
(a8 (cn (aC (aV (qv 8) (ZB (bK (qv 3) (bM (qv 7)) cN)))))))))))))))),λts Q W h=>?_)
 let(ks,fs,f,n,U,hP,hB,hW):=h;obtain hO |⟨i,m,fn,L,e,wd,r,V,eb,ak⟩:=hB
 ·exact Em hP hO hW
 refine L5 hP V λX hX aF=>?_;let(s,es):=L7 hX V.he;have ar:bx ks (fs.map (·.1)) 0 [rtN fn] L:=by have:=bx.cons V.hR (.nil);rwa [pq]at this
 have q:=ar.ims e (jk V.he);obtain rfl:=V.en;rw[eb]at es q;exact(_,es,_,U,q,_,bE,U,ay (λ_=>hW) λz=>absurd (nf ak) z)
inductive UsN:L2.T->Γ->Prop
 |give{x:Str}:UsN (.t [.s "give",.s x]) [x]|bJ{w:Str}{c:Int}{b:L2.T}:(w="pay" \/ w="get")->UsN (.t [.s w,.i c,b]) []|name{x y:Str}{b:L2.T}:UsN (.t [.s "name",.s x,.s y,b]) [y]|use{w x m:Str}{ns:Γ}{b:L2.T}:(w="make" \/ w="call")->UsN (.t [.s w,.s x,.s m,.t (ns.map .s),b]) ns|case{x:Str}{arms:List Arm}:UsN (.t [.s "case",.s x,.t (arms.map tA)]) [x]
inductive StB(x:Str):ϔ
 |give{y:Str}:StB x (.t [.s "give",.s y])|uses{b:L2.T}{us:Γ}:UsN b us->x∈us->StB x b
inductive Nf:ϔ
 |no{w:Str}{r:ϑ}:w ≠ "make"->w ≠ "name"->Nf (.t (.s w::r))|yes{w x:Str}{b:L2.T}{r:ϑ}:(w="make" \/ w="name")->StB x b->subs (.t (.s w :: .s x::r))=[(b,.n)]->Nf (.t (.s w :: .s x::r))
def V6(ks:ϕ)(fs:ϖ)(f n:Int):Prop:=Out ks fs f n\/∃(i m:Nat)(fn:Fn)(L:List Nod)(e:Nod),At ks fs f n i m fn L e/\Nf e.b
inductive Lo(a:Adr)(ts:ϑ)(_Q:ϔ)(W:QW):Prop
 |mk(ks:ϕ)(fs:ϖ)(f n:Int)(h1:ts=[tPr ks fs,.i f,.i n])(h2:Prog ks fs)(h3:V6 ks fs f n)(h4:W a.a9 [] [])
theorem RO{as bs:Γ}(h:as.map ϙ=bs.map ϙ):as=bs:=(List.map_inj_right λ_ _ z=>L2.T.s.inj z).mp h
theorem S7:∀{k:Nat},(usP j k ns).map (·.1)=ns:=by
 induction ns with
 |nil=>intro k;rfl
 |cons q r g=>intro k;show q ::(usP j (k+1) r).map (·.1)=_;rw[g]
theorem UsN.of{fs:ϖ}{i:Nat}{b b':L2.T}(h:lH fs i n b us fr sp)(u:UsN b' xs)(e:b=b'):us.map (·.1)=xs:=by
 cases h <;> cases u <;> simp[OC,OD]at e
 ·obtain rfl:=e;rfl
 ·rfl
 ·rfl
 ·let(_,U,_):=e;rfl
 ·let(_,_,_,h,_):=e;rw[wH];exact(List.map_id' _).trans (RO h)
 ·let(_,_,_,h,_):=e;exact S7.trans (RO h)
 let(U,_):=e;rfl
theorem UsN.hd{b:L2.T}(u:UsN b xs):∃w r,b=.t (.s w::r):=by cases u <;> exact(_,_,U)
theorem wB{x y:L2.T}{l:ϑ}:atI (x::y::l) 1=Z y:=bu (xs:=x::y::l) (j:=1) U
theorem Tc{i:Nat}{w:Str}{r:ϑ}(h:q[i]?=Z (.o (.t (.s w::r))))(h3:w="make" \/ w="name")(hq:Q ϊ):
  O3 (eI (qOp qNe (qOp qIx (aQ i) (qC (.i 0))) (qC (.s "make")))) (eI (qOp qNe (qOp qIx (aQ i) (qC (.i 0))) (qC (.s "name")))) q Q:=by
 unfold O3 eI qOp aQ;rw[h];refine(_,bE,U,ay (λz=>?_) λ_=>hq);obtain e|e:=h3
 ·subst e;exact absurd z bn
 subst e;refine(_,bE,U,?_);rw[show(!decide ((ϙ "name").v=(ϙ "name").v))=ϊ from by rw[decide_eq_true rfl];rfl];exact hq
theorem bx.nxt:∀(k:Nat){n:Nat}{ds M:List Nod},M.length=k->bx ks hs n ds M->∀(m:Nat)(e:Nod)(b am:L2.T)(rest:List (L2.T×L2.T)),M[m]?=Z e->subs e.b=(b,am)::rest->∃q,M[m+1]?=Z q/\q.b=b:=by
 intro k;induction k with
 |zero =>
  intro n ds M hl h m e b am rest hm;rw[uG.mp hl]at hm;simp at hm
 |succ k z =>
  intro n ds M hl h m e b am rest hm hs;cases ds with
  |nil=>cases h;simp at hl
  |cons Q ds =>
   let(cs,V,hk,U,h2):=h.pop;cases m with
   |zero =>
    cases hm;have g:=hk.su;rw[hs]at g;cases cs with|nil=>simp at g|cons c cs =>let(K,P,_,U,_):=h2.pop;rw[AZ,List.cons.injEq]at g;exact(c,U,congrArg Prod.fst g.1)
   |succ m=>exact z (n:=n+1) (hl:) h2 m e b am rest (hm:) hs
theorem mG(T:Txt K mg a):aP P w K mg base (CX1 P w) 8 a.gC a.pM ["program","f","n"] (m7 K (Lo a)):=by
 have rZ:aP P w K mg base CX0 1 a.dC a.jj ["laid","n"] (spQ K i6):=cQ;refine T.kb.F.xA cD (λts Q W h=>?_) (λ_ _ _ _ _ _ hr=>?_)
 ·let(ks,fs,f,n,U,_):=h;rfl
 have hu:=bj hr;refine(_,_,((aT (zL (i:=3) cD.nd U (Or.inl U) (nt (jI T) hr T.ip (ae (qv 0) (ae (qv 1) (ae (qv 2) aw)))))
(aT (cn (az 4 cD.nd (XL (ao (ao (qv 3) (qv 2)) ah))))
(aT (gL (QPW.pt (qR (bD FY zu (bW _) (ao (qv 4) ah) (ZB aE)) (lV (bD FY zu (bW _) (ao (qv 4) ah) (ZB aE)))))
(a8 (fI U U T.dj T.gF U T.fL))
(lZ aA))
(aT (cn (az 5 cD.nd (XL (ao (ao (qv 3) (ZB (aV (qv 2) ah))) ah))))
(aT (gL (QPW.pt (KD (bf hu (ao (qv 5) ah) (ZB aE)) (KC (bD (jH U) gH U (ao (qv 4) ah) (ZB (cu U (l5 (ZB (aI (F6 T) hr T.Fj (ae (qv 0) (ae (qv 1) (ae (ZB (aV (qv 2) ah)) (ae (qv 5) aw))))))) (N':=["name","family"]) (.own U (.own U .nil)) (cg (g:=(Tg.tp [0,1])) (λ_ _ _ _ _=>((eV (dh 0) (dh 1)),(XL (qv 0)))))))))))
(a8 (fI U U T.dj T.gF U T.fL))
(lZ aA))
(aT (cn (az 6 cD.nd (aI rZ hr T.sg (ae (qv 3) (ae (ZB (aV (qv 2) ah)) aw)))))
(aT (cn (az 7 cD.nd (bK (qv 3) cN (bM (qv 2)))))
(aT (cn (bH (g:=(Tg.nm 8)) PassesOwn.leaving U (HQ U T.fB (ae (ZB (aV (qv 2) ah)) (ae (ZB (bq T.bP (ae (qv 3) aw))) aw))) (br 8 cD.nd)
(ag (aS (bD (jH U) gH U (qv 8) (qv 6))
(aj (bh (i:=7) (pv 7) (XL (ao (qv 3) (qv 2)))))
aA)
(aj (bh (i:=7) (pv 7) (XL (ao (qv 3) (qv 8))))))))
(a8 (cn (aC (XL (qv 7)))))))))))))),λts Q W h=>?_)
 let(ks,fs,f,n,U,hP,hB,hW):=h;obtain hO |⟨i,m,fn,L,e,V,hS⟩:=hB
 ·exact Em hP hO hW
 refine L5 hP V λX hX aK=>?_;let(s,es):=L7 hX V.he;have q:bx ks (fs.map (·.1)) 0 [rtN fn] L:=by have:=bx.cons V.hR (.nil);rwa [pq]at this
 have ak:=q.ims e (jk V.he);have hL:∀{b am:L2.T}{rest:List (L2.T×L2.T)},subs e.b=(b,am)::rest->∃s',atI (X.map ldP) ((m:Int)+1)=Z (ldP (b,s'))/\b.im=O/\∃us fr sp,lH fs i (m+1) b us fr sp:=λ{b am rest} h=>by
  let(e',h1,U):=q.nxt _ U m e b am rest V.he h;let(s',h2):=L7 hX h1;have hm:=jk h1;refine(s',by rw[show(m:Int)+1=((m+1:Nat):Int)by omega];exact h2,q.ims e' hm,?_);have g':=yG hP (jk V.hf) q e' hm;let(mm,ar):=Od hP (jk V.hf) q e' hm;let(o,hk):=q.asks _ U e' hm;let(us,fr,sp,u1,_):=JD (n:=m+1) hP V.hf (N4 (i:=i) (os:=rY (m+2) o)) g'.nd ar ba U hk;exact(us,fr,sp,u1)
 obtain rfl:=V.en;generalize e.b=b at es ak hL hS;let(U,_):=V;cases hS with
 |no h1 h2=>exact(_,es,_,U,ak,_,bE,U,ay (λ_=>(_,bE,U,ay (λ_=>hW) (λz=>absurd (nf h2) z))) (λz=>absurd (nf h1) z))|@yes w x b r hw hS As =>
  let(s',e2,aF,us,fr,sp,hU):=hL As;refine(_,es,_,U,ak,?_);dsimp only;refine Tc (i:=4) U hw (ay (λz=>absurd z ad) λ_=>?_);refine(_,e2,_,U,aF,?_);cases hS with
  |give=>exact(_,bE,U,ay (λ_=>ay (λ_=>hW) λz=>absurd U z) λz=>absurd (st U) z)|uses u hx =>
   have eu:=UsN.of hU u U;let(w',r',U):=u.hd;refine(_,bE,U,ay (λz=>ay (λ_=>hW) λy=>absurd U y) λz=>?_);refine(_,wB,ks,fs,i,m+1,_,us,fr,sp,U,hP,hU,?_);have l4:=hU.len.1;refine(c8 (by rw[dN];omega),λi ys=>ys=((us.take i).map (·.1)).map ϙ,U,?_,?_)
   ·rintro i y ys hy rfl;rw[fZ]at hy;let(p,hp,U):=gV.mp hy;refine(_,U,U,?_);rw[rr,hp,mu,mu];rfl
   rintro ys rfl;rw[dN,rV,eu];refine(bw _,ay (λ_=>hW) λz=>absurd ?_ z);show inT (.s x) (List.map ϙ _)=O;rw[bY,fg];exact hx
def V5(ks:ϕ)(fs:ϖ)(f n:Int)(x:Str):Prop:=Out ks fs f n\/∃(i m:Nat)(fn:Fn)(L:List Nod)(e:Nod),At ks fs f n i m fn L e/\x ∉ e.sc.map (·.1)
inductive Ln(a:Adr)(ts:ϑ)(_Q:ϔ)(W:QW):Prop
 |mk(ks:ϕ)(fs:ϖ)(f n:Int)(x:Str)(h1:ts=[tPr ks fs,.i f,.i n,.s x])(h2:Prog ks fs)(h3:V5 ks fs f n x)(h4:W a.a9 [] [])
theorem mF(T:Txt K mg a):aP P w K mg base (CX1 P w) 8 a.gB a.pL ["program","f","n","x"] (m7 K (Ln a)):=by
 have CO:aP P w K mg base CX0 1 a.hV a.sM ["taken","many"] (spQ K i6):=cQ;have Fg:aP P w K mg base CX0 1 a.jR a.wj ["function"] (spQ K i6):=cQ;have wK:aP P w K mg base CX0 1 a.lr a.wg ["laid","n"] (spQ K i6):=cQ;have pX:aP P w K mg base CX0 1 a.lj a.wb ["new","old","source"] (spQ K i6):=cQ;have rW:aP P w K mg base CX0 1 a.jf a.rL [We,"called"] (spQ K i6):=cQ;refine T.ka.F.xA cU (λts Q W h=>?_) (λ_ _ _ _ _ _ hr=>?_)
 ·let(ks,fs,f,n,x,U,_):=h;rfl
 have hu:=bj hr;refine(_,_,((aT (zL (i:=4) cU.nd U (Or.inl U) (nt (jI T) hr T.ip (ae (qv 0) (ae (qv 1) (ae (qv 2) aw)))))
(aT (cn (az 5 cU.nd (XL (bz T.bG T.c7 (ZB (aI (BM T) hr T.wZ (ae (qv 0) (ae (qv 1) (ae (qv 2) aw)))))))))
(aT (gL (bD (yA hu) uS U (qv 3) (qv 5))
(a8 (fI U U T.dj T.gF U T.fL))
(lZ aA))
(aT (cn (az 6 cU.nd (XL (ao (ZB (aI CO hr T.CY (ae (ZB (aI Fg hr T.Fl (ae (ao (ao (qv 0) ah) (qv 1)) aw))) (ae ah aw)))) ah))))
(aT (cn (az 7 cU.nd (aI wK hr T.CZ (ae (qv 4) (ae (qv 2) aw)))))
(aT (cn (az 8 cU.nd (aV (ZB (bK (qv 4) cN (bM (qv 2)))) (ZB (aM (af (aI pX hr T.xa (ae (qv 6) (ae (qv 3) (ae (gw (qv 5) (qv 3)) aw)))) ai))))))
(aT (cn (cG (i:=8) (pv 8) (cu U (gg (ZB (bK (qv 4) (bM (qv 2)) (bM (qv 7))))) (N':=[We,"source","x","new"]) (.own U (.own U (.got (i:=3) U U (.inl U) (.got (i:=6) U U (.inl U) .nil)))) (cg (g:=(Tg.tp [0,1])) (λ_ _ _ _ _=>((eV (dh 0) (dh 1)),(aq (af (aI rW hr T.y4 (ae (qv 0) (ae (ZB (Bu (qv 2) (qv 3))) aw))) (af (XL (qv 1)) ai)))))))))
(a8 (cn (aC (aV (qv 8) (ZB (bK (qv 4) (bM (qv 7)) cN)))))))))))))),λts Q W h=>?_)
 let(ks,fs,f,n,x,U,V,hB,hW):=h;obtain hO |⟨i,m,fn,L,e,hA,hx⟩:=hB
 ·exact Em V hO hW
 refine L5 V hA λX hX ak=>?_;let(U,U,hf,hR,hL,he):=hA;refine(ks,fs,i,m,fn,L,e,U,V,hf,hR,hL,he,λS q=>?_);let(d,hd,hs,hg):=q;cases hd with|@mk _ o1 o2 v1 v2 =>
 refine(U,ad,_,U,U,?_);refine ay (λ_=>hW) λz=>absurd (show(!(cL (d.ho.map enH) (.inr x)).isSome)=O from ?_) z;rw[P9 (f:=λp:Str×dv=>p.1) (g:=λp=>tHo p.2) (by rw[hg.hk];exact hx)];rfl
inductive Pg(a:Adr)(ts:ϑ)(_Q:ϔ)(W:QW):Prop
 |mk(ks:ϕ)(fs:ϖ)(f n:Int)(t:L2.T)(h1:ts=[tPr ks fs,.i f,.i n,t])(h2:Prog ks fs)(h3:V7 ks fs f n)(h4:W a.a9 [] [])
inductive Pf(a:Adr)(ts:ϑ)(_Q:ϔ)(W:QW):Prop
 |mk(ks:ϕ)(fs:ϖ)(f n:Int)(t:L2.T)(h1:ts=[tPr ks fs,.i f,.i n,t])(h2:Prog ks fs)(h3:V6 ks fs f n)(h4:W a.a9 [] [])
inductive Pe(a:Adr)(ts:ϑ)(_Q:ϔ)(W:QW):Prop
 |mk(ks:ϕ)(fs:ϖ)(f n:Int)(x:Str)(t:L2.T)(h1:ts=[tPr ks fs,.i f,.i n,.s x,t])(h2:Prog ks fs)(h3:V5 ks fs f n x)(h4:W a.a9 [] [])
theorem vy(T:Txt K mg a):aP P w K mg base (CX1 P w) 9 a.fQ a.mJ ["program","f","n"] (m7 K (Lp a)):=by
 have g:aP P w K mg base CX0 1 a.gG a.ml ["laid"] (spQ K i6):=cQ;have fX:aP P w K mg base CX0 1 a.eM a.ig ["program","f",W1] (spQ K i6):=cQ;refine T.mY.F.xA uX (λts Q W h=>?_) (λ_ _ _ _ _ _ hr=>?_)
 ·let(ks,fs,f,n,U,_):=h;rfl
 have hu:=bj hr;refine(_,_,((a8 (lY (e7 fX (hr.mono bd) U T.cB.m T.cB.F.kp T.cB.b (bL (qv 0) (bL (qv 1) (e9 (e7 g (hr.mono bd) U T.dJ.m T.dJ.F.kp T.dJ.b (e9 (nt (gp T) hr T.eC (ae (qv 0) (ae (qv 1) (ae (qv 2) aw)))) (jD aw))) (jD aw)))))))),λts Q W h=>?_);let(ks,fs,f,n,U,z,V,q):=h;exact(ks,fs,f,n,U,z,V,q)
theorem LP(T:Txt K mg a):aP P w K mg base (CX1 P w) 9 a.uz a.GG ["program","f","n"] (m7 K (Lo a)):=by
 have g:aP P w K mg base CX0 1 a.gG a.ml ["laid"] (spQ K i6):=cQ;have fX:aP P w K mg base CX0 1 a.eM a.ig ["program","f",W1] (spQ K i6):=cQ;refine T.Ha.F.xA Kf (λts Q W h=>?_) (λ_ _ _ _ _ _ hr=>?_)
 ·let(ks,fs,f,n,U,_):=h;rfl
 have hu:=bj hr;refine(_,_,((a8 (lY (e7 fX (hr.mono bd) U T.cB.m T.cB.F.kp T.cB.b (bL (qv 0) (bL (qv 1) (e9 (e7 g (hr.mono bd) U T.dJ.m T.dJ.F.kp T.dJ.b (e9 (nt (mG T) hr T.kb (ae (qv 0) (ae (qv 1) (ae (qv 2) aw)))) (jD aw))) (jD aw)))))))),λts Q W h=>?_);let(ks,fs,f,n,U,z,V,q):=h;exact(ks,fs,f,n,U,z,V,q)
theorem LO(T:Txt K mg a):aP P w K mg base (CX1 P w) 9 a.uy a.GF ["program","f","n","x"] (m7 K (Ln a)):=by
 have g:aP P w K mg base CX0 1 a.gG a.ml ["laid"] (spQ K i6):=cQ;have fX:aP P w K mg base CX0 1 a.eM a.ig ["program","f",W1] (spQ K i6):=cQ;refine T.G9.F.xA Ke (λts Q W h=>?_) (λ_ _ _ _ _ _ hr=>?_)
 ·let(ks,fs,f,n,x,U,_):=h;rfl
 have hu:=bj hr;refine(_,_,((a8 (lY (e7 fX (hr.mono bd) U T.cB.m T.cB.F.kp T.cB.b (bL (qv 0) (bL (qv 1) (e9 (e7 g (hr.mono bd) U T.dJ.m T.dJ.F.kp T.dJ.b (e9 (nt (mF T) hr T.ka (ae (qv 0) (ae (qv 1) (ae (qv 2) (ae (qv 3) aw))))) (jD aw))) (jD aw)))))))),λts Q W h=>?_);let(ks,fs,f,n,x,U,z,V,q):=h;exact(ks,fs,f,n,x,U,z,V,q)
theorem qZ(T:Txt K mg a):aP P w K mg base (CX1 P w) 9 a.dW a.kg ["program","f","n","paper"] (m7 K (Pg a)):=by
 have V:aP P w K mg base CX0 1 a.eO a.ij ["program","f","laid","paper"] (spQ K i6):=cQ;refine T.kr.F.xA qK (λts Q W h=>?_) (λ_ _ _ _ _ _ hr=>?_)
 ·let(ks,fs,f,n,t,U,_):=h;rfl
 have hu:=bj hr;refine(_,_,((a8 (lY (e7 V (hr.mono bd) U T.cC.m T.cC.F.kp T.cC.b (bL (qv 0) (bL (qv 1) (e9 (nt (gp T) hr T.eC (ae (qv 0) (ae (qv 1) (ae (qv 2) aw)))) (bL (qv 3) (jD aw))))))))),λts Q W h=>?_);let(ks,fs,f,n,t,U,q,z,g):=h;exact(ks,fs,f,n,U,q,z,g)
theorem vA(T:Txt K mg a):aP P w K mg base (CX1 P w) 9 a.fT a.mM ["program","f","n","paper"] (m7 K (Pf a)):=by
 have V:aP P w K mg base CX0 1 a.eO a.ij ["program","f","laid","paper"] (spQ K i6):=cQ;refine T.m4.F.xA u7 (λts Q W h=>?_) (λ_ _ _ _ _ _ hr=>?_)
 ·let(ks,fs,f,n,t,U,_):=h;rfl
 have hu:=bj hr;refine(_,_,((a8 (lY (e7 V (hr.mono bd) U T.cC.m T.cC.F.kp T.cC.b (bL (qv 0) (bL (qv 1) (e9 (nt (mG T) hr T.kb (ae (qv 0) (ae (qv 1) (ae (qv 2) aw)))) (bL (qv 3) (jD aw))))))))),λts Q W h=>?_);let(ks,fs,f,n,t,U,q,z,g):=h;exact(ks,fs,f,n,U,q,z,g)
theorem vz(T:Txt K mg a):aP P w K mg base (CX1 P w) 9 a.fS a.mL ["program","f","n","x","paper"] (m7 K (Pe a)):=by
 have V:aP P w K mg base CX0 1 a.eO a.ij ["program","f","laid","paper"] (spQ K i6):=cQ;refine T.mZ.F.xA uZ (λts Q W h=>?_) (λ_ _ _ _ _ _ hr=>?_)
 ·let(ks,fs,f,n,x,t,U,_):=h;rfl
 have hu:=bj hr;refine(_,_,((a8 (lY (e7 V (hr.mono bd) U T.cC.m T.cC.F.kp T.cC.b (bL (qv 0) (bL (qv 1) (e9 (nt (mF T) hr T.ka (ae (qv 0) (ae (qv 1) (ae (qv 2) (ae (qv 3) aw))))) (bL (qv 4) (jD aw))))))))),λts Q W h=>?_);let(ks,fs,f,n,x,t,U,q,z,g):=h;exact(ks,fs,f,n,x,U,q,z,g)
inductive yy(ts:ϑ)(Q:ϔ):Prop
 |mk(b:L2.T)(h1:ts=[b])(h2:Shp b)(h3:Q (.l ((subs b).map (·.1))))
theorem vB(T:Txt K mg a):aP P w K mg base CX0 1 a.mj a.yM [Tm] (spQ K yy):=by
 refine T.se.F.okQ DF (λ_ _ _ _ _ _ hr=>?_);have hu:=bj hr;refine(_,_,((ag (aS (bf hu (ao (qv 0) ah) (ZB aE))
(aj (aC (aM ai)))
aA)
(ag (aS (bf hu (ao (qv 0) ah) (ZB aE))
(aj (aC (cu U (gg (ao (qv 0) ah)) (N':=["_law_arm"]) (.own U .nil) (cg (g:=(Tg.nm 0)) (λ_ _ _ _ _=>((dh 0),(XL (ao (qv 0) ah))))))))
aA)
(aj (aC (aM (af (XL (ao (qv 0) (ZB (du ah)))) ai))))))),λts Q h=>?_)
 let(b,U,h,hq):=h;cases h with
 |give=>exact(_,bE,U,ay (λ_=>hq) (λz=>absurd (st U) z))|@bJ w c b hw q =>exact(_,bE,U,ay (λz=>absurd z (sf (by obtain rfl|rfl:=hw <;> decide +kernel))) λ_=>(_,bE,U,ay (λz=>absurd z (sf (by obtain rfl|rfl:=hw <;> decide +kernel))) λ_=>(_,U,q,hq)))|@name x y b q =>exact(_,bE,U,ay (λz=>absurd z (sf bn)) λ_=>(_,bE,U,ay (λz=>absurd z (sf bn)) λ_=>(_,U,q,hq)))|@use w x m ns b hw q =>exact(_,bE,U,ay (λz=>absurd z (sf (by obtain rfl|rfl:=hw <;> decide +kernel))) λ_=>(_,bE,U,ay (λz=>absurd z (sf (by obtain rfl|rfl:=hw <;> decide +kernel))) λ_=>(_,U,q,hq)))|@case x arms q hl =>
  refine(_,U,U,ay (λz=>absurd z (sf bn)) λ_=>(_,U,U,ay (λ_=>?_) λz=>absurd (st U) z));refine(_,U,c8 (by rw[dN];omega),λi ys=>ys=(arms.take i).map (·.2.2.1),U,?_,?_)
  ·rintro i y ys hy rfl;rw[fZ]at hy;let(ar,V,U):=gV.mp hy;refine(_,U,_,U,q ar (jk V),?_);rw[rr,V,mu];rfl
  rintro ys rfl;rw[dN,rV];have e:(subs (.t [.s "case",.s x,.t (arms.map tA)])).map (·.1)=arms.map (·.2.2.1):=by show((arms.map tA).map λx=>Prod.mk (Rc x) x).map _=_;rw[wH,wH];rfl
  rw[e]at hq;exact hq
inductive WY(N:Nat)(ts:ϑ)(Q:ϔ):Prop
 |mk(ks:ϕ)(hs:List Hd)(n:Nat)(d:Nod)(L:List Nod)(h1:ts=[d.b])(h2:Pre ks hs n d L)(h3:Dep N d.b)(h4:L.length<=50000)(h5:Q (.l (L.map (·.b))))
theorem Shp.no0{b:L2.T}(h:Shp b)(d:Dep 0 b):False:=by obtain⟨x,e⟩|⟨x,e⟩:=d <;>(subst e;cases h)
theorem SG{cs:List Nod}(z:Ni ks hs n d cs){i:Nat}{y:L2.T}(q:((subs d.b).map (·.1))[i]?=Z y):∃c,cs[i]?=Z c/\c.b=y/\cs.drop i=c::cs.drop (i+1)/\Kid ks hs d.sc d.b i c.b c.am c.sc:=by rw[<- z.su,wH,fZ]at q;let(c,g,U):=gV.mp q;let(hi,e):=gs.mp g;exact(c,g,U,by rw[<- e];exact ab8 hi,(z.ok i c g).2)
theorem nC(T:Txt K mg a)(N:Nat):aP P w K mg base CX0 (N+2) a.mh a.yL [TZ] (spQ K (WY N)):=by
 induction N with
 |zero =>
  refine never λts Q hh=>?_;let(ks,hs,n,d,L,U,V,hd,_):=hh;cases V with|mk hk _=>exact hk.sh.no0 hd
 |succ N fM =>
  refine T.jr.F.okQ m8 (λ_ _ _ _ _ _ hr=>?_);have hu:=bj hr;refine(_,_,((ag (az 1 m8.nd (aM (af (XL (qv 0)) ai)))
(ag (bH (g:=(Tg.nm 2)) PassesOwn.never U (uc (aI (vB T) hr T.se (ae (qv 0) aw))) (br 2 m8.nd)
(aj (cG (i:=1) (pv 1) (aI fM hr T.jr (ae (qv 2) aw)))))
(aj (fN (i:=1) (pv 1)))))),λts Q h=>?_)
  let(ks,hs,n,d,L,U,V,hd,hl,hq):=h;cases V with|@mk _ _ cs M hk hM =>
  rw[tZ]at hl;have lc:((subs d.b).map (·.1)).length=cs.length:=by rw[<- hk.su,dN,dN]
  refine(hk.sh.im,d.b,U,hk.sh,λi q=>Ea5 λ(z M2:List Nod)(k:Nat)(X:ϑ)(o2:Sl)=>q=[.r d.b,.o (.l X),o2]/\M=z++M2/\bx ks hs k (cs.drop i) M2/\X=(d::z).map (·.b),([],M,_,_,_,U,U,hM,U),?_,?_)
  ·rintro i y q hy ⟨z,M2,k,X,o2,rfl,rfl,h2,rfl⟩;let(c,hc,U,ed,iK):=SG hk hy;rw[ed]at h2;rcases h2 with _|@⟨_, _, _, Lc, M2, h3, h4⟩;simp only[g5]at hl;refine(_,U,ks,hs,k,c,Lc,U,h3,iK.dep hd,bd,?_)
   refine(v5 (c8 (by simp;omega)),z++Lc,M2,_,_,.r c.b,U,(wI _ _ _).symm,h4,?_);rw[<- mu];rfl
  rintro q ⟨z,M2,k,X,o2,rfl,rfl,h2,rfl⟩;rw[lc,aa1]at h2;cases h2;rw[pq]at hq;exact hq
inductive LU:L2.T->Γ->Prop
 |use{w x m:Str}{ns:Γ}{b:L2.T}:(w="make" \/ w="call")->LU (.t [.s w,.s x,.s m,.t (ns.map .s),b]) ns|no{w:Str}{x1:L2.T}{R:ϑ}{us:Γ}:w ≠ "make"->w ≠ "call"->("name"=w->∃y R',R=.s y::R'/\us=[y])->("give"=w \/ "case"=w->∃x,x1=.s x/\us=[x])->("name" ≠ w->"give" ≠ w->"case" ≠ w->us=[])->LU (.t (.s w::x1::R)) us
theorem UsN.lu{b:L2.T}{us:Γ}(u:UsN b us):LU b us:=by
 cases u with
 |give=>exact .no bn bn (λh=>absurd h bn) (λ_=>(_,U,U)) (λ_ h=>absurd U h)|case=>exact .no bn bn (λh=>absurd h bn) (λ_=>(_,U,U)) (λ_ _ h=>absurd U h)|name=>exact .no bn bn (λ_=>(_,_,U,U)) (λh=>h.elim (λh=>absurd h bn) λh=>absurd h bn) (λh=>absurd U h)|use hw=>exact .use hw|@bJ w c b hw =>
  have q:∀{v:Str},v ≠ "pay"->v ≠ "get"->w≠v:=λ{v} h1 h2 e=>by obtain z|z:=hw <;>(rw[<- e,z]at h1 h2;first|exact h1 rfl|exact h2 U)
  have g:∀{v:Str},v ≠ "pay"->v ≠ "get"->v≠w:=λh1 h2 e=>q h1 h2 e.symm;exact .no (q bn bn) (q bn bn) (λh=>absurd h (g bn bn))
   (λh=>h.elim (λh=>absurd h (g bn bn)) λh=>absurd h (g bn bn)) (λ_ _ _=>rfl)
theorem Xf{a b c w:Str}{x y z:L2.T}(ab:a≠b)(ac:a≠c)(g:b≠c):cL (ck [] [(.inr a,x),(.inr b,y),(.inr c,z)]) (.inr w)=if a=w then Z x else if b=w then Z y else if c=w then Z z else none:=by
 have e:ck [] [(.inr a,x),(.inr b,y),(.inr c,z)]=[((.inr a:Key),x),(.inr b,y),(.inr c,z)]:=by simp[ck,mv,ab,ac,g]
 rw[e];unfold cL;simp only[Fs,Sum.inr.injEq];by_cases h1:a=w
 ·simp[h1]
 by_cases h2:b=w
 ·simp[h1,h2]
 by_cases h3:c=w <;> simp[h1,h2,h3]
theorem MW{x y:L2.T}{R:ϑ}:fw (x::y::R) (Z 2) (Z 3)=R.take 1:=by unfold fw;rw[show(2:Int)=((2:Nat):Int)from U,show(3:Int)=((3:Nat):Int)from U,HT.oC,HT.oC];cases R with|nil=>rfl|cons z r =>have e1:min 2 (x::y::z::r).length=2:=QL ba;have g:min 3 (x::y::z::r).length=3:=QL ba;rw[e1,g];rfl
theorem H0(ws:Γ):L2.T.oM (ws.map ϙ)=true:=by induction ws with|nil=>rfl|cons w r g=>exact g
theorem Lq{ts:ϑ}(h:∀t∈ts,t.pln=O):L2.T.oM ts=true:=by induction ts with|nil=>rfl|cons t r g=>show(t.pln&&L2.T.oM r)=O;rw[h t j4,g λt q=>h t (j6 _ q)];rfl
theorem Gw:∀{N:Nat}{t:L2.T},Dep N t->t.pln=O
 | 0,_,h=>by obtain⟨_,rfl⟩|⟨_,rfl⟩:=h <;> rfl
 |N+1,_,h=>by
  obtain⟨_,rfl⟩|⟨_,rfl⟩|⟨ts,rfl,h⟩:=h
  ·rfl
  ·rfl
  exact Lq λt g=>Gw (h t g)
inductive zY(ts:ϑ)(Q:ϔ):Prop
 |mk(b:L2.T)(us:Γ)(N:Nat)(h1:ts=[b])(h2:UsN b us)(h3:Dep N b)(h4:Q (.zl (us.map .s)))
theorem LQ(T:Txt K mg a):aP P w K mg base CX0 1 a.uA a.GH [Tm] (spQ K zY):=by
 refine T.Hb.F.okQ Kg (λ_ _ _ _ _ _ hr=>?_);have hu:=bj hr;refine(_,_,((ag (aS (bD (jH U) gH U (ao (qv 0) ah) (ZB (aq (fb be))))
(aj (aC (oG (aU (rO U) qJ be T.nL bv (ae (ao (qv 0) ah) aw)))))
aA)
(aj (aC (XL (OV hu (ZB (KR (h16:=ad5 U) (vj (ZB aE) (ZB (oG (aU (rO U) qJ be T.nL bv (ae (ZB (bK (qv 0) (bM ah) (bM ah))) aw)))) (vj (ZB aE) (ZB (oG (aM (af (XL (ao (qv 0) ah)) ai)))) (vj (ZB aE) (ZB (oG (aM (af (XL (ao (qv 0) ah)) ai)))) OM))))) (ao (qv 0) ah) (ZB (oG (aM ai))))))))),λts Q h=>?_)
 let(b,us,N,U,hU,hD,hq):=h;have im:=ET hD;have pl:=Gw hD;cases hU.lu with
 |@use w x m _ b hw =>
  refine(_,bE,(bw ["make","call"]),ay (λ_=>(_,U,aL us,H0 us,hq)) λz=>absurd ?_ z);show inT (.s w) ((["make","call"]:Γ).map ϙ)=O;rw[bY,fg];obtain rfl|rfl:=hw
  ·exact j4
  exact j6 _ j4
 |@no w x1 R _ n1 n2 c1 c2 c3 =>
  refine(_,bE,(bw ["make","call"]),ay (λz=>?_) λ_=>?_)
  ·have z:inT (.s w) ((["make","call"]:Γ).map ϙ)=true:=z;rw[bY,fg]at z;obtain z|z:=lb.mp z
   ·exact absurd z n1
   exact absurd (fy.mp z) n2
  have q:(O&&(x1.im&&Ϙ R))=true:=im;have g:(O&&(x1.pln&&L2.T.oM R))=true:=pl;rw[Bool.true_and,rX]at q g;have i0:=q.1;have p0:L2.T.oM [x1]=true:=by show(x1.pln&&O)=O;rw[g.1];rfl
  have i1:Ϙ (R.take 1)=true:=by cases R with|nil=>rfl|cons z r =>have:=q.2;have:(z.im&&Ϙ r)=true:=this;rw[rX]at this;show(z.im&&O)=O;rw[this.1];rfl
  have p1:L2.T.oM (R.take 1)=true:=by cases R with|nil=>rfl|cons z r =>have:=g.2;have:(z.pln&&L2.T.oM r)=true:=this;rw[rX]at this;show(z.pln&&O)=O;rw[this.1];rfl
  refine(im,?_,?_,?_,?_)
  ·rw[MW];exact i1
  ·rw[MW];exact p1
  ·rfl
  rw[MW];have hv:((cL (ck [] [(.inr "name",.zl (R.take 1)),(.inr "give",.zl [x1]),(.inr "case",.zl [x1])]) (.inr w)).getD (.zl []))=L2.T.zl (us.map .s):=by
   rw[Xf bn bn bn];by_cases h1:"name"=w
   ·let(y,R',e1,V):=c1 h1;rw[if_pos h1,e1,V];rfl
   rw[if_neg h1];by_cases h2:"give"=w
   ·let(y,e1,V):=c2 (.inl h2);rw[if_pos h2,e1,V];rfl
   rw[if_neg h2];by_cases h3:"case"=w
   ·let(y,e1,V):=c2 (.inr h3);rw[if_pos h3,e1,V];rfl
   rw[if_neg h3,c3 h1 h2 h3];rfl
  have fin:(λt:L2.T=>t.im=O/\(cM.fn Q).rt t) ((cL (ck [] [(.inr "name",.zl (R.take 1)),(.inr "give",.zl [x1]),(.inr "case",.zl [x1])]) (.inr w)).getD (.zl [])):=by rw[hv];exact(U,hq)
  exact(_,wB,i0,p0,U,_,wB,i0,p0,U,_,bE,U,fin)
inductive O9(ts:ϑ)(Q:ϔ):Prop
 |mk(b:L2.T)(N:Nat)(h1:ts=[b])(h2:Dep N b)(h3:Shp b)(h4:(∀p∈subs b,Shp p.1))(h5:∀r:Bool,(r=O->Nf b)->((∃y,b=.t [.s "give",.s y])->r=O)->Q (.b r))
theorem Shp.usn{b:L2.T}(h:Shp b):∃us,UsN b us:=by cases h with|give=>exact(_,.give)|bJ hw _=>exact(_,.bJ hw)|name _=>exact(_,.name)|use hw _=>exact(_,.use hw)|case _ _=>exact(_,.case)
theorem Rb{α:Type}{xs:List α}{i:Int}{v:α}(h:atI xs i=Z v):v∈xs:=by unfold atI at h;let(n,_,h):=Z2.mp h;exact jk h
theorem QV{ts:ϑ}{x:L2.T}(h:Dep N (.t ts))(hx:x∈ts):∃M,Dep M x:=by
 cases N with
 |zero=>obtain⟨_,z⟩|⟨_,z⟩:=h <;> cases z
 |succ N =>
  obtain⟨_,z⟩|⟨_,z⟩|⟨_,z,h⟩:=h
  ·cases z
  ·cases z
  cases z;exact(N,h x hx)
theorem LN(T:Txt K mg a):aP P w K mg base CX0 2 a.uw a.GC [Tm] (spQ K O9):=by
 refine T.G8.F.okQ Kc (λ_ _ _ _ _ _ hr=>?_);have hu:=bj hr;refine(_,_,((ag (aS (bD (qX U) gH U (ao (qv 0) ah) (ZB (aq (fb be))))
(aj (aC yx))
aA)
(aj (aC (WJ (ZB (zT (D7 hu U) zv (bW _) (ao (ao (qv 0) (ZB (du ah))) ah) (ZB aE))) (KP (zT (jH U) Ox U (ao (qv 0) ah) (ZB (aI (LQ T) hr T.Hb (ae (ao (qv 0) (ZB (du ah))) aw)))))))))),λts Q h=>?_)
 let(b,N,U,hD,hS,hK,hq):=h;have no:∀(w:Str),w ≠ "make"->w ≠ "name"->(!inT (.s w) ((["make","name"]:Γ).map ϙ))=true:=λw g n2=>by
  rw[Zx,<- ac6];intro z;rw[bY,fg]at z;obtain z|z:=lb.mp z
  ·exact g z
  exact n2 (fy.mp z)
 have yes:∀{w:Str},w="make" \/ w="name"->¬(!inT (.s w) ((["make","name"]:Γ).map ϙ))=true:=λ{w} h=>by
  rw[Zx,Bool.not_eq_false,bY,fg];obtain rfl|rfl:=h
  ·exact j4
  exact j6 _ j4
 have main:∀(w x:Str)(r:ϑ)(b':L2.T),(w="make" \/ w="name")->b=.t (.s w :: .s x::r)->subs b=[(b',.n)]->atI (.s w :: .s x::r) (-1)=Z b'->(Ui (qOp DT (qOp qIx (qOp qIx (aQ 0) (qC (.i (-1)))) (qC (.i 0))) (qC (.s "give"))) (qOp (Um ϊ) (qOp qIx (aQ 0) (qC (.i 1))) (fD zY (aH (qOp qIx (aQ 0) (qC (.i (-1)))) cH)))) [.r b] Q:=by
  rintro w x r b' hw rfl hs ha;let(us,hU):=(hK (b',.n) (by rw[hs];exact j4)).usn;let(M,hM):=QV hD (x:=b') (Rb ha);have ng:¬ ∃y,(.t (.s w :: .s x::r):L2.T)=.t [.s "give",.s y]:=λ(y,e)=>by
   have:=(List.cons.inj (L2.T.t.inj e)).1;obtain rfl|rfl:=hw <;> exact absurd (L2.T.s.inj this) bn
  have tail:(¬ ∃z,b'=.t [.s "give",.s z])->qOp (Um ϊ) (qOp qIx (aQ 0) (qC (.i 1))) (fD zY (aH (qOp qIx (aQ 0) (qC (.i (-1)))) cH)) [.r (.t (.s w :: .s x::r))] Q:=λ_=>by
   refine(_,wB,_,ha,b',us,M,U,hU,hM,bw _,?_);have:Q (.b (inT (.s x) (us.map ϙ))):=hq _ (λh=>.yes hw (.uses hU (by rw[bY,fg]at h;exact h)) hs) λh=>absurd h ng;exact this
  let(w',r',eb):=hU.hd;refine(_,ha,?_);by_cases e:w'="give"
  ·subst e;have hg:∃z,b'=.t [.s "give",.s z]:=by have q:Shp b':=hK (b',.n) (by rw[hs];exact j4);subst eb;generalize V:("give":Str)=gv at q;cases q with|give=>exact(_,U)|bJ hw _=>subst V;exact absurd hw bn|name _=>exact absurd V bn|use hw _=>subst V;exact absurd hw bn|case _ _=>exact absurd V bn
   let(z,U):=hg;exact(_,bE,U,ay (λ_=>hq O (λ_=>.yes hw .give hs) λ_=>rfl) λz=>absurd (st U) z)
  subst eb;exact(_,bE,U,ay (λz=>absurd z (sf e)) λ_=>tail λ(z,h)=>e (L2.T.s.inj (List.cons.inj (L2.T.t.inj h)).1))
 cases hS with
 |give=>exact(_,bE,bw ["make","name"],ay (λ_=>hq O (λ_=>.no bn bn) λ_=>rfl) λz=>(z (no "give" bn bn)).elim)|@bJ w c b hw _ =>
  have g:∀{v:Str},v ≠ "pay"->v ≠ "get"->w≠v:=λ{v} h1 h2 e=>by obtain z|z:=hw <;>(rw[<- e,z]at h1 h2;first|exact h1 rfl|exact h2 U)
  exact(_,bE,bw ["make","name"],ay (λ_=>hq O (λ_=>.no (g bn bn) (g bn bn)) λ_=>rfl) λz=>(z (no w (g bn bn) (g bn bn))).elim)
 |case _ _=>exact(_,bE,bw ["make","name"],ay (λ_=>hq O (λ_=>.no bn bn) λ_=>rfl) λz=>(z (no "case" bn bn)).elim)|@name x y b hb=>exact(_,bE,bw ["make","name"],ay (λz=>absurd z (yes (.inr U))) λ_=>main _ _ _ b (.inr U) U U U)|@use w x m ns b hw hb =>
  obtain rfl|rfl:=hw
  ·exact(_,bE,bw ["make","name"],ay (λz=>absurd z (yes (.inl U))) λ_=>main _ _ _ b (.inl U) U U U)
  exact(_,bE,bw ["make","name"],ay (λ_=>hq O (λ_=>.no bn bn) λ_=>rfl) λz=>(z (no "call" bn bn)).elim)
inductive BdN:L2.T->Γ->Prop
 |give{x:Str}:BdN (.t [.s "give",.s x]) []|bJ{w:Str}{c:Int}{b:L2.T}:(w="pay" \/ w="get")->BdN (.t [.s w,.i c,b]) []|name{x y:Str}{b:L2.T}:BdN (.t [.s "name",.s x,.s y,b]) [x]|use{w x m:Str}{ns:Γ}{b:L2.T}:(w="make" \/ w="call")->BdN (.t [.s w,.s x,.s m,.t (ns.map .s),b]) [x]|case{x:Str}{arms:List Arm}:arms.length<=6->(∀a∈arms,a.2.1.length<=4)->BdN (.t [.s "case",.s x,.t (arms.map tA)]) (arms.flatMap (·.2.1))
theorem Snd.bdn{b:L2.T}(gk:cJ ks)(S:Snd ks hs r n sc b):∃xs,BdN b xs:=by
 cases S with
 |give=>exact(_,.give)|bJ hw _ _=>exact(_,.bJ hw)|name _ _ _=>exact(_,.name)|make _ _ _ _ _=>exact(_,.use (.inl U))|call _ _ _ _=>exact(_,.use (.inr U))|@case _ x kd arms hx g z h1 h2 =>
  have P:arms.length=kd.2.length:=by have:=congrArg CP z;rwa [dN,dN]at this
  refine(_,.case (by have:=(gk.ne kd g).2;omega) λar K=>?_);let(i,hi,e):=ro K;have q:=(h1 i ar _ (by rw[fY hi,e]) (fY bd)).1;have:=(gk.fl kd g _ (Jr (show i<kd.2.length by omega))).1;omega
theorem EO{α:Type}{k:Nat}:∀{as:List α}{f:α->Γ},(∀a∈as,(f a).length<=k)->(as.flatMap f).length<=k*as.length
 |[],_,_=>mz _|a::r,f,h=>by
  have h1:=h a j4;have h2:=EO (as:=r) (f:=f) λb g=>h b (j6 _ g);rw[List.flatMap_cons,g5,tZ,Nat.mul_add];omega
theorem BdN.len{b:L2.T}(h:BdN b xs):xs.length<=24:=by cases h with|case h1 h2 =>have:=EO (f:=λa:Arm=>a.2.1) h2;omega|_=>simp
theorem ff(h:n<=2000000):n<lK:=R4 h ad
inductive BdL:List Nod->Γ->Prop
 |nil:BdL [] []|snoc{L:List Nod}{e:Nod}{X xs:Γ}:BdL L X->BdN e.b xs->BdL (L++[e]) (X++xs)
theorem in3{w:Str}:inT (.s w) ((["make","call","name"]:Γ).map ϙ)=O ↔ w="make" \/ w="call" \/ w="name":=by rw[bY,fg,lb,lb,fy]
inductive Lk(ts:ϑ)(Q:ϔ):Prop
 |mk(ks:ϕ)(fs:ϖ)(f:Fn)(L:List Nod)(h1:ts=[tF f])(h2:Prog ks fs)(h3:f∈fs)(h4:Pre ks (fs.map (·.1)) 0 (rtN f) L)(h5:L.length<=50000)(h6:∀X:Γ,BdL L X->X.length<=24*L.length->Q (.l ((f.1.2.1.map (·.1)++X).map .s)))
theorem Ij(T:Txt K mg a):aP P w K mg base CX0 95 a.pH a.Cr [TD] (spQ K Lk):=by
 refine T.xb.F.okQ lU (λ_ _ _ _ _ _ hr=>?_);have hu:=bj hr;refine(_,_,((ag (fO (i:=1) lU.nd U (Or.inl U) U (gg (ao (qv 0) ah)) (N':=["_law_param"]) (.own U .nil) (cg (g:=(Tg.nm 0)) (λ_ _ _ _ _=>((dh 0),(XL (ao (qv 0) ah))))))
(ag (bH (g:=(Tg.nm 2)) PassesOwn.never U (uc (aI (nC T 92) hr T.jr (ae (ao (qv 0) ah) aw))) (br 2 lU.nd)
(ag (aS (bD (jH U) gH U (ao (qv 2) ah) (ZB (aq (fb be))))
(aj (bh (i:=1) (pv 1) (XL (ao (qv 2) ah))))
aA)
(aj (aS (bf hu (ao (qv 2) ah) (ZB aE))
(aj (bH (g:=(Tg.nm 3)) PassesOwn.never U (iI (XL (ao (qv 2) ah))) (br 3 lU.nd)
(aj (FN (i:=1) (pv 1) (ao (qv 3) ah)))))
aA))))
(aj (fN (i:=1) (pv 1)))))),λts Q h=>?_)
 let(ks,fs,f,L,U,hP,hf,hR,hL,hq):=h;have a4:bx ks (fs.map (·.1)) 0 [rtN f] L:=by have:=bx.cons hR (.nil);rwa [pq]at this
 have SN:=Od hP hf a4;let(p1,p2,p3,p4):=hP.pk f hf;refine(_,U,aG (by rw[dN];omega),λi ys=>ys=((f.1.2.1.take i).map (·.1)).map .s,U,?_,?_)
 ·rintro i y ys hy rfl;rw[fZ]at hy;let(p,hp,U):=gV.mp hy;refine(_,U,_,U,U,?_);rw[rr,hp,mu,mu];rfl
 rintro ys rfl;rw[dN,rV];refine(_,U,ks,fs.map (·.1),0,rtN f,L,U,hR,hP.dp f hf,hL,?_);refine(λi q=>∃(X:Γ)(ό:ϑ)(o2 V:Sl),q=[.r (tF f),.o (.l ό),o2,V]/\ό=(f.1.2.1.map (·.1)++X).map .s/\BdL (L.take i) X/\X.length<=24*i,([],_,_,_,U,by rw[pq],.nil,AY _),?_,?_)
 ·rintro i y q hy ⟨X,ό,o2,V,rfl,rfl,hX,aF⟩;rw[fZ]at hy;let(e,he,U):=gV.mp hy;have a5:=(gs.mp he).1;let(mm,hS):=SN e (jk he);let(xs,hB):=hS.bdn hP.gk;have aW:BdL (L.take (i+1)) (X++xs):=by rw[rr,he];exact .snoc hX hB
  have xl:=hB.len;have aK:=hS.im;refine(_,U,?_);have ll:∀z:Nat,z<=24->((f.1.2.1.map (·.1)++X).map ϙ).length+z<=1300000:=λz hz=>by rw[dN,g5,dN];omega
  generalize e.b=b at hB aK;have fin:∀(ό:ϑ)(o2 V:Sl),ό=(f.1.2.1.map (·.1)++(X++xs)).map .s->∃(X':Γ)(Y':ϑ)(a3 a0:Sl),[.r (tF f),.o (.l ό),o2,V]=[.r (tF f),.o (.l Y'),a3,a0]/\Y'=(f.1.2.1.map (·.1)++X').map .s/\BdL (L.take (i+1)) X'/\X'.length<=24*(i+1):=λό o2 V e=>(X++xs,ό,o2,V,U,e,aW,by rw[g5];omega);have app:∀x:Str,(f.1.2.1.map (·.1)++X).map ϙ++[ϙ x]=(f.1.2.1.map (·.1)++(X++[x])).map .s:=λx=>by simp
  have Y:(f.1.2.1.map (λp:Str×Str=>p.1)++X).map ϙ=(f.1.2.1.map (λp:Str×Str=>p.1)++(X++[])).map ϙ:=by rw[pq]
  have lz:((f.1.2.1.map (·.1)++X).map ϙ).length<lK:=ff (by have:=ll 0 bd;omega);clear aW;cases hB with
  |give=>exact(_,bE,bw ["make","call","name"],ay (λz=>absurd (in3.mp z) bn) λ_=>(_,bE,U,ay (λz=>absurd z (sf bn)) λ_=>fin _ _ _ Y))|bJ hw=>exact(_,bE,bw ["make","call","name"],ay (λz=>absurd (in3.mp z) (by obtain rfl|rfl:=hw <;> decide +kernel)) λ_=>(_,bE,U,ay (λz=>absurd z (sf (by obtain rfl|rfl:=hw <;> decide +kernel))) λ_=>fin _ _ _ Y))|name=>exact(_,bE,bw ["make","call","name"],ay (λ_=>(lz,_,wB,U,_,bE,U,ay (λz=>absurd z (sf bn)) λ_=>fin _ _ _ (app _))) λz=>absurd (in3.mpr (.inr (.inr U))) z)|use hw=>exact(_,bE,bw ["make","call","name"],ay (λ_=>(lz,_,wB,U,_,bE,U,ay (λz=>absurd z (sf (by obtain rfl|rfl:=hw <;> decide +kernel))) λ_=>fin _ _ _ (app _))) λz=>absurd (in3.mpr (hw.elim .inl λh=>.inr (.inl h))) z)|@case x arms h6 h4 =>
   refine(_,bE,bw ["make","call","name"],ay (λz=>absurd (in3.mp z) bn) λ_=>(_,bE,U,ay (λ_=>?_) λz=>absurd (st U) z));have Qw:Ϙ (arms.map tA)=true:=by have h:(O&&(O&&(Ϙ (arms.map tA)&&O)))=true:=aK;simpa using h
   refine(_,U,Qw,λj q=>∃(ό:ϑ)(V:Sl),q=[.r (tF f),.o (.l ό),.r (.t [.s "case",.s x,.t (arms.map tA)]),V]/\ό=(f.1.2.1.map (λp:Str×Str=>p.1)++(X++(arms.take j).flatMap (·.2.1))).map ϙ,(_,_,U,Y),?_,?_)
   ·rintro j y q hy ⟨ό,V,rfl,rfl⟩;rw[fZ]at hy;let(ar,ak,U):=gV.mp hy;have Zp:=h4 ar (jk ak);have hj:=(gs.mp ak).1;have fl:=EO (as:=arms.take j) (f:=λa:Arm=>a.2.1) λc hc=>h4 c (Ff hc);rw[tX]at fl;have l0:=ll 0 bd;simp only[dN,g5]at l0;refine(_,U,_,U,aL _,?_);refine(v5 (ff ?_),_,_,U,?_)
    ·simp only[dN,g5];omega
    rw[rr,ak,List.flatMap_append,<- mu];simp
   rintro q ⟨ό,V,rfl,rfl⟩;rw[dN,rV];exact fin _ _ _ U
 rintro q ⟨X,ό,o2,V,rfl,rfl,hX,aF⟩;rw[dN,rV]at hX;rw[dN]at aF;exact hq X hX aF
inductive ApR(ks:ϕ)(hs:List Hd):ϔ
 |give{x:Str}:ApR ks hs (.t [.s "give",.s x])|no{w:Str}{r:ϑ}:w ≠ "make"->w ≠ "call"->w ≠ "name"->w ≠ "case"->(∀sc j b' am sc',Kid ks hs sc (.t (.s w::r)) j b' am sc'->sc'.map (·.1)=sc.map (·.1))->ApR ks hs (.t (.s w::r))|one{w x:Str}{r:ϑ}:(w="make" \/ w="call" \/ w="name")->(∀sc j b' am sc',Kid ks hs sc (.t (.s w :: .s x::r)) j b' am sc'->sc'.map (·.1)=sc.map (·.1)++[x])->ApR ks hs (.t (.s w :: .s x::r))|case{x:Str}{arms:List Arm}:(∀sc j b' am sc',Kid ks hs sc (.t [.s "case",.s x,.t (arms.map tA)]) j b' am sc'->∃ar,arms[j]?=Z ar/\sc'.map (·.1)=sc.map (·.1)++ar.2.1/\ar.2.1.length<=4)->ApR ks hs (.t [.s "case",.s x,.t (arms.map tA)])
theorem Shp.ap(gk:cJ ks){b:L2.T}(h:Shp b):ApR ks hs b:=by
 cases h with
 |give=>exact .give|@bJ w c b hw _ =>
  refine .no (by obtain rfl|rfl:=hw <;> decide +kernel) (by obtain rfl|rfl:=hw <;> decide +kernel) (by obtain rfl|rfl:=hw <;> decide +kernel) (by obtain rfl|rfl:=hw <;> decide +kernel) λsc j b' am sc' K=>?_;generalize e:(.t [.s w,.i c,b]:L2.T)=t at K;cases K <;> simp at e;rfl
 |@name x y b _ =>
  refine .one (.inr (.inr U)) λsc j b' am sc' K=>?_;generalize e:(.t [.s "name",.s x,.s y,b]:L2.T)=t at K;cases K <;> simp at e;let(U,_):=e;simp
 |@use w x m ns b hw _ =>
  refine .one (by obtain rfl|rfl:=hw;exact .inl U;exact .inr (.inl U)) λsc j b' am sc' K=>?_;generalize e:(.t [.s w,.s x,.s m,.t (ns.map .s),b]:L2.T)=t at K;cases K <;> simp at e
  ·let(_,U,_):=e;simp
  let(_,U,_):=e;simp
 |@case x arms _ _ =>
  refine .case λsc j b' am sc' K=>?_;generalize e:(.t [.s "case",.s x,.t (arms.map tA)]:L2.T)=t at K;cases K <;> simp at e;rename_i kd de ar Q hx g V hl hN ha hm;let(U,e1):=e;have P:=congrArg (·[j]?) e1;simp only[fZ,ha]at P;let(q,h0,e3):=gV.mp P;let(_,z,q3):=Dw e3;refine(q,h0,?_,?_)
  ·rw[mu,aa0 bd,z]
  rw[z,hl];exact(gk.fl _ g Q (jk hm)).1
theorem VJ{x y:Int}{qa qb qc:QE}{s1 rest:QS}{D:cM}(Q:∀R,R (.i x)->qa q R)(P:∀R,R (.i y)->qb q R)(K:∀R,R (.i z)->qc q R)(h1:x<=y/\y<z->s1 (D.seq rest) q)(h2:¬(x<=y/\y<z)->rest D q):
  (D.seq (i5 (vn (eI (kN (qI0 λi j=>L2.T.b (decide (i<=j))) (qI0 λi j=>L2.T.b (decide (i<j))) qa qb qc)) s1 oH) rest)).nx q:=by
 show i5 (vn (eI (kN (qI0 λi j=>L2.T.b (decide (i<=j))) (qI0 λi j=>L2.T.b (decide (i<j))) qa qb qc)) s1 oH) rest D q;unfold i5 vn eI kN;refine Q _ (P _ ?_);show(if decide (x<=y)=O then _ else _);by_cases g:x<=y
 ·rw[if_pos (decide_eq_true g)];refine K _ ?_;show(if decide (y<z)=O then _ else _);by_cases g2:y<z
  ·rw[if_pos (decide_eq_true g2)];exact h1 (g,g2)
  rw[if_neg (by rw[decide_eq_false g2];decide)];exact h2 λz=>g2 z.2
 rw[if_neg (by rw[decide_eq_false g];decide)];exact h2 λz=>g z.1
theorem JK{i:Nat}{x y:Int}(h:q[i]?=Z (.o (.i x)))(hq:Q (decide (y<x))):eI (qOp (qI0 λi j=>L2.T.b (decide (j<i))) (aQ i) (qC (.i y))) q Q:=by unfold eI qOp aQ;rw[h];exact hq
theorem M6{D:cM}{tf tn:L2.T}{ό:L2.T}{k:Nat}{cs:List Nod}{o7 o8 o9:Sl}(hk:Ni ks hs m d cs)(hM:bx ks hs (m+1) cs M)(he:M[k]?=Z e)(hl:M.length<=50000)(hd:Dep 92 d.b)
  (hq:∀(j:Nat)(c:Nod)(Q:Nat)(K:List Nod)(l:Nat)(o5 o7 o8 o9:Sl),cs[j]?=Z c->Pre ks hs Q c K->K[l]?=Z e->l<k+1->(∀x∈K,x∈M)->K.length<=M.length->D.nx [.r tf,.r tn,.o ό,.o d.b,.o (iN (k+1)),o5,.o (.t [.i j,c.b,.i l]),o7,o8,o9]):
  WS (SK (fD yy (aH (aQ 3) cH))) (Tg.tp [7,8])
   (i5 (nu 9 (qCB Bw (aH (fD (WY 92) (aH (aQ 8) cH)) cH)))
(i5 (vn (eI (kN (qI0 λi j=>L2.T.b (decide (i<=j))) (qI0 λi j=>L2.T.b (decide (i<j))) (aQ 5) (aQ 4) (qOp oI (aQ 5) (aQ 9))))
(nu 6 (mq (aH (qIm (aQ 7)) (aH (qIm (aQ 8)) (aH (qOp (qI0 λi j=>Ϛ (i-j)) (aQ 4) (aQ 5)) cH))))) oH)
(nu 5 (qOp oI (aQ 5) (aQ 9))))) D [.r tf,.r tn,.o ό,.o d.b,.o (iN (k+1)),.o (.i 1),.o .n,o7,o8,o9]:=by
 have lc:((subs d.b).map (·.1)).length=cs.length:=by rw[<- hk.su,dN,dN]
 refine(d.b,U,hk.sh,?_);refine(λi q=>Ea7 λ(P M2:List Nod)(Q:Nat)(g:L2.T)(o7 o8 o9:Sl)=>q=[.r tf,.r tn,.o ό,.o d.b,.o (iN (k+1)),.o (iN (1+P.length)),.o g,o7,o8,o9]/\M=P++M2/\bx ks hs Q (cs.drop i) M2/\((g=.n/\P.length<=k)\/∃(j:Nat)(c:Nod)(Q:Nat)(K:List Nod)(l:Nat),g=.t [.i j,c.b,.i l]/\cs[j]?=Z c/\Pre ks hs Q c K/\K[l]?=Z e/\l<k+1/\(∀x∈K,x∈M)/\K.length<=M.length/\k<P.length),
([],M,_,_,_,_,_,U,U,hM,.inl (U,AY _)),?_,?_)
 ·rintro i y q hy ⟨P,M2,Q,g,o7,o8,o9,rfl,rfl,h2,hg⟩;let(z,hz,U):=cT hy;let(c,hc,U,ed,iK):=SG hk hz;rw[ed]at h2;rcases h2 with _|@⟨_, _, _, K, M2, h3, h4⟩;simp only[g5]at hl;have lm:((K.map (·.b)).length:Int)=K.length:=by rw[dN]
  have V:(iN (1+(P++K).length))=.i ((((1+P.length:Nat):Int))+((K.map (·.b)).length:Int)):=by rw[lm];show Ϛ _=_;rw[g5];congr 1;omega
  have aK:c.b.im=true:=by cases h3 with|mk ar _=>exact ar.sh.im
  refine(_,U,ks,hs,Q,c,K,U,h3,(iK.dep hd).mono bd,bd,?_);refine VJ (x:=((1+P.length:Nat):Int)) (y:=((k+1:Nat):Int)) (z:=(((1+P.length:Nat):Int))+((K.map (·.b)).length:Int)) (λ_ h=>h) (λ_ h=>h) (λR h=>h) (λaF=>?_) (λYN=>?_)
  ·rw[lm]at aF;have e1:P.length<=k:=bd;have e2:k-P.length<K.length:=bd;rw[u6 e1,u4 e2]at he;have lk:(Ϛ (((k+1:Nat):Int)-((1+P.length:Nat):Int)))=.i ((k-P.length:Nat):Int):=by congr 1;omega
   refine(U,aK,P++K,M2,_,.t [.i i,c.b,.i ((k-P.length:Nat):Int)],.r (.i i),.r c.b,.o (.i ((K.map (·.b)).length:Int)),?_,(wI _ _ _).symm,h4,.inr (i,c,Q,K,k-P.length,U,hc,h3,he,bd,λx hx=>by simp[hx],by simp;omega,by rw[g5];omega));rw[V,<- lk];rfl
  rw[lm]at YN;refine(P++K,M2,_,g,.r (.i i),.r c.b,.o (.i ((K.map (·.b)).length:Int)),?_,(wI _ _ _).symm,h4,?_)
  ·rw[V];rfl
  obtain⟨h,h'⟩|⟨j,c',ak,aW,l,q1,q2,q3,q4,q5,q6,q8,q7⟩:=hg
  ·exact .inl (h,by rw[g5];omega)
  exact .inr (j,c',ak,aW,l,q1,q2,q3,q4,q5,q6,q8,by rw[g5];omega)
 rintro q ⟨P,M2,Q,g,o7,o8,o9,rfl,rfl,h2,hg⟩;rw[bC,lc,aa1]at h2;cases h2;rw[pq]at he hq;obtain⟨_,h⟩|⟨j,c,Q,K,l,rfl,h1,h2,h3,h4,h5,h7,h6⟩:=hg
 ·have:=(gs.mp he).1;omega
 exact hq j c Q K l _ _ _ _ h1 h2 h3 h4 (by rwa [pq]at h5) (by rwa [pq]at h7)
inductive WZ(ts:ϑ)(Q:ϔ):Prop
 |mk(ks:ϕ)(fs:ϖ)(f:Fn)(L:List Nod)(n:Nat)(e:Nod)(h1:ts=[tF f,iN n])(h2:Prog ks fs)(h3:f∈fs)(h4:Pre ks (fs.map (·.1)) 0 (rtN f) L)(h5:L.length<=50000)(h6:L[n]?=Z e)(h7:Q (.l ((e.sc.map (·.1)).map .s)))
theorem LV(T:Txt K mg a):aP P w K mg base CX0 95 a.uD a.GK [TD,SC] (spQ K WZ):=by
 refine T.He.F.okQ cS (λ_ _ _ _ _ _ hr=>?_);have hu:=bj hr;refine(_,_,((ag (fO (i:=2) cS.nd U (Or.inl U) U (gg (ao (qv 0) ah)) (N':=["_law_param"]) (.own U .nil) (cg (g:=(Tg.nm 0)) (λ_ _ _ _ _=>((dh 0),(XL (ao (qv 0) ah))))))
(ag (az 3 cS.nd (XL (ao (qv 0) ah)))
(ag (az 4 cS.nd (XL (qv 1)))
(ag (oF PassesOwn.never (RR (qv 4) ah)
(ag (aS (bD (jH U) gH U (ao (qv 3) ah) (ZB (aq (fb be))))
(aj (bh (i:=2) (pv 2) (XL (ao (qv 3) ah))))
aA)
(ag (az 5 cS.nd bF)
(ag (az 6 cS.nd cO)
(ag (bH (g:=(Tg.tp [7,8])) PassesOwn.never U (Bt T.bQ (aI (vB T) hr T.se (ae (qv 3) aw))) (eV (br 7 cS.nd) (br 8 cS.nd))
(ag (az 9 cS.nd (bq T.bP (ae (ZB (aI (nC T 92) hr T.jr (ae (qv 8) aw))) aw)))
(ag (aS (vi LJ (iz (g':=λi j=>.b (decide (i<=j))) λ_ _ _ _=>.b _) FZ (iz (g':=λi j=>.b (decide (i<j))) λ_ _ _ _=>.b _) (qv 5) (qv 4) (ZB (aV (qv 5) (qv 9))))
(aj (az 6 cS.nd (aq (af (XL (qv 7)) (af (XL (qv 8)) (af (zQ (qv 4) (qv 5)) ai))))))
aA)
(aj (az 5 cS.nd (aV (qv 5) (qv 9)))))))
(ag (aS (bf hu (ao (qv 3) ah) (ZB aE))
(aj (FN (i:=2) (pv 2) (ao (ao (ao (qv 3) ah) (ao (qv 6) ah)) ah)))
aA)
(aj (KJ (i:=3) (j:=4) U cS.nd U U ad U U (ao (qv 6) ah) (ao (qv 6) ah) U))))))))
(aj (fN (i:=2) (pv 2)))))))),λts Q h=>?_)
 let(ks,fs,f,L,n,e,U,hP,hf,hR,hL,he,hq):=h;have cb:bx ks (fs.map (·.1)) 0 [rtN f] L:=by have:=bx.cons hR (.nil);rwa [pq]at this
 have G:=yG hP hf cb;let(p1,p2,p3,p4):=hP.pk f hf;refine(_,U,aG (by rw[dN];omega),λi ys=>ys=((f.1.2.1.take i).map (·.1)).map .s,U,?_,?_)
 ·rintro i y ys hy rfl;rw[fZ]at hy;let(p,hp,U):=gV.mp hy;refine(_,U,_,U,U,?_);rw[rr,hp,mu,mu];rfl
 rintro ys rfl;rw[dN,rV];have bG:f.2.1.im=true:=(hP.sn f hf).1.im;refine(_,U,bG,U,λc q=>∃(d:Nod)(m:Nat)(M:List Nod)(o5 o6 o7 o8 o9:Sl),q=[.r (tF f),.r (iN n),.o (.l ((d.sc.map (·.1)).map .s)),.o d.b,.o (iN c),o5,o6,o7,o8,o9]/\Pre ks (fs.map (·.1)) m d M/\M[c]?=Z e/\(∀x∈M,x∈L)/\M.length<=50000,(n,rtN f,0,L,_,_,_,_,_,U,hR,he,(λ_ h=>h),hL),?_);rintro c q ⟨⟨db,cA,cy,cx,aW⟩,m,M,o5,o6,o7,o8,o9,rfl,hD,hc,hM,ct⟩;cases hD with|@mk _ _ cs M hk a4 =>
 have hd:=hM _ j4;have g:=G _ hd;have lim:=g.lim;rw[tZ]at ct;cases c with
 |zero =>
  cases hc;exact JK U (ay (λz=>absurd z ad) λ_=>hq)
 |succ k =>
 have hc:M[k]?=Z e:=hc;refine JK U (ay (λ_=>?_) λz=>absurd (decide_eq_true (by show(0:Int)<((k+1:Nat):Int);omega)) z);refine(λq'=>∃(d:Nod)(m:Nat)(M:List Nod)(c:Nat)(o5 o6 o7 o8 o9:Sl),q'=[.r (tF f),.r (iN n),.o (.l ((d.sc.map (·.1)).map .s)),.o d.b,.o (iN c),o5,o6,o7,o8,o9]/\Pre ks (fs.map (·.1)) m d M/\M[c]?=Z e/\(∀x∈M,x∈L)/\M.length<=50000/\c<k+1,?_,?_)
 ·rintro q' ⟨d,m,M,c,o5,o6,o7,o8,o9,rfl,h1,h2,h3,h5,h4⟩;exact(c,h4,d,m,M,_,_,_,_,_,U,h1,h2,h3,h5)
 have a3:=hk.ok;have cw:=hk.sh.im;have YX:=g.d92;have ap:ApR ks (fs.map (·.1)) db:=hk.sh.ap hP.gk;have lX:((aW.map (·.1)).map ϙ).length+24<lK:=by have:aW.length<=372:=lim;rw[dN,dN];exact ff bd
 have lp:=λ{D:cM}(ό:L2.T)=>M6 (D:=D) (tf:=tF f) (tn:=iN n) (ό:=ό) (o7:=o7) (o8:=o8) (o9:=o9) hk a4 hc bd YX;have fin:∀(X:Γ)(j:Nat)(c:Nod)(kc:Nat)(Lc:List Nod)(l:Nat)(o5 o6 o7 o8 o9:Sl),c.sc.map (·.1)=X->Pre ks (fs.map (·.1)) kc c Lc->Lc[l]?=Z e->l<k+1->(∀x∈Lc,x∈M)->Lc.length<=M.length->∃(d:Nod)(m:Nat)(M:List Nod)(c':Nat)(bA bc a9 a6 a5:Sl),[.r (tF f),.r (iN n),.o (.l (X.map .s)),.o c.b,.o (.i (l:Int)),o5,o6,o7,o8,o9]=[.r (tF f),.r (iN n),.o (.l ((d.sc.map (·.1)).map .s)),.o d.b,.o (iN c'),bA,bc,a9,a6,a5]/\Pre ks (fs.map (·.1)) m d M/\M[c']?=Z e/\(∀x∈M,x∈L)/\M.length<=50000/\c'<k+1:=
  λX j c kc Lc l o5 o6 o7 o8 o9 hX h1 h2 h3 h4 h5=>(c,kc,Lc,l,_,_,_,_,_,by rw[hX];rfl,h1,h2,λx hx=>hM x (j6 _ (h4 x hx)),bd,h3)
 cases ap with
 |give =>
  have:=hk.su;cases cs with
  |nil=>cases a4;simp at hc
  |cons _ _=>simp[subs]at this
 |no n1 n2 n3 n4 iK =>
  refine(_,bE,bw ["make","call","name"],ay (λz=>absurd (in3.mp z) (by simp[n1,n2,n3])) λ_=>?_);refine lp _ λj c kc Lc l o5 o7 o8 o9 aK V hl ak As hlen=>?_;refine(_,bE,U,ay (λz=>absurd z (sf n4)) λ_=>?_);have a0:c.b.im=true:=by cases V with|mk aF _=>exact aF.sh.im
  let(_,K):=a3 j c aK;exact(_,U,a0,_,U,U,fin _ j c kc Lc l _ _ _ _ _ (iK _ _ _ _ _ K) V hl ak As hlen)
 |@one w x r hw iK =>
  refine(_,bE,bw ["make","call","name"],ay (λ_=>?_) λz=>absurd (in3.mpr hw) z);refine(R4 (ac4 _ 24) lX,_,wB,U,?_);refine lp _ λj c kc Lc l o5 o7 o8 o9 aK V hl ak As hlen=>?_;have n4:w ≠ "case":=by obtain rfl|rfl|rfl:=hw <;> decide +kernel
  refine(_,bE,U,ay (λz=>absurd z (sf n4)) λ_=>?_);have a0:c.b.im=true:=by cases V with|mk aF _=>exact aF.sh.im
  let(_,K):=a3 j c aK;have q:=fin (aW.map (·.1)++[x]) j c kc Lc l o5 (.o (.t [.i j,c.b,.i l])) o7 o8 o9 (iK _ _ _ _ _ K) V hl ak As hlen;rw[mu]at q;exact(_,U,a0,_,U,U,q)
 |@case x arms iK =>
  refine(_,bE,bw ["make","call","name"],ay (λz=>absurd (in3.mp z) bn) λ_=>?_);refine lp _ λj c kc Lc l o5 o7 o8 o9 aK V hl ak As hlen=>?_;refine(_,bE,U,ay (λ_=>?_) λz=>absurd (st U) z);let(_,K):=a3 j c aK;let(ar,b0,bT,h4):=iK _ _ _ _ _ K;have ea:atI (arms.map tA) (j:Int)=Z (tA ar):=bu (by rw[fZ,b0];rfl);refine(_,U,_,U,_,ea,_,U,?_);refine(aL _,?_,?_)
  ·have:((aW.map (·.1)).map ϙ).length+(ar.2.1.map ϙ).length<=lK:=by rw[dN (as:=ar.2.1)];omega
   exact this
  have a0:c.b.im=true:=by cases V with|mk aF _=>exact aF.sh.im
  have q:=fin (aW.map (·.1)++ar.2.1) j c kc Lc l o5 (.o (.t [.i j,c.b,.i l])) o7 o8 o9 bT V hl ak As hlen;rw[mu]at q;exact(_,U,a0,_,U,U,q)
theorem ic{M:Nat}{ts:ϑ}(h:Dep M (.t ts)):∃g,M=g+1/\∀x∈ts,Dep g x:=by
 cases M with
 |zero=>obtain⟨x,h⟩|⟨x,h⟩:=h <;> cases h
 |succ M =>
  obtain⟨x,h⟩|⟨x,h⟩|⟨us,h,q⟩:=h
  ·cases h
  ·cases h
  cases h;exact(M,U,q)
theorem lC{M:Nat}{w q:Str}{mid:ϑ}{b b':L2.T}(h:∀M,Dep M b->Dep M b')(hd:Dep M (.t (.s w ::(mid++[b])))):Dep M (.t (.s q ::(mid++[b']))):=by
 let(K,U,hx):=ic hd;refine Dep.t (cI Dep.s λx g=>?_);obtain z|z:=lN.mp g
 ·exact hx x (by simp[z])
 rw[fy.mp z];exact h _ (hx b ba)
structure Gt(ks:ϕ)(hs:List Hd)(r:Str)(n:Nat)(sc:Sc)(b b':L2.T):Prop where
 s:Snd ks hs r n sc b'
 d:∀M,Dep M b->Dep M b'
 z:∀ub9,Nz ub9 b->Nz ub9 b'
inductive Yr(N:Nat)(ts:ϑ)(Q:ϔ):Prop
 |mk(ks:ϕ)(hs:List Hd)(r:Str)(n:Nat)(sc:Sc)(b:L2.T)(h1:ts=[b])(h2:cJ ks)(h3:Snd ks hs r n sc b)(h4:Dep N b)(h5:∀b',Gt ks hs r n sc b b'->Q b')
theorem vD{w:Str}{c:Int}{b:L2.T}(h:Nz ub9 (.t [.s w,.i c,b])):Nz ub9 b:=by generalize e:(.t [.s w,.i c,b]:L2.T)=t at h;cases h <;> simp at e;let(_,_,U):=e;assumption
theorem Ad{b:L2.T}(h:Nz ub9 (.t [.s "name",.s x,.s y,b])):x∈ub9/\Nz ub9 b:=by generalize e:(.t [.s "name",.s x,.s y,b]:L2.T)=t at h;cases h <;> simp at e;let(U,_,U):=e;exact(by assumption,by assumption)
theorem rl{w m:Str}{ns:ϑ}{b:L2.T}(h:Nz ub9 (.t [.s w,.s x,.s m,.t ns,b])):x∈ub9/\Nz ub9 b:=by generalize e:(.t [.s w,.s x,.s m,.t ns,b]:L2.T)=t at h;cases h <;> simp at e;let(_,U,_,_,U):=e;exact(by assumption,by assumption)
theorem F9(h:Nz ub9 (.t [.s "case",.s x,.t (arms.map tA)])):∀(j:Nat)(a:Arm),arms[j]?=Z a->(∀y∈a.2.1,y∈ub9)/\Nz ub9 a.2.2.1:=by generalize e:(.t [.s "case",.s x,.t (arms.map tA)]:L2.T)=t at h;cases h <;> simp at e;rename_i V de h1 h2;let(_,e1):=e;intro j a P;have q:=congrArg (·[j]?) e1;simp only[fZ,P]at q;let(g,h0,Q):=gV.mp q.symm;let(_,K,z):=Dw Q;rw[<- K,<- z];exact(h1 g (jk h0),h2 g (jk h0))
theorem BO(T:Txt K mg a)(N:Nat):aP P w K mg base CX0 (N+2) a.jT a.wm [TZ] (spQ K (Yr N)):=by
 induction N with
 |zero =>
  refine never λts Q hz=>?_;let(ks,hs,r,n,sc,b,_,_,hS,hD,_):=hz;cases hS <;>(obtain⟨x,h⟩|⟨x,h⟩:=hD <;> cases h)
 |succ N gW =>
  refine T.gY.F.okQ Bl (λ_ _ _ _ _ _ hr=>?_);have hu:=bj hr;refine(_,_,((ag (aS (bf hu (ao (qv 0) ah) (ZB aE))
(aj (aC (XL (qv 0))))
aA)
(ag (aS (bf hu (ao (qv 0) ah) (ZB aE))
(aj (aC (aV (ZB (bK (qv 0) cN (bM ah))) (ZB (aq (af (aU (cq U) cp be T.d6 bv (ae (ZB (cu U (gg (ao (qv 0) ah)) (N':=["_law_arm"]) (.own U .nil) (cg (g:=(Tg.nm 0)) (λ_ _ _ _ _=>((dh 0),(aV (ZB (bK (qv 0) cN (bM ah))) (ZB (aq (af (aI gW hr T.gY (ae (ao (qv 0) ah) aw)) ai))))))))) aw)) ai))))))
aA)
(ag (aS (bf hu (ao (qv 0) ah) (ZB aE))
(aj (aC (aq (af aE (af (XL (ao (qv 0) ah)) (af (aI gW hr T.gY (ae (ao (qv 0) ah) aw)) ai))))))
aA)
(aj (aC (aV (ZB (bK (qv 0) cN (bM (ZB (du ah))))) (ZB (aq (af (aI gW hr T.gY (ae (ao (qv 0) (ZB (du ah))) aw)) ai)))))))))),λts Q h=>?_)
  let(ks,hs,r,n,sc,b,U,gk,hS,hD,hq):=h;have ak:=hS.im;obtain⟨_,e0,aF⟩:∃M',N+1=M'+1/\∀(ts:ϑ),b=.t ts->∀x∈ts,Dep M' x:=by refine(N,U,λts e x hx=>?_);subst e;let(M',e,h):=ic hD;cases e;exact h x hx
  cases e0;have one:∀{b':L2.T},b'.im=O->Ϙ [b']=true:=λ{b'} h=>by show(b'.im&&O)=O;rw[h];rfl
  have c1:fw [ϙ "pay"] Y (Z (-1))=[]:=rfl;cases hS with
  |give hx =>exact(_,U,U,ay (λ_=>(ak,hq _ (.give hx,λ_ h=>h,λ_ h=>h))) λz=>absurd bn z)|@bJ n sc w c b hw hc hb =>
   obtain rfl|rfl:=hw
   ·refine(_,U,U,ay (λz=>absurd z (sf bn)) λ_=>(_,U,U,ay (λz=>absurd z (sf bn)) λ_=>(_,U,U,ay (λ_=>?_) λz=>absurd (st U) z)));refine(_,U,U,_,U,ks,hs,r,_,_,b,U,gk,hb,aF _ U b ba,λb' h=>?_);exact hq _ (.bJ (.inr U) hc h.s,λM z=>lC (mid:=[.i c]) h.d z,λub9 z=>.bJ (h.z ub9 (vD z)))
   refine(_,U,U,ay (λz=>absurd z (sf bn)) λ_=>(_,U,U,ay (λz=>absurd z (sf bn)) λ_=>(_,U,U,ay (λz=>absurd z (sf bn)) λ_=>?_)));refine(ak,_,U,ks,hs,r,_,_,b,U,gk,hb,aF _ U b ba,λb' h=>?_);exact((by show 3<=lK;decide),U,one h.s.im,hq _ (.bJ (.inr U) hc h.s,λM z=>lC (mid:=[.i c]) h.d z,λub9 z=>.bJ (h.z ub9 (vD z))))
  |@name n sc x y k b hy hx hb =>refine(_,U,U,ay (λz=>absurd z (sf bn)) λ_=>(_,U,U,ay (λz=>absurd z (sf bn)) λ_=>(_,U,U,ay (λz=>absurd z (sf bn)) λ_=>?_)));refine(ak,_,U,ks,hs,r,_,_,b,U,gk,hb,aF _ U b ba,λb' h=>?_);exact((by show 4<=lK;decide),U,one h.s.im,hq _ (.name hy hx h.s,λM z=>lC (mid:=[.s x,.s y]) h.d z,λub9 z=>.name (Ad z).1 (h.z ub9 (Ad z).2)))|@make n sc x m kd ns b aW hm hF hx hb =>
   refine(_,U,U,ay (λz=>absurd z (sf bn)) λ_=>(_,U,U,ay (λz=>absurd z (sf bn)) λ_=>(_,U,U,ay (λz=>absurd z (sf bn)) λ_=>?_)));refine(ak,_,U,ks,hs,r,_,_,b,U,gk,hb,aF _ U b ba,λb' h=>?_);have a3:Ϙ [.s x,.s m.1,.t (ns.map .s)]=true:=by show(Ϙ (ns.map .s)&&O)=O;rw[aL];rfl
   exact((by show 5<=lK;decide),a3,one h.s.im,hq _ (.make aW hm hF hx h.s,λM z=>lC (mid:=[.s x,.s m.1,.t (ns.map .s)]) h.d z,λub9 z=>.use (rl z).1 (h.z ub9 (rl z).2)))
  |@call n sc x hd ns b hh hF hx hb =>
   refine(_,U,U,ay (λz=>absurd z (sf bn)) λ_=>(_,U,U,ay (λz=>absurd z (sf bn)) λ_=>(_,U,U,ay (λz=>absurd z (sf bn)) λ_=>?_)));refine(ak,_,U,ks,hs,r,_,_,b,U,gk,hb,aF _ U b ba,λb' h=>?_);have a3:Ϙ [.s x,.s hd.1,.t (ns.map .s)]=true:=by show(Ϙ (ns.map .s)&&O)=O;rw[aL];rfl
   exact((by show 5<=lK;decide),a3,one h.s.im,hq _ (.call hh hF hx h.s,λM z=>lC (mid:=[.s x,.s hd.1,.t (ns.map .s)]) h.d z,λub9 z=>.use (rl z).1 (h.z ub9 (rl z).2)))
  |@case sc x kd arms hx aW a5 h1 h2 =>
   have la:arms.length=kd.2.length:=by have:=congrArg CP a5;rwa [dN,dN]at this
   have l6:arms.length<=6:=by have:=(gk.ne kd aW).2;omega
   refine(_,U,U,ay (λz=>absurd z (sf bn)) λ_=>(_,U,U,ay (λ_=>?_) λz=>absurd (st U) z));refine(ak,_,U,aG (by rw[dN];omega),λi ys=>∃q:List Arm,ys=q.map tA/\q.length=i/\∀(j:Nat)(ar aK:Arm),arms[j]?=Z ar->q[j]?=Z aK->aK.1=ar.1/\aK.2.1=ar.2.1/\aK.2.2.2=ar.2.2.2/\∀m,kd.2[j]?=Z m->Gt ks hs r ar.2.2.2 (sc++ar.2.1.zip m.2) ar.2.2.1 aK.2.2.1,([],U,U,λj _ _ _ h=>by simp at h),?_,?_)
   ·rintro i y ys hy ⟨q,rfl,hl,hA⟩;rw[fZ]at hy;let(ar,a0,U):=gV.mp hy;have bc:=(gs.mp a0).1;have hm:kd.2[i]?=Z (kd.2[i]' bd):=fY _;have hS:=h2 i ar _ a0 hm;have hd:Dep N ar.2.2.1:=by let(M1,e1,g1):=ic hD;cases e1;let(M2,U,g2):=ic (g1 (.t (arms.map tA)) ba);let(M3,U,g3):=ic (g2 (tA ar) (nR.mpr (ar,jk a0,U)));exact(g3 ar.2.2.1 ba).mono bd
    have i3:Ϙ [.s ar.1,.t (ar.2.1.map .s),ar.2.2.1]=true:=by show(O&&(Ϙ (ar.2.1.map .s)&&(ar.2.2.1.im&&O)))=O;rw[aL,hS.im];rfl
    have i2:Ϙ [.s ar.1,.t (ar.2.1.map .s)]=true:=by show(O&&(Ϙ (ar.2.1.map .s)&&O))=O;rw[aL];rfl
    refine(_,U,i3,_,U,ks,hs,r,_,_,_,U,gk,hS,hd,λb' g=>?_);refine((by show 3<=lK;decide),i2,one g.s.im,q++[(ar.1,ar.2.1,b',ar.2.2.2)],by rw[mu];rfl,by rw[g5,hl];rfl,λj a1 a2 e1 e2=>?_);by_cases hj:j<q.length
    ·rw[u4 hj]at e2;exact hA j a1 a2 e1 e2
    rw[u6 bd]at e2;have:j=q.length:=by have:=(gs.mp e2).1;simp at this;omega
    subst this;rw[ae9]at e2;cases e2;rw[hl,a0]at e1;cases e1;refine(U,U,U,λm e=>?_);rw[hl,hm]at e;cases e;exact g
   rintro ys ⟨q,rfl,hl,hA⟩;rw[dN]at hl;have a9:q.map (·.1)=arms.map (·.1):=ac7 (by simp[hl]) λj g1 g2=>by
    rw[dN]at g1 g2;rw[ZD,ZD];exact(hA j _ _ (fY g2) (fY g1)).1
   have a6:q.map (·.2.2.2)=arms.map (·.2.2.2):=ac7 (by simp[hl]) λj g1 g2=>by
    rw[dN]at g1 g2;rw[ZD,ZD];exact(hA j _ _ (fY g2) (fY g1)).2.2.1
   have old:∀{j:Nat}{V:Arm},q[j]?=Z V->∃ar m,arms[j]?=Z ar/\kd.2[j]?=Z m:=λ{j V} h=>(_,_,fY (by have:=(gs.mp h).1;omega),fY (by have:=(gs.mp h).1;omega));have nS:Snd ks hs r (1+(arms.map (·.2.2.2)).sum) sc (.t [.s "case",.s x,.t (q.map tA)]):=by
    rw[<- a6];refine .case q hx aW (a9.trans a5) (λj V m e1 e2=>?_) λj V m e1 e2=>?_
    ·let(ar,_,e0,_):=old e1;rw[(hA j ar V e0 e1).2.1];exact h1 j ar m e0 e2
    let(ar,_,e0,_):=old e1;let(_,z2,z3,z4):=hA j ar V e0 e1;rw[z2,z3];exact(z4 m e2).s
   have Qw:Ϙ (q.map tA)=true:=by have h:(O&&(O&&(Ϙ (q.map tA)&&O)))=true:=nS.im;simpa using h
   refine(Qw,(by show 3<=lK;decide),U,one (b':=.t (q.map tA)) Qw,hq _ (nS,λM hM=>?_,λub9 hU=>?_))
   ·let(M1,U,g1):=ic hM;let(M2,U,g2):=ic (g1 (.t (arms.map tA)) ba);refine Dep.t (cI Dep.s (cI Dep.s (cI (Dep.t λt ht=>?_) ie)));let(V,a4,U):=nR.mp ht;let(j,hj,e1):=ro a4;have e1:q[j]?=Z V:=by rw[fY hj,e1]
    let(ar,m,e0,em):=old e1;let(z1,z2,z3,z4):=hA j ar V e0 e1;let(M3,U,g3):=ic (g2 (tA ar) (nR.mpr (ar,jk e0,U)));refine Dep.t (cI Dep.s (cI ?_ (cI ((z4 m em).d _ (g3 ar.2.2.1 ba)) ie)));rw[z2];exact g3 _ ba
   have hz:=F9 hU;have both:∀V∈q,(∀y∈V.2.1,y∈ub9)/\Nz ub9 V.2.2.1:=λV a4=>by
    let(j,hj,e1):=ro a4;have e1:q[j]?=Z V:=by rw[fY hj,e1]
    let(ar,m,e0,em):=old e1;let(z1,z2,z3,z4):=hA j ar V e0 e1;let(w1,w2):=hz j ar e0;exact(by rw[z2];exact w1,(z4 m em).z ub9 w2)
   exact .case (λV h=>(both V h).1) λV h=>(both V h).2
theorem Kid.nz{b b' am:L2.T}(h:Kid ks hs sc b j b' am sc')(q:Nz ub9 b)(g:∀p∈sc,p.1∈ub9):Nz ub9 b'/\∀p∈sc',p.1∈ub9:=by
 have one:∀{x k:Str},x∈ub9->∀p∈sc++[(x,k)],p.1∈ub9:=λ{x k} hx p hp=>by
  obtain z|z:=lN.mp hp
  ·exact g p z
  rw[fy.mp z];exact hx
 cases h with
 |bJ=>exact(vD q,g)|name _ _=>let(h1,h2):=Ad q;exact(h2,one h1)|make _ _ _=>let(h1,h2):=rl q;exact(h2,one h1)|call _ _=>let(h1,h2):=rl q;exact(h2,one h1)|case _ _ _ K _ _ _ =>
  let(h1,h2):=F9 q _ _ K;refine(h2,λp hp=>?_);obtain z|z:=lN.mp hp
  ·exact g p z
  exact h1 _ (Zm z).1
def PrZ(ub9:Γ)(fs:ϖ):Prop:=∀f∈fs,Nz ub9 f.2.1/\∀p∈f.1.2.1,p.1∈ub9
theorem UU{fs:ϖ}{f:Fn}(z:PrZ ub9 fs)(hf:f∈fs)(q:bx ks (fs.map (·.1)) 0 [rtN f] L):∀e∈L,Nz ub9 e.b/\∀p∈e.sc,p.1∈ub9:=
 q.all (R:=λd=>Nz ub9 d.b/\∀p∈d.sc,p.1∈ub9) (λn d j b am sc g hk=>hk.nz g.1 g.2) _ U λd hd=>by
  rw[fy.mp hd];exact z f hf
theorem Shp.hd{b:L2.T}(h:Shp b):∃w r,b=.t (.s w::r):=by cases h <;> exact(_,_,U)
theorem bx.shp:∀(k:Nat){n:Nat}{ds M:List Nod},M.length=k->bx ks hs n ds M->∀e∈M,Shp e.b:=by
 intro k;induction k with
 |zero =>
  intro n ds M hl h e he;rw[uG.mp hl]at he;cases he
 |succ k g =>
  intro n ds M hl h e he;cases ds with
  |nil=>cases h;simp at hl
  |cons z ds =>
   let(cs,K,q,U,h2):=h.pop;obtain rfl|he:=lb.mp he
   ·exact q.sh
   exact g (hl:) h2 e he
theorem bx.shd(h:bx ks hs n ds M):∀c∈ds,Shp c.b:=by
 induction ds generalizing n M with
 |nil=>exact nofun|cons d ds q =>
  cases h with
  |cons h1 h2 =>
   intro c g;obtain rfl|g:=lb.mp g
   ·cases h1 with|mk hk _=>exact hk.sh
   exact q h2 c g
theorem bx.shk:∀(k:Nat){n:Nat}{ds M:List Nod},M.length=k->bx ks hs n ds M->∀e∈M,∀p∈subs e.b,Shp p.1:=by
 intro k;induction k with
 |zero =>
  intro n ds M hl h e he;rw[uG.mp hl]at he;cases he
 |succ k g =>
  intro n ds M hl h e he;cases ds with
  |nil=>cases h;simp at hl
  |cons K ds =>
   let(cs,P,z,U,h2):=h.pop;obtain rfl|he:=lb.mp he
   ·intro p hp;rw[<- z.su]at hp;let(c,q,U):=nR.mp hp;exact h2.shd c (ui _ q)
   exact g (hl:) h2 e he
theorem Iw{fs:ϖ}{f:Fn}(K:Prog ks fs)(hf:f∈fs)(hR:Pre ks (fs.map (·.1)) 0 (rtN f) L):∃(m:Nat)(e:Nod)(x:Str),L[m]?=Z e/\e.b=.t [.s "give",.s x]:=by
 have g:bx ks (fs.map (·.1)) 0 [rtN f] L:=by have:=bx.cons hR (.nil);rwa [pq]at this
 have hl:0<L.length:=by cases hR;simp
 have he:L[L.length-1]?=Z (L[L.length-1]' bd):=fY _;generalize(L[L.length-1]' bd)=e at he;have no:∀b am rest,subs e.b≠(b,am)::rest:=λb am rest h=>by
  let(Q,h1,_):=g.nxt _ U _ e b am rest he h;have:=(gs.mp h1).1;omega
 let(m,S):=Od K hf g e (jk he);refine(L.length-1,e,?_);generalize e.b=b at S no
 suffices h:∃x,b=.t [.s "give",.s x]from h.elim λx h=>(x,he,h)
 cases S with
 |give=>exact(_,U)|bJ _ _ _=>exact absurd U (no _ _ _)|name _ _ _=>exact absurd U (no _ _ _)|make _ _ _ _ _=>exact absurd U (no _ _ _)|call _ _ _ _=>exact absurd U (no _ _ _)|@case _ x kd arms hx z q h1 h2 =>
  have P:arms.length=kd.2.length:=by have:=congrArg CP q;rwa [dN,dN]at this
  have:=Mn.mpr (K.gk.ne kd z).1;cases arms with|nil=>rw[ZJ]at P;omega|cons ar r=>exact absurd U (no _ _ _)
def Fb(ks:ϕ)(fs:ϖ)(s f n:Int)(x:Str):Prop:=(s=0/\V7 ks fs f n)\/(s=1/\V6 ks fs f n)\/(s=2/\V5 ks fs f n x)
theorem JB{fs:ϖ}{s f n:Int}(h0:0<=s)(h3:s<3)(h:Out ks fs f n):Fb ks fs s f n x:=by have:s=0\/s=1\/s=2:=bd;exact this.imp (λe=>(e,.inl h)) λz=>z.imp (λe=>(e,.inl h)) λe=>(e,.inl h)
inductive O5(ts:ϑ)(Q:ϔ):Prop
 |mk(ks:ϕ)(fs:ϖ)(ub9:Γ)(h1:ts=[.dE,tPr ks fs])(h2:Prog ks fs)(h3:fs ≠ [])(h4:Rr ub9)(h5:PrZ ub9 fs)(h6:∀s f n x,Fb ks fs s f n x->Q (.t [.i s,.i f,.i n,.s x]))
theorem RW{len d1 g r:Int}(hl:0<=len)(h1:0<=d1)(h2:0<=g)(z:0<=r)(q:r<4):∃v,atI [Ϛ (-1),.i len,.i (len+d1),.i (-1-g)] r=Z (.i v)/\¬ In v len:=by let(n,U):=Fd z;match n,q with| 0,_=>exact(_,U,λh=>by have:=h.1;omega)| 1,_=>exact(_,U,λh=>by have:=h.2;omega)| 2,_=>exact(_,U,λh=>by have:=h.2;omega)| 3,_=>exact(_,U,λh=>by have:=h.1;omega)|n+4,h=>omega
theorem LL(T:Txt K mg a):aP P w K mg base CX0 96 a.uu a.GA [WF,T0] (spQ K O5):=by
 have aO:=lB (@g8 P w K mg base a T);refine T.G6.F.okQ cE (λ_ _ _ _ _ _ hr=>?_);have hu:=bj hr;refine(_,_,((ag (az 2 cE.nd (aI aO hr T.a6 (ae (qv 0) (ae ah aw))))
(ag (az 3 cE.nd (aI aO hr T.a6 (ae (qv 0) (ae ah aw))))
(ag (az 4 cE.nd (aI aO hr T.a6 (ae (qv 0) (ae (ZB (bq T.bP (ae (ao (qv 1) ah) aw))) aw))))
(ag (az 5 cE.nd (XL (ao (ao (qv 1) ah) (qv 4))))
(ag (az 6 cE.nd (aI (nC T 92) hr T.jr (ae (ao (qv 5) ah) aw)))
(ag (az 7 cE.nd (aI aO hr T.a6 (ae (qv 0) (ae (ZB (bq T.bP (ae (qv 6) aw))) aw))))
(ag (az 8 cE.nd (XL (ao (ZB (aV (ZB (aI (Ij T) hr T.xb (ae (qv 5) aw))) (ZB (aM (fb be))))) ah)))
(ag (aS (bf hu (qv 2) ah)
(ag (az 9 cE.nd (aM (af (du ah) (af (bq T.bP (ae (ao (qv 1) ah) aw)) (af (aV (ZB (bq T.bP (ae (ao (qv 1) ah) aw))) (ZB (aI aO hr T.a6 (ae (qv 0) (ae ah aw))))) (af (zQ (ZB (du ah)) (ZB (aI aO hr T.a6 (ae (qv 0) (ae ah aw))))) ai))))))
(aj (aC (aq (af (XL (qv 3)) (af (XL (ao (qv 9) (ZB (aI aO hr T.a6 (ae (qv 0) (ae ah aw)))))) (af (XL (qv 7)) (af (XL (qv 8)) ai))))))))
aA)
(ag (aS (bf hu (qv 2) ah)
(ag (az 9 cE.nd (aM (af (du ah) (af (bq T.bP (ae (qv 6) aw)) (af (aV (ZB (bq T.bP (ae (qv 6) aw))) (ZB (aI aO hr T.a6 (ae (qv 0) (ae ah aw))))) (af (zQ (ZB (du ah)) (ZB (aI aO hr T.a6 (ae (qv 0) (ae ah aw))))) ai))))))
(aj (aC (aq (af (XL (qv 3)) (af (XL (qv 4)) (af (XL (ao (qv 9) (ZB (aI aO hr T.a6 (ae (qv 0) (ae ah aw)))))) (af (XL (qv 8)) ai))))))))
aA)
(ag (aS (bf hu (qv 2) ah)
(ag (fO (i:=10) cE.nd U (Or.inl U) U (iZ U T.fB (ae (ZB (bq T.bP (ae (qv 6) aw))) aw)) (N':=[Sa,Su]) (.own U (.got (i:=6) U U (.inl U) .nil)) (zU (g:=(Tg.nm 0)) (λ_ _ _ _ _=>((dh 0),(bD FY zu (bW _) (ao (ao (qv 1) (qv 0)) ah) (ZB aE)),(XL (qv 0))))))
(aj (aC (aq (af bF (af (XL (qv 4)) (af (XL (ao (qv 10) (ZB (aI aO hr T.a6 (ae (qv 0) (ae (ZB (bq T.bP (ae (qv 10) aw))) aw)))))) (af (XL (qv 8)) ai))))))))
aA)
(ag (aS (bf hu (qv 2) ah)
(ag (fO (i:=10) cE.nd U (Or.inl U) U (iZ U T.fB (ae (ZB (bq T.bP (ae (qv 6) aw))) aw)) (N':=[Sa,Su]) (.own U (.got (i:=6) U U (.inl U) .nil)) (zU (g:=(Tg.nm 0)) (λ_ _ _ _ _=>((dh 0),(kM (ZB (aI (LN T) hr T.G8 (ae (ao (qv 1) (qv 0)) aw)))),(XL (qv 0))))))
(aj (aC (aq (af bF (af (XL (qv 4)) (af (XL (ao (qv 10) (ZB (aI aO hr T.a6 (ae (qv 0) (ae (ZB (bq T.bP (ae (qv 10) aw))) aw)))))) (af (XL (qv 8)) ai))))))))
aA)
(ag (fO (i:=10) cE.nd U (Or.inl U) U (l5 (ZB (aV (ZB (aI (Ij T) hr T.xb (ae (qv 5) aw))) (ZB (aM (fb be)))))) (N':=["_law_y",TD,SC]) (.own U (.got (i:=5) U U (.inl U) (.got (i:=7) U U (.inl U) .nil))) (zU (g:=(Tg.nm 0)) (λ_ _ _ _ _=>((dh 0),(bD (qX U) gH U (qv 0) (ZB (aI (LV T) hr T.He (ae (qv 1) (ae (qv 2) aw))))),(XL (qv 0))))))
(aj (aC (aq (af bF (af (XL (qv 4)) (af (XL (qv 7)) (af (XL (ao (qv 10) (ZB (aI aO hr T.a6 (ae (qv 0) (ae (ZB (bq T.bP (ae (qv 10) aw))) aw)))))) ai)))))))))))))))))))),λts Q h=>?_)
 let(ks,fs,ub9,U,hP,a3,hW,hZ,hq):=h;have l0:0<fs.length:=Mn.mpr a3;have l8:=hP.l8;have lf:((fs.map tF).length:Int)=fs.length:=by rw[dN]
 refine(ad,ad,λfm f0 f1=>(ad,ad,λso s0 s1=>?_));refine(_,U,by rw[lf];omega,by rw[lf];omega,λfi i0 i1=>?_);let(i,U):=Fd i0;rw[lf]at i1;have bT:i<fs.length:=bd;have hf:fs[i]?=Z fs[i]:=fY bT;generalize fs[i]=fn at hf;have aK:=jk hf;let(a9,bA):=hP.sn fn aK;let(L,hR,hL):=a9.pre bA 0 .n .n [];have hL:L.length<=50000:=bd;have hR:Pre ks (fs.map (·.1)) 0 (rtN fn) L:=hR;have aW:bx ks (fs.map (·.1)) 0 [rtN fn] L:=by have:=bx.cons hR (.nil);rwa [pq]at this
 have ef:atI (fs.map tF) (i:Int)=Z (tF fn):=bu (by rw[fZ,hf];rfl);let(aF,eg,xg,hmg,Sy):=Iw hP aK hR;have cx:0<L.length:=by have:=(gs.mp hmg).1;omega
 have lL:((L.map (·.b)).length:Int)=L.length:=by rw[dN]
 have bG:(tF fn).im=true:=by show(O&&(Ϙ (fn.1.2.1.map tP)&&(O&&(fn.2.1.im&&O))))=O;rw[aY fh,a9.im];rfl
 refine(_,U,_,ef,bG,_,U,ks,fs.map (·.1),0,rtN fn,L,U,hR,hP.dp fn aK,hL,?_);refine(by rw[lL];omega,by rw[lL];omega,λn' n0 n1=>?_);let(n,U):=Fd n0;rw[lL]at n1;have bQ:n<L.length:=bd;have hn:L[n]?=Z L[n]:=fY bQ;generalize L[n]=e at hn;refine(ks,fs,fn,L,U,hP,aK,hR,hL,λX hX cA=>?_);let(p1,p2,p3,p4):=hP.pk fn aK;have lX:((fn.1.2.1.map (·.1)++X).map ϙ).length<=1300000:=by rw[dN,g5,dN];omega
 have ex:∃x0,atI ((fn.1.2.1.map (·.1)++X).map ϙ++[ϙ zz8]) 0=Z (.s x0):=by cases e:fn.1.2.1.map (·.1)++X with|nil=>exact(_,U)|cons x r=>exact(_,bE)
 let(x0,ex):=ex;refine(v5 (ff (by show _+1<=2000000;omega)),aL _,U,_,ex,U,?_);have ct:(0:Int)<=fs.length:=bd;have cy:(0:Int)<=L.length:=bd;have hA:At ks fs (i:Int) (n:Int) i n fn L e:=(U,U,hf,hR,hL,hn);refine(U,ay (λ_=>?f0) λ_=>(U,ay (λ_=>?f1) λ_=>(U,ay (λ_=>?f2) λ_=>(U,ay (λ_=>?f3) λ_=>?f4))));case f0 =>refine(_,U,_,U,ad,ad,λd1 a0 a1=>?_);refine(ad,ad,λd2 b0 b1=>?_);refine(U,ad,ad,λr r0 r1=>?_);let(v,ev,hv):=RW (len:=((fs.map tF).length:Int)) (by rw[lf];omega) a0 b0 r0 r1;rw[lf]at hv;exact(_,ev,U,U,U,hq _ _ _ _ (JB s0 s1 (.inl hv)))
 case f1 =>refine(ad,ad,λd1 a0 a1=>?_);refine(ad,ad,λd2 b0 b1=>?_);refine(U,U,ad,ad,λr r0 r1=>?_);let(v,ev,hv):=RW (len:=((L.map (·.b)).length:Int)) (by rw[lL];omega) a0 b0 r0 r1;rw[lL]at hv;exact(_,ev,U,U,hq _ _ _ _ (JB s0 s1 (.inr (i,fn,L,U,hf,hR,hL,hv))))
 case f2 =>
  show i5 _ _ _ [.r .dE,.r (tPr ks fs),.o (.i fm),.o (.i so),.o (.i (i:Int)),.o (tF fn),.o (.l (L.map (·.b))),.o (.i (n:Int)),.o (.s x0),.no,.no];refine(by rw[lL];omega,by rw[lL];omega,ff (by rw[cZ,lL];omega),λc ys=>∃js:List Nat,ys=js.map (λ(j:Nat)=>Ϛ (j:Int))/\(∀j∈js,∃(e:Nod)(w:Str)(r:ϑ),L[j]?=Z e/\e.b=.t (.s w::r)/\w ≠ "call")/\js.length<=c/\(aF<c->aF∈js),([],U,nofun,mz _,λh=>absurd h (aa7 _)),?_,?_)
  ·rintro j y ys hy ⟨js,rfl,hj,ak,V⟩;let(U,a5):=iG hy;rw[lL]at a5;have a4:j<L.length:=bd;have ar:L[j]?=Z L[j]:=fY a4;generalize L[j]=ej at ar;have cb:Shp ej.b:=aW.shp _ U ej (jk ar);let(w',r',eb):=cb.hd;have ea:atI (L.map (·.b)) (0+(j:Int))=Z (.t (.s w'::r')):=by rw[ZH];exact bu (by rw[fZ,ar,<- eb];rfl)
   have keep:∀{js:List Nat},(∀j∈js,∃(e:Nod)(w:Str)(r:ϑ),L[j]?=Z e/\e.b=.t (.s w::r)/\w ≠ "call")->True:=λ_=>trivial;refine(_,U,_,ea,_,bE,U,ay (λz=>?_) λz=>?_)
   ·refine(U,js++[j],by rw[mu,ZH];rfl,λm hm=>?_,by rw[g5];exact ac8 ak,λh=>?_)
    ·obtain h|h:=lN.mp hm
     ·exact hj m h
     rw[fy.mp h];exact(ej,w',r',ar,eb,λe=>by rw[e]at z;exact absurd z bn)
    by_cases h':aF<j
    ·exact ui _ (V h')
    rw[show aF=j by omega];exact p7 _ (fy.mpr U)
   refine(js,U,hj,bd,λh=>?_);by_cases h':aF<j
   ·exact V h'
   have:aF=j:=bd;subst this;rw[hmg]at ar;cases ar;rw[Sy]at eb;cases eb;exact absurd (nf bn) z
  rintro ys ⟨js,rfl,hj,ak,V⟩;rw[cZ,lL]at ak V;have a3:0<js.length:=Mn.mpr λe=>by
   have:=V (by have:=(gs.mp hmg).1;omega);rw[e]at this;cases this
  refine(U,by rw[dN];omega,by rw[dN];omega,λm m0 m1=>?_);let(M,U):=Fd m0;rw[dN]at m1;have hM:M<js.length:=bd;let(e',w',r',q1,q2,q3):=hj _ (Jr hM);exact(_,bu (by rw[fZ,fY hM];rfl),U,U,hq _ _ _ _ (.inl (U,.inr (i,_,fn,L,e',w',r',(U,U,hf,hR,hL,q1),q2,q3))))
 case f3 =>
  show i5 _ _ _ [.r .dE,.r (tPr ks fs),.o (.i fm),.o (.i so),.o (.i (i:Int)),.o (tF fn),.o (.l (L.map (·.b))),.o (.i (n:Int)),.o (.s x0),.no,.no];have G:=yG hP aK aW;refine(by rw[lL];omega,by rw[lL];omega,ff (by rw[cZ,lL];omega),λc ys=>∃js:List Nat,ys=js.map (λ(j:Nat)=>Ϛ (j:Int))/\(∀j∈js,∃(e:Nod),L[j]?=Z e/\Nf e.b)/\js.length<=c/\(aF<c->aF∈js),([],U,nofun,mz _,λh=>absurd h (aa7 _)),?_,?_)
  ·rintro j y ys hy ⟨js,rfl,hj,ak,V⟩;let(U,a5):=iG hy;rw[lL]at a5;have a4:j<L.length:=bd;have ar:L[j]?=Z L[j]:=fY a4;generalize L[j]=ej at ar;have Vz:=jk ar;have ea:atI (L.map (·.b)) (0+(j:Int))=Z ej.b:=by rw[ZH];exact bu (by rw[fZ,ar];rfl)
   refine(_,U,_,ea,ej.b,92,U,(G ej Vz).d92,aW.shp _ U ej Vz,aW.shk _ U ej Vz,λr h1 h2=>ay (λz=>?_) λz=>?_)
   ·refine(U,js++[j],by rw[mu,ZH];rfl,λm hm=>?_,by rw[g5];exact ac8 ak,λh=>?_)
    ·obtain h|h:=lN.mp hm
     ·exact hj m h
     rw[fy.mp h];exact(ej,ar,h1 z)
    by_cases h':aF<j
    ·exact ui _ (V h')
    rw[show aF=j by omega];exact p7 _ (fy.mpr U)
   refine(js,U,hj,bd,λh=>?_);by_cases h':aF<j
   ·exact V h'
   have:aF=j:=bd;subst this;rw[hmg]at ar;cases ar;exact absurd (h2 (_,Sy)) z
  rintro ys ⟨js,rfl,hj,ak,V⟩;rw[cZ,lL]at ak V;have a3:0<js.length:=Mn.mpr λe=>by
   have:=V (by have:=(gs.mp hmg).1;omega);rw[e]at this;cases this
  refine(U,by rw[dN];omega,by rw[dN];omega,λm m0 m1=>?_);let(M,U):=Fd m0;rw[dN]at m1;have hM:M<js.length:=bd;let(e',q1,q2):=hj _ (Jr hM);exact(_,bu (by rw[fZ,fY hM];rfl),U,U,hq _ _ _ _ (.inr (.inl (U,.inr (i,_,fn,L,e',(U,U,hf,hR,hL,q1),q2)))))
 case f4 =>
  show i5 _ _ _ [.r .dE,.r (tPr ks fs),.o (.i fm),.o (.i so),.o (.i (i:Int)),.o (tF fn),.o (.l (L.map (·.b))),.o (.i (n:Int)),.o (.s x0),.no,.no];refine(ks,fs,fn,L,U,hP,aK,hR,hL,λX' cC Zq=>?_);have cw:((fn.1.2.1.map (·.1)++X').map ϙ).length<=1300000:=by rw[dN,g5,dN];omega
  have bc:zz8 ∉ e.sc.map (·.1):=λh=>by
   let(p,hp,ep):=nR.mp h;exact hW (ep▸(UU hZ aK aW e (jk hn)).2 p hp)
  have eL:(fn.1.2.1.map (·.1)++X').map ϙ++[ϙ zz8,.s "q",.s "zqz"]=(fn.1.2.1.map (·.1)++X'++[zz8,"q","zqz"]).map ϙ:=(mu (f:=ϙ) (l₁:=fn.1.2.1.map (·.1)++X') (l₂:=[zz8,"q","zqz"])).symm;refine(v5 (ff (by show _+3<=2000000;omega)),aL _,U,ff (by rw[g5];show _+3<=2000000;omega),λc ys=>∃zs:Γ,ys=zs.map .s/\(∀z∈zs,z ∉ e.sc.map (·.1))/\zs.length<=c/\((fn.1.2.1.map (·.1)++X').length<c->zs ≠ []),([],U,nofun,mz _,λh=>absurd h (aa7 _)),?_,?_)
  ·rintro j y ys hy ⟨zs,rfl,hj,ak,V⟩;have hy:((fn.1.2.1.map (·.1)++X').map ϙ++[ϙ zz8,.s "q",.s "zqz"])[j]?=Z y:=hy;rw[eL]at hy;rw[fZ]at hy;let(z,hz,U):=gV.mp hy;refine(_,U,ks,fs,fn,L,n,e,U,hP,aK,hR,hL,hn,bw _,ay (λw=>?_) λw=>?_)
   ·refine(U,zs++[z],by rw[mu];rfl,λm hm=>?_,by rw[g5];exact ac8 ak,λ_=>ba);obtain h|h:=lN.mp hm
    ·exact hj m h
    rw[fy.mp h];intro h;have w:(!inT (.s z) ((e.sc.map (·.1)).map ϙ))=true:=w;rw[Zx,<- ac6,bY,fg]at w;exact w h
   refine(zs,U,hj,bd,λh=>?_);by_cases h':(fn.1.2.1.map (·.1)++X').length<j
   ·exact V h'
   have ej:j=(fn.1.2.1.map (·.1)++X').length:=bd;rw[ej,u6 (mz _),ae9]at hz;cases hz;refine absurd ?_ w;show(!inT (.s zz8) ((e.sc.map (·.1)).map ϙ))=O;rw[Zx,<- ac6,bY,fg];exact bc
  rintro ys ⟨zs,rfl,hj,ak,V⟩;have a3:0<zs.length:=Mn.mpr (V (by rw[g5 (as:=(fn.1.2.1.map (·.1)++X').map ϙ),dN (f:=ϙ)];exact Nat.lt_add_of_pos_right ad));rw[g5]at ak;have ak:zs.length<=1300003:=by have:([ϙ "zzzzzzzz",.s "q",.s "zqz"]:ϑ).length=3:=rfl;have h3:zs.length<=_+3:=ak;omega
  refine(U,U,by rw[dN];omega,by rw[dN];omega,λm m0 m1=>?_);let(M,U):=Fd m0;rw[dN]at m1;have hM:M<zs.length:=bd;exact(_,bu (by rw[fZ,fY hM];rfl),U,hq _ _ _ _ (.inr (.inr (U,.inr (i,n,fn,L,e,hA,hj _ (Jr hM))))))
inductive HU(ts:ϑ)(Q:ϔ):Prop
 |mk(ks:ϕ)(fs:ϖ)(t:L2.T)(s f n:Int)(x:Str)(h1:ts=[tPr ks fs,t,.t [.i s,.i f,.i n,.s x]])(h2:(t=.n\/∃us,t=.t us/\Ϙ us=O))(h3:Prog ks fs)(h4:Fb ks fs s f n x)(h5:Q (.b O))
theorem Kl(T:Txt K mg a){Q:ϔ}{s0 s1 s2 s3 s4 s5 s6:Sl}(hq:Q (.b O)):
  T6 K fns a.aF 8 (nu 7 (qIm (aQ 8))) FO a.a9 [] [] ((cM.fn Q).seq (i5 (vn (Uc (K3 K fns [a.bU,a.bT,a.bA,a.dG,a.cy,a.cb] (aQ 7))) (λD q=>qC (.b ϊ) q D.rt) oH) λD q=>K6 (K4 K fns (B.ref a.a9) (aQ 7)) (K4 K fns (B.type "ValueError") (aQ 7)) q D.rt)) [s0,s1,s2,s3,s4,s5,s6,.o .n,.no]:=by
 refine X0 T.dj Tt ?_;have no:∀(i:Nat)(x:J),[a.aF,a.cy,a.bA,a.cb,a.bT,a.a9,a.bU,a.dG][i]?=Z x->i≠5->i≠0->(B.ref a.a9 :: .ref a.aF::bmV).contains (.ref x)=false:=λi x hi h3 h0=>Tv (R3 T.nd i 5 hi U h3) (R3 T.nd i 0 hi U h0);have hv:(B.ref a.a9 :: .ref a.aF::bmV).contains (.type "ValueError")=true:=by rw[x2,x2];exact ab0.mpr (.inr (ab0.mpr (.inr bn)))
 have g:([a.bU,a.bT,a.bA,a.dG,a.cy,a.cb].any λx=>(B.ref a.a9 :: .ref a.aF::bmV).contains (.ref x))=false:=by rw[GP,GP,GP,GP,GP,GP,no 6 _ U ad ad,no 4 _ U ad ad,no 2 _ U ad ad,no 7 _ U ad ad,no 1 _ U ad ad,no 3 _ U ad ad];rfl
 refine(U,_,_,T.dj,?_);rw[g];refine(_,_,T.dj,?_);rw[Tw];refine(_,_,T.dj,?_);rw[hv];exact hq
theorem D9(T:Txt K mg a):aP P w K mg base CX0 20 a.me a.yJ [T0,Rs,SL] (spQ K HU):=by
 refine T.y7.F.okQ dm (λ_ _ _ _ _ _ hr=>?_);have hu:=bj hr;refine(_,_,((ag (qT (g:=(Tg.tp [3,4,5,6])) (qv 2) (oQ (K:=K) (n:=4) U U (cj (br 3 dm.nd) (cj (br 4 dm.nd) (cj (br 5 dm.nd) (cj (br 6 dm.nd) oP))))))
(ag (az 7 dm.nd cO)
(ag (T2 (λ_ _=>(a8 (gL (QPW.pt (qR (bD vx oq (bW _) (qv 1) (ZB cO)) (lV (bf hu (qv 3) ah))))
(a8 (iX (nt (vy T) hr T.mY (ae (qv 0) (ae (qv 4) (ae (qv 5) aw))))))
(a8 (gL (QPW.pt (qR (bD vx oq (bW _) (qv 1) (ZB cO)) (lV (bf hu (qv 3) ah))))
(a8 (iX (nt (LP T) hr T.Ha (ae (qv 0) (ae (qv 4) (ae (qv 5) aw))))))
(a8 (gL (bD vx oq (bW _) (qv 1) (ZB cO))
(a8 (iX (nt (LO T) hr T.G9 (ae (qv 0) (ae (qv 4) (ae (qv 5) (ae (qv 6) aw)))))))
(a8 (gL (bf hu (qv 3) ah)
(a8 (iX (nt (qZ T) hr T.kr (ae (qv 0) (ae (qv 4) (ae (qv 5) (ae (qv 1) aw)))))))
(a8 (gL (bf hu (qv 3) ah)
(a8 (iX (nt (vA T) hr T.m4 (ae (qv 0) (ae (qv 4) (ae (qv 5) (ae (qv 1) aw)))))))
(a8 (iX (nt (vz T) hr T.mZ (ae (qv 0) (ae (qv 4) (ae (qv 5) (ae (qv 6) (ae (qv 1) aw)))))))))))))))))))
(WI (i:=8) U dm.nd U U U T.xD T.zj (λ_=>(aj (az 7 dm.nd (XL (qv 8)))))
KO))
(ag (aS (kM (ZB (OU U U T.jV (i8 T.Hu U T.Ef (i8 T.Ht U T.Ee (i8 T.A7 U T.Ah (i8 T.NY U T.LY (i8 T.Jy U T.Io (i8 T.Hs U T.Ed Pw)))))) (qv 7))))
(aj (aC yx))
aA)
(aj (aC (T9 (ZB (T7 U T.dj U T.jV U T.fL (qv 7))) (KP (T8 (fn:=fns) (n:="ValueError") U bn U T.jV U T.AK bv (qv 7))))))))))),λts Q h=>?_)
 let(ks,fs,t,s,f,n,x,U,ht,V,hR,hq):=h;refine(U,_,U,?_);have tail:=λ(s0 s1 s2 s3 s4 s5 s6:Sl)=>Kl (s0:=s0) (s1:=s1) (s2:=s2) (s3:=s3) (s4:=s4) (s5:=s5) (s6:=s6) T hq;have y:∀{c:Prop} [Decidable c],c->¬(¬ decide c=O):=λh z=>z (decide_eq_true h);obtain rfl |⟨us,rfl,ak⟩:=ht
 ·obtain⟨rfl,q⟩|⟨rfl,q⟩|⟨rfl,q⟩:=hR
  ·refine(U,ay (λ_=>(ks,fs,f,n,U,V,q,?_)) λz=>(y U z).elim);exact tail _ _ _ _ _ _ _
  ·refine(U,ay (λz=>absurd z ad) λ_=>(U,ay (λ_=>(ks,fs,f,n,U,V,q,?_)) λz=>(y U z).elim));exact tail _ _ _ _ _ _ _
  refine(U,ay (λz=>absurd z ad) λ_=>(U,ay (λz=>absurd z ad) λ_=>(ks,fs,f,n,x,U,V,q,?_)));exact tail _ _ _ _ _ _ _
 obtain⟨rfl,q⟩|⟨rfl,q⟩|⟨rfl,q⟩:=hR
 ·refine(U,ay (λ_=>(ks,fs,f,n,_,U,V,q,?_)) λz=>(y U z).elim);exact tail _ _ _ _ _ _ _
 ·refine(U,ay (λz=>absurd z ad) λ_=>(U,ay (λ_=>(ks,fs,f,n,_,U,V,q,?_)) λz=>(y U z).elim));exact tail _ _ _ _ _ _ _
 refine(U,ay (λz=>absurd z ad) λ_=>(U,ay (λz=>absurd z ad) λ_=>(ks,fs,f,n,x,_,U,V,q,?_)));exact tail _ _ _ _ _ _ _
theorem S9{fs:ϖ}(p:Prog ks fs):∃xs,Unk ks fs xs:=by
 have one:∀f∈fs,∃os L,Pre ks (fs.map (·.1)) 0 (rtN f) L/\L.length<=50000/\Nw ks L os:=λf hf=>by
  let(hS,h5):=p.sn f hf;let(L,hR,ar):=hS.pre h5 0 .n .n [];have hR:Pre ks (fs.map (·.1)) 0 (rtN f) L:=hR;have P:bx ks (fs.map (·.1)) 0 [rtN f] L:=by have:=bx.cons hR (.nil);rwa [pq]at this
  have ak:=P.asks _ U;have:∀M:List Nod,(∀e∈M,∃o,Ask ks e.sc e.b o)->∃os,Nw ks M os:=by
   intro M;induction M with
   |nil=>intro _;exact([],U,λn e o h=>by simp at h)
   |cons e r K =>
    intro h;let(o,ho):=h e j4;let(os,h1):=K λe he=>h e (j6 _ he);refine(o::os,by simp[h1.ln],λn e' o' he q=>?_);cases n with
    |zero=>cases he;cases q;exact ho
    |succ n=>exact h1.ok n e' o' (he:) (q:)
  let(os,hA):=this L ak;exact(os,L,hR,bd,hA)
 have:∀z:ϖ,(∀g∈z,g∈fs)->∃(xs:List (Fn×ϗ)),xs.map (·.1)=z/\(∀x∈xs,∃L,Pre ks (fs.map (·.1)) 0 (rtN x.1) L/\L.length<=50000/\Nw ks L x.2):=by
  intro z;induction z with
  |nil=>intro _;exact([],U,(λ_ h=>nomatch h))
  |cons g r K =>
   intro h;let(os,L,h1,aF,V):=one g (h g j4);let(xs,h2,h4):=K λg hg=>h g (j6 _ hg);refine((g,os)::xs,by simp[h2],λx hx=>?_);obtain rfl|hx:=lb.mp hx
   ·exact(L,h1,bd,V)
   exact h4 x hx
 let(xs,h1,Q):=this fs λ_ h=>h;exact(xs,(h1,Q))
theorem QK{fs K:ϖ}(p:Prog ks fs)(hl:K.length=fs.length)(hz:PrZ ub9 fs)(h:∀(j:Nat)(f q:Fn),fs[j]?=Z f->K[j]?=Z q->q.1=f.1/\q.2.2=f.2.2/\Gt ks (fs.map (·.1)) f.1.2.2 f.2.2 f.1.2.1 f.2.1 q.2.1):Prog ks K/\PrZ ub9 K:=by
 have e1:K.map (·.1)=fs.map (·.1):=ac7 (by simp[hl]) λj g1 g2=>by
  rw[dN]at g1 g2;rw[ZD,ZD];exact(h j _ _ (fY g2) (fY g1)).1
 have old:∀q∈K,∃f∈fs,q.1=f.1/\q.2.2=f.2.2/\Gt ks (fs.map (·.1)) f.1.2.2 f.2.2 f.1.2.1 f.2.1 q.2.1:=λq g=>by
  let(j,hj,e):=ro g;have V:j<fs.length:=bd;exact(_,Jr V,h j _ q (fY V) (by rw[fY hj,e]))
 refine((p.gk,by rw[hl];exact p.l8,?_,λq g=>?_,λq g=>?_,λq g=>?_),λq g=>?_)
 ·have:K.map (·.1.1)=fs.map (·.1.1):=by
   have:=congrArg (List.map (·.1)) e1
   rwa [wH,wH]at this
  rw[this];exact p.hn
 ·let(f,hf,P,_):=old q g;rw[P];exact p.pk f hf
 ·let(f,hf,P,q2,Q):=old q g;rw[e1,P,q2];exact(Q.s,(p.sn f hf).2)
 ·let(f,hf,P,q2,Q):=old q g;exact Q.d _ (p.dp f hf)
 let(f,hf,P,q2,Q):=old q g;let(w1,w2):=hz f hf;exact(Q.z _ w1,by rw[P];exact w2)
theorem US(T:Txt K mg a):aP P w K mg base CX0 110 a.yH a.SF [TW] (uQ K):=by
 refine T.Ye.F.YF (n:=7) (s1:=(bZ sA).headD (.Pass (0,0,0,0))) (rest:=(bZ sA).tail) jy U U (λ_ _ _ _ _ _ hr=>?_);have hu:=bj hr;refine(_,_,_,(jE (i:=1) jy.nd U (Or.inl U) (z9 (PX T) (hr.mono ad) U T.A1.m T.A1.F.kp T.A1.b .nil FX (bp (pv 0) (bp bV cY)))),((ag (qT (g:=(Tg.tp [2,3])) (ZB (aI (Ea T) hr T.y8 (ae (qv 1) (ae ah (ae ah aw))))) (eV (br 2 jy.nd) (br 3 jy.nd)))
(ag (az 4 jy.nd (aq (af (XL (qv 2)) (af (aU (cq U) cp be T.d6 bv (ae (ZB (cu U (gg (qv 3)) (N':=[TD]) (.own U .nil) (cg (g:=(Tg.nm 0)) (λ_ _ _ _ _=>((dh 0),(aV (ZB (bK (qv 0) cN (bM ah))) (ZB (aq (af (aI (BO T 92) hr T.gY (ae (ao (qv 0) ah) aw)) ai))))))))) aw)) ai))))
(ag (az 5 jy.nd (aq (af (aV ah (ZB (aI (lB (g8 T)) hr T.a6 (ae (qv 1) (ae ah aw))))) (af (OS (ZB (aq (af bF ai))) (ZB (bq T.bP (ae (ZB (aI (BL T) hr T.wY (ae (qv 4) aw))) aw)))) ai))))
(ag (bH (g:=(Tg.nm 6)) PassesOwn.never U (iY U T.fB (ae ah aw)) (br 6 jy.nd)
(ag (az 7 jy.nd (aI (LL T) hr T.G6 (ae (qv 1) (ae (qv 4) aw))))
(aj (bH (g:=(Tg.nm 8)) PassesOwn.never U (iI (aq (af cO (af (XL (qv 5)) (af cO ai))))) (br 8 jy.nd)
(aj (aS (DQ (kM (ZB (aI (D9 T) hr T.y7 (ae (qv 4) (ae (qv 8) (ae (qv 7) aw)))))))
(aj (aC yx))
aA))))))
(aj (aC yx))))))),λp0 ns D hS hlen k=>?_,λns hlen=>?_)
 ·refine(_,U,p0,ns,_,U,hS,hlen,ad,ad,λd l H1 fd fl D1 s1=>?_);exact k d l H1 fd fl D1 s1
 refine(4,16,U,ad,ad,ad,ad,λks fs ub9 hU pr gk bc hsz bT a0=>?_);have aK:∀{Q:ϖ},Prog ks Q->Ϙ (Q.map tF)=true:=λ{Q} p=>EE λf hf=>(p.sn f hf).1.im;have hZ:PrZ ub9 fs:=λf hf=>((a0 f hf).1.z,(a0 f hf).2);have a9:(ϛ [tKs ks,.t (fs.map tF)]).im=true:=by show((tKs ks).im&&(Ϙ (fs.map tF)&&O))=O;rw[rG,aK pr];rfl
 refine(a9,_,U,rG ks,ff (by rw[dN];have:=pr.l8;omega),λc ys=>∃Q:ϖ,ys=Q.map tF/\Q.length=c/\∀(j:Nat)(f f':Fn),fs[j]?=Z f->Q[j]?=Z f'->f'.1=f.1/\f'.2.2=f.2.2/\Gt ks (fs.map (·.1)) f.1.2.2 f.2.2 f.1.2.1 f.2.1 f'.2.1,([],U,U,λj _ _ _ h=>by simp at h),?_,?_)
 ·rintro i y ys V ⟨Q,rfl,hl,hG⟩;rw[fZ]at V;let(f,hf,U):=gV.mp V;have ar:=jk hf;have a4:=(pr.sn f ar).1.im;have e3:fw [ϙ f.1.1,.t (f.1.2.1.map tP),.s f.1.2.2,f.2.1] Y (Z 3)=[.s f.1.1,.t (f.1.2.1.map tP),.s f.1.2.2]:=rfl;have a5:Ϙ [ϙ f.1.1,.t (f.1.2.1.map tP),.s f.1.2.2,f.2.1]=true:=by show(O&&(Ϙ (f.1.2.1.map tP)&&(O&&(f.2.1.im&&O))))=O;rw[aY fh,a4];rfl
  have aW:Ϙ [ϙ f.1.1,.t (f.1.2.1.map tP),.s f.1.2.2]=true:=by show(O&&(Ϙ (f.1.2.1.map tP)&&(O&&O)))=O;rw[aY fh];rfl
  refine(_,U,a5,_,U,ks,fs.map (·.1),f.1.2.2,f.2.2,f.1.2.1,f.2.1,U,pr.gk,(pr.sn f ar).1,pr.dp f ar,λb' g=>?_);refine((by show 4<=lK;decide),aW,(by show(b'.im&&O)=O;rw[g.s.im];rfl),Q++[(f.1,b',f.2.2)],by rw[mu];rfl,by rw[g5,hl];rfl,λj f1 f2 e1 e2=>?_);by_cases hj:j<Q.length
  ·rw[u4 hj]at e2;exact hG j f1 f2 e1 e2
  rw[u6 bd]at e2;have:j=Q.length:=by have:=(gs.mp e2).1;simp at this;omega
  subst this;rw[ae9]at e2;cases e2;rw[hl,hf]at e1;cases e1;exact(U,U,g)
 rintro ys ⟨Q,rfl,hl,hG⟩;rw[dN]at hl;let(pg,bA):=QK pr hl hZ hG;have Qu:Q ≠ []:=λe=>by
  rw[e]at hl;exact bc (uG.mp hl.symm)
 let(xs,hX):=S9 pg;have aF:xs.length=Q.length:=by rw[<- hX.fn,dN]
 have l8:=pg.l8;have bQ:(gn ks 0 xs).length<=1800200*xs.length:=yk pg.gk λx hx=>by
  let(L,_,h2,h3):=hX.ok x hx;exact((pg.pk x.1 (by rw[<- hX.fn];exact nR.mpr (x,hx,U))).1,by rw[h3.ln];exact h2)
 have bG:2 <=(gn ks 0 xs).length:=by cases xs with|nil=>rw[ZJ]at aF;exact absurd (uG.mp aF.symm) Qu|cons x r =>show 2 <=(Bb ks 0 x.1 x.2++gn ks 1 r).length;unfold Bb;simp only[g5,yd];omega
 refine(aK pg,ad,ad,λd d0 d1=>?_);refine(ks,Q,xs,U,pg,hX,U,bd,bd,?_);have a3:∀n:Nat,Ϙ (rY n (Ϛ 0))=true:=λn=>ma λt ht=>by rw[(List.mem_replicate.mp ht).2];rfl
 generalize hz:rY ((gn ks 0 xs).length:Int).toNat (Ϛ 0)=zs;have YK:Ϙ zs=true:=by rw[<- hz];exact a3 _
 refine(ad,ad,λi q=>Ea3 λo6 o7 o8=>q=[.r (.z ns),.r .dE,.r (tKs ks),.r (.t (fs.map tF)),.o (tPr ks Q),.o (.t [.i (1+d),.t zs]),o6,o7,o8],(_,_,_,U),?_,?_)
 ·rintro i y q V ⟨o6,o7,o8,rfl⟩;let(U,hi):=iG V;refine(_,U,ks,Q,ub9,U,pg,Qu,hU,bA,λs f n x hR=>?_);have ak:(ϛ [.i (1+d),.t zs]).im=true:=by show(O&&(Ϙ zs&&O))=O;rw[YK];rfl
  have aW:Ϙ [.n,.t [.i (1+d),.t zs],.n]=true:=by show(O&&((ϛ [.i (1+d),.t zs]).im&&(O&&O)))=O;rw[ak];rfl
  refine(ak,λj q=>∃o8,q=[.r (.z ns),.r .dE,.r (tKs ks),.r (.t (fs.map tF)),.o (tPr ks Q),.o (.t [.i (1+d),.t zs]),.r (.i (0+(i:Int))),.o (.t [.i s,.i f,.i n,.s x]),o8],(_,U),?_,?_)
  ·rintro j y q V ⟨o8,rfl⟩;have V:y=.n\/∃us,y=.t us/\Ϙ us=true:=by
    match j,V with
    | 0,V=>cases V;exact .inl U
    | 1,V=>cases V;exact .inr (_,U,ak)
    | 2,V=>cases V;exact .inl U
    |j+3,V=>simp at V
   refine(_,U,ks,Q,y,s,f,n,x,U,V,pg,hR,?_);exact(_,U)
  rintro q ⟨o8,rfl⟩;exact(_,_,_,U)
 rintro q ⟨o6,o7,o8,rfl⟩;rfl
end
theorem all_mk{l:W.OpenLaw}{w:Da}{K:Ch}{h:Ev}{fa:J}(X:K.In h)(G:h.Ns mainGlobals mg)(hfa:mg "law"=Z (.ref fa))
  {aF:J} (xj:W.nsIn K mainGlobals "PurseError"=Z (Z (.ref aF))) (xi:W.keepIn K (.ref aF)=O)
  (xh:iw K fns aF (bmV) Y=O)
  {cy:J} (Hr:W.nsIn K mainGlobals "NoText"=Z (Z (.ref cy))) (Hm:W.keepIn K (.ref cy)=O)
  {yO:ClassData} (V8:W.clsIn K cy=Z yO)
  (V9:W.nsIn K yO.ns "__init__"=Z (Z (.ref fj))) (Hk:LK K fj "__init__" "NoText.__init__" yq Vo Vn Vp Vq Vm Vs EG Vr Vk) (Ho:CI K EG "NoText.__init__") (Hj:KI K fj) (Hn:W.isFn K (.ref fj)=O)
  (Hi:iw K fns cy (.ref aF::bmV) (Z fj)=O)
  {bA:J} (zi:W.nsIn K mainGlobals "NoProgram"=Z (Z (.ref bA))) (zf:W.keepIn K (.ref bA)=O)
  {pP:ClassData} (NW:W.clsIn K bA=Z pP)
  (NX:W.nsIn K pP.ns "__init__"=Z (Z (.ref cw))) (ze:LK K cw "__init__" "NoProgram.__init__" ou NF ND NG NH NC NK xR NJ NA) (zh:CI K xR "NoProgram.__init__") (zd:KI K cw) (zg:W.isFn K (.ref cw)=O)
  (zc:iw K fns bA (.ref aF::bmV) (Z cw)=O)
  {cb:J} (Di:W.nsIn K mainGlobals "NoValue"=Z (Z (.ref cb))) (C9:W.keepIn K (.ref cb)=O)
  (C2:iw K fns cb (.ref aF::bmV) Y=O)
  {bT:J} (Dj:W.nsIn K mainGlobals "NoPaper"=Z (Z (.ref bT))) (Dc:W.keepIn K (.ref bT)=O)
  {wq:ClassData} (S1:W.clsIn K bT=Z wq)
  (S5:W.nsIn K wq.ns "__init__"=Z (Z (.ref dw))) (C7:LK K dw "__init__" "NoPaper.__init__" uT Sh Sf Sj Sm Sb Ss Ca So R8) (Dg:CI K Ca "NoPaper.__init__") (C5:KI K dw) (De:W.isFn K (.ref dw)=O)
  (C3:iw K fns bT (.ref aF::bmV) (Z dw)=O)
  {a9:J} (Hq:W.nsIn K mainGlobals "NoTurn"=Z (Z (.ref a9))) (Hl:W.keepIn K (.ref a9)=O)
  (Hh:iw K fns a9 (.ref aF::bmV) Y=O)
  {bU:J} (Dk:W.nsIn K mainGlobals "NoChain"=Z (Z (.ref bU))) (Dd:W.keepIn K (.ref bU)=O)
  {wt:ClassData} (S4:W.clsIn K bU=Z wt)
  (S6:W.nsIn K wt.ns "__init__"=Z (Z (.ref dy))) (C8:LK K dy "__init__" "NoChain.__init__" uU Si Sg Sk Sn Se Sv Cb Sr R9) (Dh:CI K Cb "NoChain.__init__") (C6:KI K dy) (Df:W.isFn K (.ref dy)=O)
  (C4:iw K fns bU (.ref aF::bmV) (Z dy)=O)
  {dG:J} (Jx:W.nsIn K mainGlobals "NoRow"=Z (Z (.ref dG))) (Jv:W.keepIn K (.ref dG)=O)
  (Ju:iw K fns dG (.ref aF::bmV) Y=O)
  {aK:J} (Pz:W.nsIn K mainGlobals "Spot"=Z (Z (.ref aK))) (PK:W.plainGet K aK Str.empty=O) (PJ:W.hasDictIn K aK=O) (PF:W.plainOver K aK=O)
  (PD:W.findIn K (.ref aK) "__setattr__"=Z (Z (.builtin "object.__setattr__"))) (PC:W.makesIn K aK=O) (PB:W.keepIn K (.ref aK)=O)
  (xv:b7 K aK "piece")
  (xw:b7 K aK "above")
  (BA:b7 K aK "arm")
  (z6:DM K aK "__init__" "Spot.__init__" jv eQ)
  {aW:J} (LB:W.nsIn K mainGlobals "Stand"=Z (Z (.ref aW))) (LI:W.plainGet K aW Str.empty=O) (LH:W.hasDictIn K aW=O) (LG:W.plainOver K aW=O)
  (LF:W.findIn K (.ref aW) "__setattr__"=Z (Z (.builtin "object.__setattr__"))) (LD:W.makesIn K aW=O) (LC:W.keepIn K (.ref aW)=O)
  (DX:b7 K aW "f")
  (xu:b7 K aW "free")
  (vq:b7 K aW "spent")
  (vt:b7 K aW "kinds")
  (oU:b7 K aW "holdings")
  (xt:DM K aW "__init__" "Stand.__init__" iy dD)
  (xnd:decide [aF,cy,bA,cb,bT,a9,bU,dG].Nodup=O)
  (B3:DY K "number_of" kI hJ)
  (B5:DY K "makers_of" kK ia)
  (Ma:DY K "within" u9 pE)
  (tE:DY K "reached_kinds" gc dY)
  (tG:DY K "kind_of_maker" gf dZ)
  (Qe:DY K "spots" zC ux)
  (tD:DY K "spots_beneath" gb dX)
  (Mb:DY K "pieces" va pF)
  (Xl:DY K "way" Kh Gv)
  (xN:DY K "kinds_ahead" iF fU)
  (Ew:DY K "bound_by" nj jS)
  (Et:DY K "laid_out" ni jQ)
  (vM:DY K "many_beneath" kJ gT)
  (Me:DY K "end_of" Bn lr)
  (rD:DY K "begins_beneath" iW dC)
  (IE:DY K "body_of" yu gG)
  (xI:DY K "with_bodies" mB iL)
  (ID:DY K "is_name" yt rK)
  (Qj:DY K "is_of" FH Ay)
  (Eu:DY K "bound_in" vd jR)
  (Ex:DY K "bound_at" ve nJ)
  (B4:DY K "new_names" sy hV)
  (An:DY K "letters_of" oB jP)
  (Iy:DY K "renamed" yr jf)
  (xP:DY K "all_renamed" mE iM)
  (Ep:DY K "stand_at" nc jN)
  (rB:DY K "stand_at_begin" fG dA)
  (Am:DY K "stand_with" jA gA)
  (vL:DY K "stand_behind" gJ ft)
  (U3:DY K "uses" DG Ax)
  (Al:DY K "taken_free" jz gy)
  (Er:DY K "spent_by" nh jO)
  (B6:DY K "laid_with" kL ib)
  (Mc:DY K "naming" Bm lj)
  (nF:DY K "laid_written_out" d7 cR)
  (xO:DY K "called_anew" mD fV)
  (Ap:DY K "laid_moved" jC gC)
  (Ao:DY K "laid_named" jB gB)
  (xH:DY K "written_out" iB fQ)
  (Qg:DY K "moved" zE uz)
  (Qf:DY K "named" zD uy)
  (B0:DY K "with_body" sr eM)
  (Eo:DY K "unknowns" m9 jM)
  (xJ:DY K "unknowns_of" iC fR)
  (rC:DY K "piece_unknowns" fH dB)
  (B1:DY K "prices_of" sv lg)
  (tw:DY K "written_paper" f9 dW)
  (xM:DY K "moved_paper" iE fT)
  (xK:DY K "named_paper" iD fS)
  (B2:DY K "paper_for" sx eO)
  (U6:DY K "_law_deal" DJ AB)
  (U5:DY K "_law_draw" DI AA)
  (Qc:DY K "_law_words" zA uv)
  (Qi:DY K "_law_kinds" zG uB)
  (U4:DY K "_law_fill" DH Az)
  (Qk:DY K "_law_ended" zH uC)
  (U7:DY K "_law_case" DK AE)
  (U8:DY K "_law_body" DL vW)
  (IA:DY K "_law_program" qN mf)
  (IC:DY K "_law_bodies" qP mj)
  (IB:DY K "_law_pieces" qO mh)
  (Md:DY K "_law_bound" vb pH)
  (Ey:DY K "_law_all_gets" nk jT)
  (Ql:DY K "_law_ahead" zI uD)
  (Qh:DY K "_law_uses" zF uA)
  (Qd:DY K "_law_stays" zB uw)
  (Qb:DY K "_law_wrong" zz uu)
  (Iz:DY K "_law_refused" qM me)
  (SM:NI K "law" yH) (Xm:LK K yH "law" "law" sA Yu Yt Vg VG UC VR MZ VI Yk) (XW:CI K MZ "law") (Xq:KI K yH)
  (Wj:NB K "len")
  (Wl:NB K "all")
  (SY:NB K "list")
  (NU:NB K "tuple")
  (Wk:NB K "int")
  (S0:NB K "dict")
  (C1:NB K "reversed")
  (Wi:NB K "max")
  (Wh:NB K "sum")
  (NV:NB K "range")
  (y9:NB K "isinstance")
  (Wg:NB K "zip")
  (A6:NB K "enumerate")
  (za:NB K "ValueError")
  {dH:J} {xB:Option J} {kZ:Array B} {Af:Nat} {xo:Array (Option B)}
  (zk:W.nsIn K mainGlobals "KEPT_WORDS"=Z (Z (.ref dH))) (zb:K.lookup dH=Z (.type "tuple",xB,.seq kZ Af,xo)) (nZ:Vals ((["kind","def","to","let","make","call","name","case","end","pay","get","give"]:Γ).map V.str) kZ.toList)
  {HD:Tok} (Hv:W.nsIn K mainGlobals "LETTERS"=Z (Z (.str "abcdefghijklmnopqrstuvwxyz" HD)))
  {uM:Tok} (uI:W.nsIn K mainGlobals "LONGEST_NAME"=Z (Z (.int 8 uM)))
  : ∃fd:Cl,(∀(s:ϋ)(v:B),BindsTo s fd ([v],[]) [("_law_script",v)])/\∀base:Ev,K.In base->base.Ns mainGlobals mg->aP l.prog w K mg base CX0 110 fa fd [TW] (uQ K):=by
 have e:=hfa.symm.trans (W.mg_of X G SM);cases e;have sd:=nI Hk Ho Hj;have j9:=nI ze zh zd;have nU:=nI C7 Dg C5;have nV:=nI C8 Dh C6;let(CH,_,sU):=B3;let(CK,_,sW):=B5;let(M8,_,CQ):=Ma;let(tS,_,ko):=tE;let(tT,_,kq):=tG;let(Ri,_,GU):=Qe;let(tR,_,kn):=tD;let(M9,_,CS):=Mb;let(X4,_,SR):=Xl;let(x9,_,mV):=xN;let(E7,_,wU):=Ew;let(E5,_,wQ):=Et;let(wD,_,lP):=vM;let(Nc,_,CV):=Me;let(rS,_,jn):=rD;let(Jo,_,y3):=IE;let(x4,_,mR):=xI;let(Jn,_,y2):=ID;let(Rn,_,GZ):=Qj;let(E6,_,wR):=Eu;let(E8,_,wV):=Ex;let(CJ,_,sV):=B4;let(AQ,_,p8):=An;let(Ji,_,yW):=Iy;let(yb,_,mX):=xP;let(E2,_,wN):=Ep;let(rQ,_,jl):=rB;let(AO,_,pZ):=Am;let(wC,_,lO):=vL;let(VS,_,Nk):=U3;let(AN,_,pY):=Al;let(E4,_,wO):=Er;let(CL,_,sX):=B6;let(Na,_,CT):=Mc;let(nN,_,gX):=nF;let(ya,_,mW):=xO;let(AU,_,qf):=Ap;let(AR,_,p9):=Ao;let(x3,_,mQ):=xH;let(Rk,_,GW):=Qg;let(Rj,_,GV):=Qf;let(CD,_,sR):=B0;let(E1,_,wM):=Eo;let(x5,_,mS):=xJ;let(rR,_,jm):=rC;let(CF,_,sS):=B1;let(tQ,_,km):=tw;let(x8,_,mU):=xM;let(x6,_,mT):=xK;let(CG,_,sT):=B2;let(VW,_,Nn):=U6;let(VU,_,Nm):=U5;let(Rg,_,GR):=Qc;let(Rm,_,GY):=Qi;let(VT,_,Nl):=U4;let(Ro,_,G0):=Qk;let(VX,_,Np):=U7;let(VY,_,Nq):=U8;let(Jk,_,yY):=IA;let(Jm,_,y0):=IC;let(Jl,_,yZ):=IB;let(Nb,_,CU):=Md;let(E9,_,wW):=Ey;let(Rq,_,G5):=Ql;let(Rl,_,GX):=Qh;let(Rh,_,GS):=Qd;let(Rf,_,GQ):=Qb;let(Jj,_,yX):=Iz;have SS:=nI Xm XW Xq;let(lI,_,il):=z6;let(jZ,_,gE):=xt;have T:Txt K mg (aF,cy,fj,_,bA,cw,_,cb,bT,dw,_,a9,bU,dy,_,dG,aK,eQ,_,aW,dD,_,hJ,_,ia,_,pE,_,dY,_,dZ,_,ux,_,dX,_,pF,_,Gv,_,fU,_,jS,_,jQ,_,gT,_,lr,_,dC,_,gG,_,iL,_,rK,_,Ay,_,jR,_,nJ,_,hV,_,jP,_,jf,_,iM,_,jN,_,dA,_,gA,_,ft,_,Ax,_,gy,_,jO,_,ib,_,lj,_,cR,_,fV,_,gC,_,gB,_,fQ,_,uz,_,uy,_,eM,_,jM,_,fR,_,dB,_,lg,_,dW,_,fT,_,fS,_,eO,_,AB,_,AA,_,uv,_,uB,_,Az,_,uC,_,AE,_,vW,_,mf,_,mj,_,mh,_,pH,_,jT,_,uD,_,uA,_,uw,_,uu,_,me,_,yH,_,dH):=(g6 xh,W.mg_of X G xj,xi,g6 Hi,W.mg_of X G Hr,Hm,sd,Hn,sd.b2,g6 zc,W.mg_of X G zi,zf,j9,zg,j9.b3,g6 C2,W.mg_of X G Di,C9,g6 C3,W.mg_of X G Dj,Dc,nU,De,nU.b2,g6 Hh,W.mg_of X G Hq,Hl,g6 C4,W.mg_of X G Dk,Dd,nV,Df,nV.b2,g6 Ju,W.mg_of X G Jx,Jv,(PK,PJ,PF,PD),W.mg_of X G Pz,(PC,lI.1,lI.2,PB),xv,xw,BA,il,lI,il.b4,(LI,LH,LG,LF),W.mg_of X G LB,(LD,jZ.1,jZ.2,LC),DX,xu,vq,vt,oU,gE,jZ,gE.b6,of_decide_eq_true xnd,(sU,W.mg_of X G CH,sU.b2),(sW,W.mg_of X G CK,sW.b2),(CQ,W.mg_of X G M8,CQ.b2),(ko,W.mg_of X G tS,ko.b2),(kq,W.mg_of X G tT,kq.b2),(GU,W.mg_of X G Ri,GU.b1),(kn,W.mg_of X G tR,kn.b2),(CS,W.mg_of X G M9,CS.b1),(SR,W.mg_of X G X4,SR.b2),(mV,W.mg_of X G x9,mV.b2),(wU,W.mg_of X G E7,wU.b4),(wQ,W.mg_of X G E5,wQ.b2),(lP,W.mg_of X G wD,lP.b1),(CV,W.mg_of X G Nc,CV.b2),(jn,W.mg_of X G rS,jn.b2),(y3,W.mg_of X G Jo,y3.b1),(mR,W.mg_of X G x4,mR.b2),(y2,W.mg_of X G Jn,y2.b1),(GZ,W.mg_of X G Rn,GZ.b3),(wR,W.mg_of X G E6,wR.b1),(wV,W.mg_of X G E8,wV.b1),(sV,W.mg_of X G CJ,sV.b2),(p8,W.mg_of X G AQ,p8.b1),(yW,W.mg_of X G Ji,yW.b2),(mX,W.mg_of X G yb,mX.b2),(wN,W.mg_of X G E2,wN.b3),(jl,W.mg_of X G rQ,jl.b2),(pZ,W.mg_of X G AO,pZ.b4),(lO,W.mg_of X G wC,lO.b5),(Nk,W.mg_of X G VS,Nk.b4),(pY,W.mg_of X G AN,pY.b4),(wO,W.mg_of X G E4,wO.b1),(sX,W.mg_of X G CL,sX.b3),(CT,W.mg_of X G Na,CT.b3),(gX,W.mg_of X G nN,gX.b3),(mW,W.mg_of X G ya,mW.b3),(qf,W.mg_of X G AU,qf.b3),(p9,W.mg_of X G AR,p9.b4),(mQ,W.mg_of X G x3,mQ.b3),(GW,W.mg_of X G Rk,GW.b3),(GV,W.mg_of X G Rj,GV.b4),(sR,W.mg_of X G CD,sR.b3),(wM,W.mg_of X G E1,wM.b1),(mS,W.mg_of X G x5,mS.b3),(jm,W.mg_of X G rR,jm.b2),(sS,W.mg_of X G CF,sS.b2),(km,W.mg_of X G tQ,km.b4),(mU,W.mg_of X G x8,mU.b4),(mT,W.mg_of X G x6,mT.b5),(sT,W.mg_of X G CG,sT.b4),(Nn,W.mg_of X G VW,Nn.b2),(Nm,W.mg_of X G VU,Nm.b2),(GR,W.mg_of X G Rg,GR.b2),(GY,W.mg_of X G Rm,GY.b2),(Nl,W.mg_of X G VT,Nl.b3),(G0,W.mg_of X G Ro,G0.b5),(Np,W.mg_of X G VX,Np.b5),(Nq,W.mg_of X G VY,Nq.b5),(yY,W.mg_of X G Jk,yY.b3),(y0,W.mg_of X G Jm,y0.b1),(yZ,W.mg_of X G Jl,yZ.b1),(CU,W.mg_of X G Nb,CU.b1),(wW,W.mg_of X G E9,wW.b1),(G5,W.mg_of X G Rq,G5.b2),(GX,W.mg_of X G Rl,GX.b1),(GS,W.mg_of X G Rh,GS.b1),(GQ,W.mg_of X G Rf,GQ.b2),(yX,W.mg_of X G Jj,yX.b3),(SS,W.mg_of X G SM,SS.b1),W.mg_none_of X G Wj,W.mg_none_of X G Wl,W.mg_none_of X G SY,W.mg_none_of X G NU,W.mg_none_of X G Wk,W.mg_none_of X G S0,W.mg_none_of X G C1,W.mg_none_of X G Wi,W.mg_none_of X G Wh,W.mg_none_of X G NV,W.mg_none_of X G y9,W.mg_none_of X G Wg,W.mg_none_of X G A6,W.mg_none_of X G za,W.mg_of X G zk,λ_=>.inr (_,_,_,zb,U,U,HG nZ,nZ),(_,W.mg_of X G Hv),(_,W.mg_of X G uI));exact(W.fnOf "law" "law" (d5 sA) (bZ sA) (av sA) .none Vg VG UC VR MZ VI,λs v=>.of_eq U,λbase _ _=>US T)
theorem walk{l:W.OpenLaw}{q:Db}{loose:Γ}{XP:(Υ)->Ev->Prop}{Q:Da->Ev->Prop}{d:DefRec}{K:Params->Ch}(hn:l.most=Z 63)(g:d.params.defaults=[])
  (V:∀(w:Da)(h:Ev),Q w h->(K w.params).In h)
  (F:∀(w:Da)(mg:Υ)(P:J)(h:Ev),(K w.params).In h->h.Ns mainGlobals mg->mg d.name=Z (.ref P) ->
∃fd:Cl,(∀(s:ϋ)(u:B),BindsTo s fd ([u],[]) [("_law_script",u)])/\∀base:Ev,(K w.params).In base->base.Ns mainGlobals mg->aP l.prog w (K w.params) mg base CX0 110 P fd [TW] (uQ (K w.params))):
  W.WalkO q loose XP Q l.row.toRowW d [] (λf vs=>PySem.call f vs):=
 L2.N1 (n:=63) (k:=110) (x:="_law_script") (CX:=λ_=>CX0) (sp:=λw=>uQ (K w.params)) hn ad g (U,ad,ad) V F (λ_ _ a ns hl hO hS=>(a,ns,U,XM hO hS,hl,λ_=>rfl)) λ_ _ _ _ _ z=>z
end K57
namespace PySem.W.Fast
open Lean in
local macro_rules|`(universe $x*)=>do return mkNullNode (<-x.mapM λi=>`(theorem $i:ident:True:=⟨⟩))
universe tw10109105375187124199 tw10184304438933032753 tw10217170915308665659 tw10266135517352162522 tw10328441575435040228 tw10337771391871708925 tw10345830705224008121 tw10363201977300825086 tw10381025927613909600 tw10423309107806004706 tw10454304294715561326 tw10466685248366661788 tw10531608230682312592 tw10618145319194266912 tw10636565977065500981 tw10660595376342330515 tw10710191684469591582 tw10754936469462396083 tw107750043065464967 tw1083628869155988269 tw10840876204223927375 tw10859444660288792009 tw10893975166147161398 tw10900970562064111284 tw10903572002851369872 tw11006543435952581131 tw11016754588144493834 tw11035720454845728366 tw11068819003096007028 tw11096769433915484102 tw11130251681374729809 tw11141549260869733336 tw11157892228694264211 tw11259439272825579140 tw11318194935248678965 tw11331381075865398828 tw11358557858751867310 tw1138321705062555460 tw11407817728722344061 tw11550222333215518469 tw11571134713715851873 tw1167237708534760065 tw11693206662208709243 tw11722112221520362668 tw11723063402355174931 tw1177300347295839507 tw11803011928664432025 tw11824305661069541954 tw11874162477095446064 tw11906113489968732417 tw1205154426336594690 tw12101503604330724974 tw1212857046697735910 tw12133214023908379895 tw1214076952929470173 tw12145593033761951303 tw12303050912218060443 tw12356961618937966960 tw12358125408395053032 tw124818753862001970 tw12482192012299295673 tw12559139368736249360 tw12577141419361019767 tw12594815883294468128 tw12610437047201173068 tw12654124415179742228 tw12658184956690072263 tw126909980737272483 tw12713053935078536282 tw12720114187045347166 tw12720906690707834315 tw12858701982113648228 tw1287654276577862466 tw12924843301338543832 tw12934019143031360139 tw12964476261248865701 tw13014047735407906903 tw13016986678195612315 tw13050771333722100188 tw13081567249892548437 tw13113770997476710059 tw13138873153303552892 tw13141651702514818195 tw1323065392579614115 tw13261218714778476601 tw13264104372599331402 tw132853020373855180 tw13308580903308121256 tw13401843981659947376 tw13405682634135885293 tw13537914400809957600 tw13615751730048947233 tw13620548734342794133 tw13697388394126854620 tw13766754457399380383 tw13798672384460589310 tw13833673823253967595 tw13834713904342114898 tw13939789156567518359 tw13949394924744800699 tw14014584689376429460 tw14075331158798939272 tw14092102273541947498 tw1412459270484431836 tw14235972981333342737 tw14245840729008758525 tw14247035378175427333 tw1429899715478665831 tw14361028025663199774 tw14376437484173000166 tw14443259227890090175 tw14470472315823215988 tw14490679946768845804 tw14495850283489576717 tw14546765308068371451 tw14561616683718209066 tw14599167625452944811 tw14600287016049115286 tw14642622472257968297 tw14664817212669714233 tw14750664633008840136 tw14751205902763048229 tw14752901691574254249 tw1476392539952731961 tw14853230514687722955 tw1485826820902924243 tw14865871925562507940 tw14920010577617457452 tw14930839943338725685 tw14947634190212080525 tw14952403002051990848 tw14983136761591514482 tw15089098412599307488 tw15125328038691230529 tw15145429124824860397 tw15163529185680151440 tw15269224708249919115 tw15441119233101317438 tw15458036860911110267 tw15482993107982381247 tw15489555094682307079 tw15518736739355403356 tw15565284407240668883 tw15580591916304101638 tw15599547736850318326 tw15655296752498637893 tw15704404265614818783 tw15818919638715355402 tw15889501656031781184 tw15928713445694632012 tw15943737382446559425 tw16026398348639864688 tw16048508645655093206 tw16165359174010363810 tw16321343694878775740 tw16340055554780963160 tw16356575314450455386 tw16375235676693246253 tw1637690228387478668 tw16435218381610974698 tw16444866847924319170 tw1644648301102035402 tw16689680984488742297 tw16783609558057295769 tw16802360310321231342 tw16833679338364843351 tw16840436451521149351 tw16893259299939595601 tw17090139430808122843 tw17148047626068405418 tw17153044801539073695 tw17208219335690190045 tw17240308647801755074 tw17422467260601348386 tw17467360896938505905 tw17541449229916228958 tw17614937465355532949 tw17621915064423361389 tw17700695785977570685 tw17747199763964488148 tw17775281819447282181 tw18005957973538390844 tw18018386687314333382 tw18179375283166923971 tw18207437735332493895 tw18295964189515657951 tw18335230624120257519 tw18446078690681179963 tw185486289301740230 tw1895572982862320044 tw1924499304393149180 tw2028654255111987300 tw2060978191944001706 tw2066386068477049247 tw2070759645728775172 tw2154402595774754317 tw2203209811685214950 tw220629109870817526 tw235188523203003854 tw2497546369041411816 tw2546387521589060927 tw2613355239894762259 tw26249720499328086 tw2631134244409430919 tw2690961089608230519 tw2723125135928063504 tw2786937532841190135 tw2796167809977684141 tw2836038476476164956 tw285079955118629549 tw2872462008201043722 tw2969091029073423536 tw3017960810920771517 tw3067402373148935586 tw3128159768971422660 tw3168776888475589263 tw3199203232103354719 tw3209056082627627351 tw3216362676378601813 tw3228180347246279163 tw330785787085937379 tw3323990359823094871 tw334385064023636670 tw343844320098940741 tw3446141579924206765 tw3447637765935649430 tw3535251855113661245 tw3564000057195529383 tw361007873879131565 tw3655445081572214036 tw3750651877879659725 tw3760975917302539425 tw3767190096017256580 tw3780894669255927776 tw3823570542610111502 tw3829578856482589143 tw4031217689094440807 tw4061283395864079463 tw4115845776890357652 tw4214645042290545935 tw4246276244616648810 tw4258556181636453246 tw4317005925355954236 tw4375244611092983787 tw4453944232524869718 tw4492170355756872131 tw4510433687495674760 tw4523168427084614653 tw4523729604106052451 tw4534123628685764881 tw4577709170020449204 tw459692413543418180 tw4612232504328991189 tw4654660091582651916 tw4675106041877951303 tw4796542056612501767 tw4797253205708498109 tw4812636703324544069 tw4893349808069303090 tw4904809758375158322 tw4926073497195304176 tw5001650877522526709 tw5089941862965166856 tw5122515222769714790 tw5149493535638020127 tw5251730883859403259 tw5271126193379495841 tw5281526478814329684 tw5287715274938801428 tw5350761861468855849 tw5355226267354394958 tw5362792460007465433 tw5418488450504257685 tw5433350891901421528 tw546118330584059443 tw5461727449223867193 tw5493016329554660393 tw5558887937766615260 tw5600281423668590708 tw5619257697962560626 tw5701181042894491077 tw5725488603037927478 tw5799206797947051373 tw5837766623119076684 tw5872592482117598004 tw5998483166797124145 tw6050672248484201358 tw6070724159989823216 tw6128636794490063196 tw6139668106323763914 tw616658338700281637 tw6243914515653885765 tw6244140412548573602 tw6276867522081142617 tw6327272349532927410 tw6346741698270457332 tw6367191303937724814 tw6430919207294471592 tw6437050614270570300 tw6451323469051581639 tw6490629615980684389 tw6495136326690204032 tw6512726919866196828 tw6542289448104574275 tw6549998413057077570 tw6612649016103417463 tw6627401069949704772 tw6627834421314655792 tw6627839460912941558 tw6638324759098605920 tw6646257195117896420 tw6675672433094120543 tw6689617752297137543 tw6715300721443320713 tw6753146278755776048 tw6830423802848362361 tw6876971700907206451 tw6923399161885483034 tw6925625586023530206 tw6948709647391105394 tw6995629673067171573 tw6995681419563368568 tw7084273444529511590 tw710799676390005987 tw7199142157607527849 tw7383814685840291963 tw7423949039240420773 tw7522550297181292197 tw757621234398058424 tw7630861391528182919 tw7651501045724147325 tw7692115040255109825 tw7722217584560112477 tw7745369779389484470 tw7800051551152416447 tw7811148207895514278 tw7841923716094881358 tw7865134966938202964 tw7979385998528063421 tw7984474905450450932 tw798691540614082343 tw7993477269557265486 tw8073562296970999822 tw8082983088190625808 tw8132276837107457810 tw8215144174395481095 tw8233390071980390035 tw8276313138522058736 tw834258122250640632 tw839126479979991618 tw8394066434390720047 tw8474357312294639316 tw8490387709869182899 tw8536165466400031757 tw854895098893550276 tw856552815005301075 tw8577393762669153790 tw8684943155902318591 tw8706355374506302713 tw8816275174622004221 tw883260819815122812 tw895424778803550774 tw8969492865904368168 tw9024889089314603887 tw9080128660580375249 tw909389439721819522 tw9103927248270974709 tw9122478255847558744 tw9132553538058226534 tw9162267232327045539 tw9311300574402194149 tw9338656936205141507 tw9384700628135105667 tw9425055352540490283 tw9474384855127127663 tw9550406001351507357 tw9687088133848893962 tw9689139264099991910 tw9739091688752562899 tw9767239618960980682 tw9782722973119282243 tw9783721583483084319 tw9984069004926929091 tw9989685462711761766
end PySem.W.Fast
open PySem PySem.W PyProof.Rows
set_option maxRecDepth 100000 in
set_option maxHeartbeats 0 in
theorem PySem.Challenge.cw_pursewright_k57_turns_refused_holds : PySem.Challenge.rw_pursewright_k57_turns_refused.Holds := by
 w_on;o_law;k_head;(case hw=>w_witness2)
 k_fill
 refine K57.walk (l:=PySem.Challenge.rw_pursewright_k57_turns_refused) rfl rfl (fun w h Y=>PySem.W.kIn_of Y) ?F
 case F =>
  intro w mg fa h KX G hmg;refine' K57.all_mk KX G hmg ..
  all_goals try first|refine' L2.DY.of ?_ ?_ ?_ ?_|refine' L2.DM.of ?_ ?_ ?_ ?_ ?_
  all_goals try delta L2.NI L2.LK L2.CI L2.KI L2.NB L2.b7
  all_goals try first|k_is|kernel_rfl|repeat (first|exact .nil|refine .cons ⟨_,rfl⟩ ?_)