import PyProof.Rows.All
import Wide.All
import OpenK.AllK
import Wide.FinOn
import Lean
import PyProof.EqAt
import PyProof.EqKinds
import PyProof.TupleCall
import PyProof.InstStoreFacts
import PySem.Challenge.RW_pursewright_k11_faults_of_kinds_and_head
set_option Elab.async false
set_option linter.all false
set_option maxRecDepth 100000
namespace L2
open PySem PySem.Spec PyProof.Rows
abbrev Key:=Sum Int Str
def vb:Key->Value->Bool
 | .inl k,v=>Value.isInt k v
 | .inr x,v=>Value.isStrOf x v
def Vi(w:World):Key->Int
 | .inl k=>hashInt k
 | .inr x=>hashStr w x
theorem bX:∀{k:Key}{v:Value},vb k v=true ->(∃ i t,k=Sum.inl i/\v=Value.int i t)\/(∃ x t,k=Sum.inr x/\v=Value.str x t)
 | .inl i,v,h=>by
  obtain⟨t,e⟩:=Value.isInt_shape (k:=i) (v:=v) h;exact .inl ⟨i,t,rfl,e⟩
 | .inr x,v,h=>by
  obtain⟨t,e⟩:=Value.isStrOf_shape (x:=x) (v:=v) h;exact .inr ⟨x,t,rfl,e⟩
theorem DN(i:Int)(t:Tok):vb (.inl i) (.int i t)=true:=by simp[vb,Value.isInt]
theorem DM(x:Str)(t:Tok):vb (.inr x) (.str x t)=true:=by simp[vb,Value.isStrOf]
theorem Pl(a b:Int):decide ((Sum.inl a:Key)=Sum.inl b) =(a==b):=by
 by_cases e:a=b
 ·subst e;simp
 ·have h:¬(Sum.inl a:Key)=Sum.inl b:=fun q=>e (Sum.inl.inj q)
  rw[decide_eq_false h];exact(beq_eq_false_iff_ne.mpr e).symm
theorem Ph(a b:Str):decide ((Sum.inr a:Key)=Sum.inr b)=decide (a=b):=by
 by_cases e:a=b
 ·subst e;simp
 ·have h:¬(Sum.inr a:Key)=Sum.inr b:=fun q=>e (Sum.inr.inj q)
  rw[decide_eq_false h,decide_eq_false e]
theorem Pk(a:Int)(b:Str):decide ((Sum.inl a:Key)=Sum.inr b)=false:=decide_eq_false (fun q=>nomatch q)
theorem Pj(a:Str)(b:Int):decide ((Sum.inr a:Key)=Sum.inl b)=false:=decide_eq_false (fun q=>nomatch q)
def bp(prog:Program)(w:World):PySem.KeyKind prog w Key where
 is:=vb
 hash:=Vi w
 inj:=fun v a b ha hb=>by
  rcases bX ha with⟨i,t,rfl,rfl⟩ |⟨x,t,rfl,rfl⟩
  ·rcases bX hb with⟨j,u,rfl,e⟩ |⟨y,u,rfl,e⟩
   ·injection e with e1 _;rw[e1]
   ·exact nomatch e
  ·rcases bX hb with⟨j,u,rfl,e⟩ |⟨y,u,rfl,e⟩
   ·exact nomatch e
   ·injection e with e1 _;rw[e1]
 byValue:=fun k v h=>by
  rcases bX h with⟨i,t,rfl,rfl⟩ |⟨x,t,rfl,rfl⟩ <;> rfl
 pyHash:=fun hv h=>by
  rcases bX hv with⟨i,t,rfl,rfl⟩ |⟨x,t,rfl,rfl⟩
  ·exact wpAny_pyHash_int h
  ·exact wpAny_pyHash_str h
 eqBool:=fun hu hv h=>by
  rcases bX hu with⟨i,t,rfl,rfl⟩ |⟨x,t,rfl,rfl⟩
  ·rcases bX hv with⟨j,u,rfl,rfl⟩ |⟨y,u,rfl,rfl⟩
   ·rw[Pl]at h;exact wpAny_eqBool_int h
   ·rw[Pk]at h;exact SeqAt.EqAt.int_str i t y u _ _ _ _ h
  ·rcases bX hv with⟨j,u,rfl,rfl⟩ |⟨y,u,rfl,rfl⟩
   ·rw[Pj]at h;exact SeqAt.EqAt.str_int x t j u _ _ _ _ h
   ·rw[Ph]at h;exact wpAny_eqBool_str h
 «strs»:=fun k x t v h=>by
  rcases bX h with⟨i,u,rfl,e⟩ |⟨y,u,rfl,e⟩
  ·exact nomatch e
  ·injection e with e1 _
   subst e1;cases v <;> rfl
theorem yh(prog:Program)(w:World)(i:Int)(t:Tok):(bp prog w).is (.inl i) (.int i t)=true:=DN i t
theorem yg(prog:Program)(w:World)(x:Str)(t:Tok):(bp prog w).is (.inr x) (.str x t)=true:=DM x t
inductive V where
 | non|bl (b:Bool)|int (i:Int)|str (x:Str)|byt (b:Array UInt8)|flt (b:UInt64)|ref (a:Addr)|ty (n:String)
 deriving DecidableEq
def RelV:V->Value->Prop
 | .non,u=>u=Value.none
 | .bl b,u=>u=Value.bool b
 | .int i,u=>∃ t,u=Value.int i t
 | .str x,u=>∃ t,u=Value.str x t
 | .byt b,u=>∃ t,u=Value.bytes b t
 | .flt b,u=>∃ t,u=Value.float b t
 | .ref a,u=>u=Value.ref a
 | .ty n,u=>u=Value.type n
abbrev Vals:List V->List Value->Prop:=Paired RelV
theorem Vals.length{xs:List V}{us:List Value}(r:Vals xs us):xs.length=us.length:=Paired.length r
theorem Vals.get:∀{xs:List V}{us:List Value}{i:Nat}{x:V},Vals xs us->xs[i]? = some x->∃ u,us[i]? = some u/\RelV x u
 | _,_,_,_,.nil,e=>by simp at e
 | _,_,0,_,.cons r _,e=>by simp at e;subst e;exact⟨_,rfl,r⟩
 | _,_,i+1,x,.cons _ t,e=>by
  obtain⟨u,h1,h2⟩:=Vals.get (i:=i) (x:=x) t (by simpa using e)
  exact⟨u,by simpa using h1,h2⟩
theorem Vals.set{x:V}{u:Value}(r:RelV x u):∀{xs:List V}{us:List Value}(i:Nat),Vals xs us->Vals (xs.set i x) (us.set i u)
 | _,_,_,.nil=>.nil
 | _,_,0,.cons _ t=>.cons r t
 | _,_,i+1,.cons q t=>.cons q (Vals.set r i t)
theorem Vals.append:∀{xs ys:List V}{us ws:List Value},Vals xs us->Vals ys ws->Vals (xs++ys) (us++ws)
 | _,_,_,_,.nil,s=>s
 | _,_,_,_,.cons r t,s=>.cons r (Vals.append t s)
theorem Vals.take:∀{xs:List V}{us:List Value}(n:Nat),Vals xs us->Vals (xs.take n) (us.take n)
 | _,_,0,_=>.nil
 | _,_,_+1,.nil=>.nil
 | _,_,n+1,.cons r t=>.cons r (Vals.take n t)
theorem Vals.drop:∀{xs:List V}{us:List Value}(n:Nat),Vals xs us->Vals (xs.drop n) (us.drop n)
 | _,_,0,r=>r
 | _,_,_+1,.nil=>.nil
 | _,_,n+1,.cons _ t=>Vals.drop n t
def gW:Option V->Option Value->Prop
 | some v,some u=>RelV v u
 | none,none=>True
 | _,_=>False
def KV{κ:Type}:List (κ×V)->List (κ×Value)->Prop:=Paired fun(p:κ×V)(q:κ×Value)=>p.1=q.1/\RelV p.2 q.2
def kV:Key->V
 | .inl i=>.int i
 | .inr x=>.str x
inductive HO where
 | lst(xs:List V)
 | tup(xs:List V)
 | dK(kvs:List (Key×V))|dT (kvs:List (List Key×V))
 | set(S:Int->Bool)(n:Nat)
 | ins(C dx:Addr)(fs:List (Str×V))
 | own(x:Addr)
 | xd(fs:List (Str×V))
 | room(x:Int)
 | met(f x:Addr)
 | rng(lo hi:Int)
 | frz(o:Obj)(u:HO)
 | tbl(ps:Array Value)
 | ext(φ:Heap->Prop)
abbrev Hp:=Addr->Option HO
def upd(H:Hp)(a:Addr)(o:HO):Hp:=fun b=>if b=a then some o else H b
variable{H:Hp}{a:Addr}{o:HO}
theorem aj:upd H a o a=some o:=by unfold upd;rw[if_pos rfl]
theorem ai{b:Addr}(h:b≠a):upd H a o b=H b:=by unfold upd;rw[if_neg h]
theorem qI{u:HO}:upd (upd H a o) a u=upd H a u:=by
 funext b;unfold upd;split <;> rfl
theorem i6{b:Addr}{u:HO}(h:H a=some o)(h':H b=some u)(d:o≠u):a≠b:=by
 intro e;subst e;rw[h]at h';exact d (Option.some.inj h')
theorem aI{b:Addr}(h:H a=some o)(h':H b=none):a≠b:=by
 intro e;subst e;rw[h]at h';cases h'
def mq(h:Heap)(a:Addr)(items:Array Value):Prop:=IsTup h a items/\∃ o,h.get? a=some o/\o.dict=none
theorem mq.new(h:Heap)(items:Array Value):mq (h.push { cls:=.type "tuple",data:=.seq items }) h.objs.size items:=⟨IsTup.new _ _,_,Heap.get?_push_size _ rfl,rfl⟩
section
variable(P:Program)(w:World)
def aW(H:Hp)(h:Heap)(a:Addr):HO->Prop
 | .lst xs=>xs.length<=sizeLine/\∃(its:List Value)(n:Nat),Vals xs its/\h.get? a=some { cls:=.type "list",data:=.seq its.toArray n }
 | .tup xs=>xs.length<=sizeLine/\∃ its:List Value,Vals xs its/\mq h a its.toArray
 | .dK kvs=>kvs.length<=sizeLine/\(a==sysModules)=false/\∃ vs,KV kvs vs/\h.DictOf (bp P w) a vs
 | .dT kvs=>kvs.length<=sizeLine/\(a==sysModules)=false/\∃ xs:List (List Key×Addr×Value),
   Paired (fun(p:List Key×V)(q:List Key×Addr×Value)=>p.1=q.1/\H q.2.1=some (.tup (p.1.map kV))/\RelV p.2 q.2.2) kvs xs /\
   ∃ o es ep,h.get? a=some o/\o.ExactDict/\o.data = .dict es ep/\es.toList=xs.map (entryOfKey (tupleKind (bp P w)))/\(xs.map (·.1)).Nodup
 | .set S n=>h.SetOf (intKind P w) a S n
 | .ins C dx fs=>H dx=some (.own a)/\fs.length<=1000/\dx≠a/\h.get? a=some (W.instObj C dx) /\
   ∃ mA,h.Ns1 dx mA/\(∀ f,gW (fs.lookup f) (mA f))/\PySem.Within mA (fs.map (·.1))
 | .own _=>∃ o,h.get? a=some o
 | .xd fs=>∃ mA,h.Ns1 a mA/\∀ f,gW (fs.lookup f) (mA f)
 | .room x=>∃(its:List Value)(n:Nat),Vals [.int x] its/\h.get? a=some { cls:=.type "list",data:=.seq its.toArray n }
 | .rng lo hi=>∃ t u v,h.get? a=some { cls:=.type "range",data:=.fields #[.int lo t,.int hi u,.int 1 v] }
 | .frz o u=>h.get? a=some o/\aW H h a u
 | .tbl ps=>h.get? a=some { cls:=.none,data:=.fields ps }
 | .met f x=>h.get? a=some (W.methodObj (.ref f) (.ref x))
 | .ext φ=>φ h/\(∃ o,h.get? a=some o)/\∀ h1 h2:Heap,φ h1 ->(∀ o,h1.get? a=some o->h2.get? a=some o)->φ h2
def HOk(H:Hp)(h:Heap):Prop:=∀ a o,H a=some o->aW P w H h a o
end
section
variable{P:Program}{w:World}{H':Hp}{h h':Heap}
theorem aW.lt(x:aW P w H h a o):a<h.objs.size:=by
 cases o with
 | lst xs=>obtain⟨_,_,_,_,e⟩:=x;exact Heap.lt_size e
 | tup xs=>obtain⟨_,_,_,p⟩:=x;exact p.1.lt
 | dK kvs=>obtain⟨_,_,_,_,o,_,_,e,_⟩:=x;exact Heap.lt_size e
 | dT kvs=>obtain⟨_,_,_,_,o,_,_,e,_⟩:=x;exact Heap.lt_size e
 | set S n=>obtain⟨o,_,_,_,e,_⟩:=x;exact Heap.lt_size e
 | ins C dx fs=>obtain⟨_,_,_,e,_⟩:=x;exact Heap.lt_size e
 | own y=>obtain⟨_,e⟩:=x;exact Heap.lt_size e
 | xd fs=>obtain⟨_,⟨_,_,_,e,_⟩,_⟩:=x;exact Heap.lt_size e
 | room x'=>obtain⟨_,_,_,e⟩:=x;exact Heap.lt_size e
 | rng lo hi=>obtain⟨_,_,_,e⟩:=x;exact Heap.lt_size e
 | frz ob u=>obtain⟨e,_⟩:=x;exact Heap.lt_size e
 | tbl ps=>exact Heap.lt_size (show h.get? a=some _ from x)
 | met f y=>exact Heap.lt_size (show h.get? a=some _ from x)
 | ext φ=>obtain⟨_,⟨_,e⟩,_⟩:=x;exact Heap.lt_size e
theorem Paired.O8{α β:Type}{F G:α->β->Prop}:∀{l₁:List α}{l₂:List β},Paired F l₁ l₂ ->(∀ a b,F a b->G a b)->Paired G l₁ l₂
 | _,_,.nil,_=>.nil
 | _,_,.cons r t,f=>.cons (f _ _ r) (Paired.O8 t f)
theorem aW.cN(x:aW P w H h a o)(k:∀ b u,(b=a\/H b=some (.own a))->h.get? b=some u->h'.get? b=some u)
  (ho:∀ b,H b=some (.own a)->H' b=some (.own a)) (ht:∀ b xs,H b=some (.tup xs)->H' b=some (.tup xs)):aW P w H' h' a o:=by
 induction o with
 | lst xs=>obtain⟨z,its,n,r,e⟩:=x;exact⟨z,its,n,r,k _ _ (.inl rfl) e⟩
 | tup xs=>obtain⟨z,its,r,⟨ob,e,c⟩,o2,e2,d2⟩:=x;exact⟨z,its,r,⟨ob,k _ _ (.inl rfl) e,c⟩,o2,k _ _ (.inl rfl) e2,d2⟩
 | dK kvs=>obtain⟨z,y,vs,r,ob,es,ep,e,c⟩:=x;exact⟨z,y,vs,r,ob,es,ep,k _ _ (.inl rfl) e,c⟩
 | dT kvs =>
  obtain⟨z,y,xs,r,ob,es,ep,e,c⟩:=x;exact⟨z,y,xs,Paired.O8 r fun p q z=>⟨z.1,ht _ _ z.2.1,z.2.2⟩,ob,es,ep,k _ _ (.inl rfl) e,c⟩
 | set S n=>obtain⟨ob,es,ep,t,e,c⟩:=x;exact⟨ob,es,ep,t,k _ _ (.inl rfl) e,c⟩
 | ins C dx fs =>
  obtain⟨d,z,ne,e,mA,⟨od,es,ep,e2,c⟩,r⟩:=x;exact⟨ho _ d,z,ne,k _ _ (.inl rfl) e,mA,⟨od,es,ep,k _ _ (.inr d) e2,c⟩,r⟩
 | own y=>obtain⟨ob,e⟩:=x;exact⟨ob,k _ _ (.inl rfl) e⟩
 | xd fs=>obtain⟨mA,⟨od,es,ep,e,c⟩,r⟩:=x;exact⟨mA,⟨od,es,ep,k _ _ (.inl rfl) e,c⟩,r⟩
 | room x'=>obtain⟨t,u,v,e⟩:=x;exact⟨t,u,v,k _ _ (.inl rfl) e⟩
 | rng lo hi=>obtain⟨t,u,v,e⟩:=x;exact⟨t,u,v,k _ _ (.inl rfl) e⟩
 | frz ob u ih=>obtain⟨e,q⟩:=x;exact⟨k _ _ (.inl rfl) e,ih q⟩
 | tbl ps =>
  have e:h.get? a=some { cls:=.none,data:=.fields ps }:=x;show h'.get? a=some { cls:=.none,data:=.fields ps };exact k a _ (.inl rfl) e
 | met f y =>
  have e:h.get? a=some (W.methodObj (.ref f) (.ref y)):=x;show h'.get? a=some (W.methodObj (.ref f) (.ref y));exact k a _ (.inl rfl) e
 | ext φ=>obtain⟨p,⟨o,e⟩,st⟩:=x;exact⟨st _ _ p fun o q=>k _ _ (.inl rfl) q,⟨o,k _ _ (.inl rfl) e⟩,st⟩
theorem HOk.lt(x:HOk P w H h)(e:H a=some o):a<h.objs.size:=(x a o e).lt
theorem HOk.fresh(x:HOk P w H h)(e:h.objs.size<=a):H a=none:=by
 cases q:H a with
 | none=>rfl
 | some u=>exact absurd (Nat.lt_of_lt_of_le (x.lt q) e) (Nat.lt_irrefl _)
theorem HOk.kept(x:HOk P w H h)(k:∀ b u,h.get? b=some u->h'.get? b=some u):HOk P w H h':=fun a o e =>
 (x a o e).cN (fun b u _ q=>k b u q) (fun _ q=>q) fun _ _ q=>q
theorem HOk.laid(x:HOk P w H h)(k:∀ b u,h.get? b=some u->h'.get? b=some u)(hp:h.objs.size<=a)(new:aW P w (upd H a o) h' a o):HOk P w (upd H a o) h':=fun b u e=>by
 have hn:=x.fresh hp;by_cases hb:b=a
 ·subst hb;rw[aj]at e;cases e;exact new
 ·rw[ai hb]at e;exact(x b u e).cN (fun c v _ q=>k c v q) (fun c q=>by rw[ai (aI q hn)];exact q) fun c xs q=>by rw[ai (aI q hn)];exact q
end
def Rd(H:Hp)(a:Addr)(u:HO):Prop:=H a=some u\/∃ o,H a=some (.frz o u)
variable{P:Program}
theorem Rd.ok{w:World}{h:Heap}{u:HO}(r:Rd H a u)(x:HOk P w H h):aW P w H h a u:=by
 rcases r with r |⟨o,r⟩
 ·exact x a u r
 ·obtain⟨_,q⟩:=x a _ r;exact q
def Mut:Option HO->Prop
 | some (.lst _)=>True
 | some (.dK _)=>True
 | some (.dT _)=>True
 | some (.set _ _)=>True
 | some (.ins _ _ _)=>True
 | some (.ext _)=>True
 | some (.room _)=>True
 | _=>False
section
variable{w:World}{h h':Heap}{x e:Addr}{o':HO}
theorem HOk.write(ok:HOk P w H h)(mu:Mut (H x))(he:e=x\/H e=some (.own x))(k:∀ b u,b≠e->h.get? b=some u->h'.get? b=some u)(heo:∃ u,h'.get? e=some u)
  (new:aW P w (upd H x o') h' x o'):HOk P w (upd H x o') h':=fun b u q=>by
 have RZ:∀ c y,H c=some (.own y)->c≠x:=fun c y r z=>by subst z;rw[r]at mu;exact mu
 have Va:∀ c xs,H c=some (.tup xs)->c≠x:=fun c xs r z=>by subst z;rw[r]at mu;exact mu
 by_cases hb:b=x
 ·subst hb;rw[aj]at q;cases q;exact new
 ·rw[ai hb]at q;by_cases hbe:b=e
  ·have q':H b=some (.own x):=by
    rcases he with z|z
    ·exact absurd (hbe.trans z) hb
    ·rw[hbe];exact z
   rw[q]at q';cases q';obtain⟨v,hv⟩:=heo;exact⟨v,by rw[hbe];exact hv⟩
  ·refine(ok b u q).cN (fun c v hc r=>k c v ?_ r) (fun c r=>by rw[ai (RZ c b r)];exact r) fun c xs r=>by rw[ai (Va c xs r)];exact r
   rcases hc with rfl|hc
   ·exact hbe
   ·rintro rfl
    rcases he with z|z
    ·exact RZ c b hc z
    ·rw[hc]at z;cases z;exact hb rfl
end
structure Un(fs ex:List Addr)(H H':Hp)(h h':Heap):Prop where
 keep:∀ b o,h.get? b=some o->H b=none->b ∉ fs->b ∉ ex->h'.get? b=some o
 slot:∀ b o,h.get? b=some o->H b=none->b∈fs->b ∉ ex->∃ sl,h'.get? b=some { o with slots:=sl }
 free:∀ b o,h.get? b=some o->H b=none->b ∉ ex->H' b=none
 there:∀ b o,h.get? b=some o->b ∉ ex->∃ o',h'.get? b=some o'
 mD:∀ b xs,H b=some (.tup xs)->H' b=some (.tup xs)
 jP:∀ b o u,H b=some (.frz o u)->H' b=some (.frz o u)
 mE:∀ b ps,H b=some (.tbl ps)->∃ more,H' b=some (.tbl (ps++more))
section
variable{fs fs' ex ex':List Addr}{H1 H2:Hp}{h h1 h2 h':Heap}{x e:Addr}
theorem Un.any(u:Un fs ex H H1 h h1){b:Addr}{ob:Obj}(q:h.get? b=some ob)(n:H b=none)(hx:b ∉ ex):∃ sl,h1.get? b=some { ob with slots:=sl }:=by
 by_cases hb:b∈fs
 ·exact u.slot b ob q n hb hx
 ·exact⟨ob.slots,u.keep b ob q n hb hx⟩
theorem Un.kept(k:∀ b u,h.get? b=some u->h'.get? b=some u):Un fs ex H H h h' :=
 ⟨fun b ob q _ _ _=>k b ob q,fun b ob q _ _ _=>⟨ob.slots,k b ob q⟩,fun _ _ _ n _=>n,fun b ob q _=>⟨ob,k b ob q⟩,fun _ _ q=>q,fun _ _ _ q=>q,fun _ ps q=>⟨#[],by rw[q];simp⟩⟩
theorem Un.refl:Un fs ex H H h h:=Un.kept fun _ _ q=>q
theorem Un.laid(k:∀ b u,h.get? b=some u->h'.get? b=some u)(hp:h.objs.size<=a)(hn:H a=none):Un fs ex H (upd H a o) h h' where
 keep:=fun b u q _ _ _=>k b u q
 slot:=fun b u q _ _ _=>⟨u.slots,k b u q⟩
 free:=fun b u q n _=>by rw[ai (Nat.ne_of_lt (Nat.lt_of_lt_of_le (Heap.lt_size q) hp))];exact n
 there:=fun b u q _=>⟨u,k b u q⟩
 mD:=fun b xs q=>by rw[ai (aI q hn)];exact q
 jP:=fun b u xs q=>by rw[ai (aI q hn)];exact q
 mE:=fun b ps q=>⟨#[],by rw[ai (aI q hn),q];simp⟩
theorem Un.write(mu:Mut (H x))(he:e=x\/H e=some (.own x))(k:∀ b u,b≠e->h.get? b=some u->h'.get? b=some u)(heo:∃ u,h'.get? e=some u):Un fs ex H (upd H x o) h h':=by
 have hx:∀ b,H b=none->b≠x:=fun b n z=>by subst z;rw[n]at mu;exact mu
 have hb:∀ b,H b=none->b≠e:=fun b n z=>by
  subst z;rcases he with r|r
  ·exact hx b n r
  ·rw[n]at r;cases r
 have hm:∀ b u,H b=some u->¬ Mut (some u)->b≠x:=fun b u q nm z=>by subst z;rw[q]at mu;exact nm mu
 refine⟨fun b u q n _ _=>k b u (hb b n) q,fun b u q n _ _=>⟨u.slots,k b u (hb b n) q⟩,fun b u q n _=>by rw[ai (hx b n)];exact n,fun b u q _=>?_,
  fun b xs q=>by rw[ai (hm b _ q fun z=>z)];exact q,fun b u xs q=>by rw[ai (hm b _ q fun z=>z)];exact q,fun b ps q=>⟨#[],by rw[ai (hm b _ q fun z=>z),q];simp⟩⟩
 by_cases hbe:b=e
 ·subst hbe;exact heo
 ·exact⟨u,k b u hbe q⟩
end
def trk(h:Heap)(H:Hp):List Addr:=(List.range h.objs.size).filter fun a=>(H a).isSome
def wN(h:Heap)(H:Hp):Heap:=W.hideAll h (trk h H)
theorem DS(h:Heap)(H:Hp):(wN h H).objs.size=h.objs.size:=W.hideAll_size _ _
theorem Hs{h:Heap}{b:Addr}{o:Obj}(e:h.get? b=some o)(n:H b=none):(wN h H).get? b=some o :=
 W.hideAll_get _ e fun hm=>by
  have q:(H b).isSome=true:=(List.mem_filter.mp hm).2;rw[n]at q;simp at q
theorem Lj{h:Heap}{b:Addr}{o:Obj}(e:(wN h H).get? b=some o):h.get? b=some o/\H b=none:=by
 have e':h.get? b=some o:=W.of_hideAll (trk h H) e;refine⟨e',?_⟩;cases q:H b with
 | none=>rfl
 | some x =>
  have hm:b∈trk h H:=List.mem_filter.mpr ⟨List.mem_range.mpr (Heap.lt_size e'),by simp[q]⟩
  have z:(wN h H).get? b=none:=W.hideAll_none (trk h H) hm;rw[z]at e;cases e
structure Mod(K:W.Frag)(mg:Str->Option Value)(base:Heap):Prop where
 kin:K.In base
 glob:base.Ns mainGlobals mg
 blt:∃ mb,base.Ns builtinsNs mb/\∀ x:Str,x ≠ "__name__" -> mb x=bootBuiltins x
 nolimit:base.NoLimit
structure Cx where
 prog:Program
 w:World
 K:W.Frag
 mg:Str->Option Value
 base:Heap
 A:Around
 N:List Str
 s₀:Shared
 H₀:Hp
 env:Env
 outer:List Env
 stack:List Env
 ex:List Addr
 fn:Str->Bool
 calm:Bool
 pn:List (Addr×Obj)
 xe:Value->Shared->Prop
def frs(l:List Env):List Addr:=l.filterMap (·.frame)
abbrev Cx.fs(X:Cx):List Addr:=frs X.outer
def Vis(sc:Scope)(x:Str):Prop:=sc.names.lookup x=some .local\/sc.names.lookup x=some .cell\/sc.names.lookup x=some .free
def Loc(sc:Scope)(x:Str):Prop:=sc.names.lookup x=some .local\/sc.names.lookup x=some .cell
def Look(env:Env)(h:Heap)(m:Str->Option Value)(x:Str)(u:Value):Prop :=
 (env.kindOf x=some .local/\m x=some u)\/((env.kindOf x=some .cell\/env.kindOf x=some .free)/\∃ c,env.cells.lookup x=some c/\h.IsCell c (some u))
structure Cx.Ok(X:Cx):Prop where
 mod:Mod X.K X.mg X.base
 kind:X.env.scope.kind = .function
 glob:X.env.globals=mainGlobals
 blt:X.env.builtins=builtinsNs
 above:X.s₀.heap.objs.size<=X.env.locals
 inj:∀ x y c,X.env.cells.lookup x=some c->X.env.cells.lookup y=some c->x=y
 has:∀ x,(X.env.kindOf x=some .cell\/X.env.kindOf x=some .free)->∃ c,X.env.cells.lookup x=some c
 cab:∀ x c,X.fn x=true->X.env.cells.lookup x=some c->X.s₀.heap.objs.size<=c
 hd:X.calm=true->X.A.handled=none
 frames:X.A.frames=some X.stack
 stk:X.stack=X.outer\/(X.stack=X.env::X.outer/\X.env.frame=some X.env.locals)
 exf:∀ b∈X.ex,b≠X.env.locals/\∀ x c,X.env.cells.lookup x=some c->c≠b
 bs:∀ b o,X.base.get? b=some o->X.s₀.heap.get? b=some o/\X.H₀ b=none
 bsz:X.base.objs.size<=X.s₀.heap.objs.size
 zT:∀ b o,X.base.get? b=some o->b ∉ X.ex
 DV:∀ b∈X.ex,b ∉ X.fs
 kC:X.s₀.heap.FunFrames X.base X.outer
 frf:∀ b∈X.fs,X.H₀ b=none
structure Inv(X:Cx)(gV:List (Addr×Obj))(σ:List (Option V))(H:Hp)(s:Shared):Prop where
 ok:X.Ok
 os:s.os=X.s₀.os
 bare:AllBare s.gens
 base:Un X.fs X.ex X.H₀ H X.s₀.heap s.heap
 loc:∃ m,s.heap.Ns X.env.locals m/\∀(i:Nat)(x:Str)(v:V),X.N[i]? = some x->σ[i]? = some (some v)->Vis X.env.scope x->∃ u,RelV v u/\Look X.env s.heap m x u
 cell:∀ x c,X.env.cells.lookup x=some c->∃ v,s.heap.IsCell c v
 free:H X.env.locals=none
 cV:∀ x c,X.env.cells.lookup x=some c->H c=none
 pin:∀ p∈X.pn++gV,s.heap.get? p.1=some p.2/\H p.1=none/\p.1≠X.env.locals/\p.1 ∉ X.fs/\∀ v,p.2.data ≠ .cell v
 hok:HOk X.prog X.w H s.heap
 len:σ.length=X.N.length
variable{ch:List Addr}{t':Nat}{it:Addr}{N:List Str}{j:Nat}{x:Str}{u:Value}{s':Shared}
section
variable{X:Cx}{gV:List (Addr×Obj)}{σ:List (Option V)}{H':Hp}{s:Shared}{h':Heap}
theorem Cx.Ok.Vb(ok:X.Ok){b:Addr}{o:Obj}(e:X.base.get? b=some o):b ∉ X.fs:=fun hb=>by
 have:=(ok.kC.mem hb).1
 rw[e]at this;cases this
theorem Inv.bs(I:Inv X gV σ H s):∀ b o,X.base.get? b=some o->s.heap.get? b=some o/\H b=none:=fun b o e =>
 ⟨I.base.keep b o (I.ok.bs b o e).1 (I.ok.bs b o e).2 (I.ok.Vb e) (I.ok.zT b o e),I.base.free b o (I.ok.bs b o e).1 (I.ok.bs b o e).2 (I.ok.zT b o e)⟩
theorem Inv.bk(I:Inv X gV σ H s):∀ b o,X.base.get? b=some o->s.heap.get? b=some o:=fun b o e=>(I.bs b o e).1
theorem Inv.mod(I:Inv X gV σ H s):Mod X.K X.mg X.base:=I.ok.mod
theorem Inv.kIn(I:Inv X gV σ H s):X.K.In s.heap:=I.ok.mod.kin.keeps I.bk
theorem Inv.lt(I:Inv X gV σ H s):X.env.locals<s.heap.objs.size:=let⟨_,hn,_⟩:=I.loc;hn.lt
theorem Inv.sz(I:Inv X gV σ H s):X.s₀.heap.objs.size<=s.heap.objs.size:=Nat.le_trans I.ok.above (Nat.le_of_lt I.lt)
theorem Inv.R0(I:Inv X gV σ H s)(h:s.heap.objs.size<=a):a ∉ X.fs:=fun hb=>by
 obtain⟨_,o,ho,_⟩:=I.ok.kC.mem hb;exact absurd (Nat.lt_of_lt_of_le (Heap.lt_size ho) (Nat.le_trans I.sz h)) (Nat.lt_irrefl _)
theorem Inv.cne(I:Inv X gV σ H s):∀ x c,X.env.cells.lookup x=some c->c≠X.env.locals:=fun x c e z=>by
 obtain⟨v,o,ho,hd⟩:=I.cell x c e;obtain⟨m,⟨o',es,ep,ho',hd',_⟩,_⟩:=I.loc;rw[z,ho']at ho;cases ho;rw[hd']at hd;cases hd
theorem Inv.kC(I:Inv X gV σ H s):s.heap.FunFrames X.base X.outer:=by
 have all:∀(l:List Env),(∀ b∈frs l,b∈X.fs)->X.s₀.heap.FunFrames X.base l->s.heap.FunFrames X.base l:=by
  intro l
  induction l with
  | nil=>intro _ _;trivial
  | cons env r ih =>
   intro hs hl;obtain⟨hk,⟨L,o,hf,hn,ho,hd⟩,hr⟩:=hl;have hL:L∈X.fs:=hs L (by unfold frs;rw[List.filterMap_cons,hf];exact List.mem_cons_self)
   obtain⟨sl,e⟩:=I.base.slot L o ho (I.ok.frf L hL) hL fun z=>I.ok.DV L z hL
   exact⟨hk,⟨L,_,hf,hn,e,hd⟩,ih (fun b hb=>hs b (by unfold frs;rw[List.filterMap_cons,hf];exact List.mem_cons_of_mem _ hb)) hr⟩
 exact all X.outer (fun _ hb=>hb) I.ok.kC
theorem Inv.stack(I:Inv X gV σ H s):s.heap.FunFrames X.base X.stack:=by
 rcases I.ok.stk with e |⟨e,hf⟩
 ·rw[e];exact I.kC
 ·rw[e];obtain⟨m,hn,_⟩:=I.loc;refine .cons (by rw[I.ok.kind];decide) hf hn ?_ I.kC
  exact Heap.get?_none_of_le (Nat.le_trans I.ok.bsz I.ok.above)
theorem Inv.ox(I:Inv X gV σ H s):∀ b∈frs X.stack,b∈X.env.locals::X.fs:=fun b hb=>by
 rcases I.ok.stk with e |⟨e,hf⟩
 ·rw[e]at hb;exact List.mem_cons_of_mem _ hb
 ·rw[e]at hb;unfold frs at hb;rw[List.filterMap_cons,hf]at hb;exact hb
theorem Inv.j9(I:Inv X gV σ H s):∀ b∈frs X.stack,H b=none:=fun b hb=>by
 rcases List.mem_cons.mp (I.ox b hb)with e|hb
 ·rw[e];exact I.free
 ·obtain⟨_,o,ho,_⟩:=I.ok.kC.mem hb;exact I.base.free b o ho (I.ok.frf b hb) fun z=>I.ok.DV b z hb
theorem Inv.step{g':Array GenState}{t':Nat}{d':Drawn}(I:Inv X gV σ H s)
  (hch:∀ b∈ch,(b∈X.ex\/X.s₀.heap.objs.size<=b)/\b≠X.env.locals/\(∀ x c,X.env.cells.lookup x=some c->c≠b)/\∀ p∈X.pn++gV,p.1≠b)
  (keep:∀ b o,b≠X.env.locals->b ∉ X.fs->b ∉ ch->s.heap.get? b=some o->H b=none->h'.get? b=some o)
  (slot:∀ b o,b≠X.env.locals->b∈X.fs->b ∉ ch->s.heap.get? b=some o->H b=none->∃ sl,h'.get? b=some { o with slots:=sl }) (free:∀ b o,b ∉ ch->s.heap.get? b=some o->H b=none->H' b=none)
  (there:∀ b o,b ∉ ch->s.heap.get? b=some o->∃ o',h'.get? b=some o')
  (mD:∀ b xs,H b=some (.tup xs)->H' b=some (.tup xs)) (jP:∀ b o u,H b=some (.frz o u)->H' b=some (.frz o u)) (mE:∀ b ps,H b=some (.tbl ps)->∃ more,H' b=some (.tbl (ps++more)))
  (ns:∀ m,s.heap.Ns X.env.locals m->h'.Ns X.env.locals m) (hok:HOk X.prog X.w H' h') (hg:AllBare g') :
  Inv X gV σ H' { s with heap:=h',gens:=g',drawn:=d',toks:=t' }:=by
 have neL:∀ b o,X.s₀.heap.get? b=some o->b≠X.env.locals:=fun b o e=>Nat.ne_of_lt (Nat.lt_of_lt_of_le (Heap.lt_size e) I.ok.above)
 have neC:∀ b o,X.s₀.heap.get? b=some o->b ∉ X.ex->b ∉ ch:=fun b o e hx hb=>by
  rcases(hch b hb).1 with z|z
  ·exact hx z
  ·exact absurd (Nat.lt_of_lt_of_le (Heap.lt_size e) z) (Nat.lt_irrefl _)
 have cellK:∀ x c,X.env.cells.lookup x=some c->∀ v,s.heap.IsCell c v->h'.IsCell c v:=fun x c e v ⟨o,ho,hd⟩=>by
  have nch:c ∉ ch:=fun z=>(hch c z).2.2.1 x c e rfl
  by_cases hc:c∈X.fs
  ·obtain⟨sl,q⟩:=slot c o (I.cne x c e) hc nch ho (I.cV x c e);exact⟨_,q,hd⟩
  ·exact⟨o,keep c o (I.cne x c e) hc nch ho (I.cV x c e),hd⟩
 refine⟨I.ok,I.os,hg,⟨fun b o e n hb hx=>?_,fun b o e n hb hx=>?_,fun b o e n hx=>?_,fun b o e hx=>?_,fun b xs e=>mD b xs (I.base.mD b xs e),fun b o xs e=>jP b o xs (I.base.jP b o xs e),fun b ps e=>?_⟩,?_,fun x c e=>?_,?_,fun x c e=>?_,fun p hp=>?_,hok,I.len⟩
 ·exact keep b o (neL b o e) hb (neC b o e hx) (I.base.keep b o e n hb hx) (I.base.free b o e n hx)
 ·obtain⟨sl,e1⟩:=I.base.slot b o e n hb hx;obtain⟨sl',e2⟩:=slot b _ (neL b o e) hb (neC b o e hx) e1 (I.base.free b o e n hx);exact⟨sl',e2⟩
 ·obtain⟨o',e1⟩:=I.base.there b o e hx;exact free b o' (neC b o e hx) e1 (I.base.free b o e n hx)
 ·obtain⟨o',e1⟩:=I.base.there b o e hx;exact there b o' (neC b o e hx) e1
 ·obtain⟨m1,e1⟩:=I.base.mE b ps e;obtain⟨m2,e2⟩:=mE b _ e1;exact⟨m1++m2,by rw[e2,Array.append_assoc]⟩
 ·obtain⟨m,hn,hl⟩:=I.loc;refine⟨m,ns m hn,fun i x v e1 e2 e3=>?_⟩
  obtain⟨u,r,l⟩:=hl i x v e1 e2 e3;refine⟨u,r,?_⟩;rcases l with l |⟨k,c,e,z⟩
  ·exact .inl l
  ·exact .inr ⟨k,c,e,cellK x c e _ z⟩
 ·obtain⟨v,z⟩:=I.cell x c e;exact⟨v,cellK x c e v z⟩
 ·obtain⟨m,⟨o,_,_,ho,_⟩,_⟩:=I.loc;exact free _ o (fun z=>(hch _ z).2.1 rfl) ho I.free
 ·obtain⟨v,o,ho,hd⟩:=I.cell x c e;exact free c o (fun z=>(hch c z).2.2.1 x c e rfl) ho (I.cV x c e)
 ·obtain⟨e,n,ne,nf,d⟩:=I.pin p hp;have nch:p.1 ∉ ch:=fun z=>(hch p.1 z).2.2.2 p hp rfl
  exact⟨keep p.1 p.2 ne nf nch e n,free p.1 p.2 nch e n,ne,nf,d⟩
theorem Inv.un(I:Inv X gV σ H s)(u:Un X.fs [] H H' s.heap h')(hok:HOk X.prog X.w H' h'):Inv X gV σ H' { s with heap:=h',toks:=t' }:=by
 obtain⟨m,⟨o,es,ep,ho,r⟩,_⟩:=id I.loc;obtain⟨sl,hL⟩:=u.any ho I.free (by simp)
 exact I.step (g':=s.gens) (d':=s.drawn) (ch:=[]) (fun _ z=>nomatch z) (fun b o _ hb _ e n=>u.keep b o e n hb (by simp)) (fun b o _ hb _ e n=>u.slot b o e n hb (by simp)) (fun b o _ e n=>u.free b o e n (by simp)) (fun b o _ e=>u.there b o e (by simp)) u.mD u.jP u.mE (fun m' hm=>by
  obtain⟨o',es',ep',ho',r'⟩:=hm;rw[ho]at ho';cases ho';exact⟨_,es',ep',hL,r'⟩) hok I.bare
theorem Inv.call{g':Array GenState}{t':Nat}{d':Drawn}{ch:List Addr}(I:Inv X gV σ H s)(u:Un (frs X.stack) ch H H' s.heap h')(hok:HOk X.prog X.w H' h')(hg:AllBare g')
  (hch:∀ b∈ch,(b∈X.ex\/X.s₀.heap.objs.size<=b)/\b≠X.env.locals/\(∀ x c,X.env.cells.lookup x=some c->c≠b)/\∀ p∈X.pn++gV,p.1≠b) :
  Inv X gV σ H' { s with heap:=h',gens:=g',drawn:=d',toks:=t' }:=by
 obtain⟨m,⟨o,es,ep,ho,r⟩,_⟩:=id I.loc;obtain⟨sl,hL⟩:=u.any ho I.free fun z=>(hch _ z).2.1 rfl
 exact I.step (ch:=ch) hch (fun b o hL hb hc e n=>u.keep b o e n (fun z=>(List.mem_cons.mp (I.ox b z)).elim hL hb) hc) (fun b o _ _ hc e n=>u.any e n hc) (fun b o hc e n=>u.free b o e n hc) (fun b o hc e=>u.there b o e hc) u.mD u.jP u.mE (fun m' hm=>by
  obtain⟨o',es',ep',ho',r'⟩:=hm;rw[ho]at ho';cases ho';exact⟨_,es',ep',hL,r'⟩) hok hg
theorem Inv.turned(I:Inv X gV σ H s)(k:∀ b o,b≠it->s.heap.get? b=some o->h'.get? b=some o)(hn:H it=none)(hL:it≠X.env.locals)
  (h1:it∈X.ex\/X.s₀.heap.objs.size<=it) (h2:∀ x c,X.env.cells.lookup x=some c->c≠it) (h3:∀ p∈X.pn++gV,p.1≠it):Inv X gV σ H { s with heap:=h',toks:=t' }:=by
 have nit:∀ b u,H b=some u->b≠it:=fun b u e z=>by rw[z,hn]at e;cases e
 refine I.step (g':=s.gens) (d':=s.drawn) (ch:=[it]) (fun b hb=>?_) (fun b o _ _ hc e _=>k b o (fun z=>hc (by simp[z])) e) (fun b o _ _ hc e _=>⟨o.slots,k b o (fun z=>hc (by simp[z])) e⟩) (fun _ _ _ _ n=>n)
  (fun b o hc e=>⟨o,k b o (fun z=>hc (by simp[z])) e⟩) (fun _ _ e=>e) (fun _ _ _ e=>e) (fun b ps e=>⟨#[],by rw[e];simp⟩) (fun m hm=>?_) (fun b u e=>?_) I.bare
 ·have e:b=it:=by simpa using hb
  subst e;exact⟨h1,hL,h2,h3⟩
 ·obtain⟨o,es,ep,ho,r⟩:=hm;exact⟨o,es,ep,k _ o (Ne.symm hL) ho,r⟩
 ·refine(I.hok b u e).cN (fun c v hc q=>k c v ?_ q) (fun _ q=>q) fun _ _ q=>q
  rcases hc with z|z
  ·rw[z];exact nit b u e
  ·exact nit c _ z
theorem Inv.tok(I:Inv X gV σ H s)(t:Nat):Inv X gV σ H { s with toks:=t }:=I.un (h':=s.heap) (t':=t) Un.refl I.hok
theorem Inv.kept{t':Nat}(I:Inv X gV σ H s)(k:∀ b u,s.heap.get? b=some u->h'.get? b=some u):Inv X gV σ H { s with heap:=h',toks:=t' }:=I.un (Un.kept k) (I.hok.kept k)
theorem Inv.laid{a:Addr}{o:HO}{t':Nat}(I:Inv X gV σ H s)(k:∀ b u,s.heap.get? b=some u->h'.get? b=some u)(hp:s.heap.objs.size<=a)(new:aW X.prog X.w (upd H a o) h' a o) :
  Inv X gV σ (upd H a o) { s with heap:=h',toks:=t' }:=I.un (Un.laid k hp (I.hok.fresh hp)) (I.hok.laid k hp new)
theorem Inv.write{x e:Addr}{o:HO}{t':Nat}(I:Inv X gV σ H s)(mu:Mut (H x))(he:e=x\/H e=some (.own x))(k:∀ b u,b≠e->s.heap.get? b=some u->h'.get? b=some u)(heo:∃ u,h'.get? e=some u)
  (new:aW X.prog X.w (upd H x o) h' x o):Inv X gV σ (upd H x o) { s with heap:=h',toks:=t' }:=I.un (Un.write mu he k heo) (I.hok.write mu he k heo new)
theorem Inv.mW{pins':List (Addr×Obj)}(I:Inv X gV σ H s)(h:∀ p∈pins',s.heap.get? p.1=some p.2/\H p.1=none/\p.1≠X.env.locals/\p.1 ∉ X.fs/\∀ v,p.2.data ≠ .cell v):Inv X pins' σ H s :=
 ⟨I.ok,I.os,I.bare,I.base,I.loc,I.cell,I.free,I.cV,fun p hp=>(List.mem_append.mp hp).elim (fun z=>I.pin p (List.mem_append_left _ z)) (h p),I.hok,I.len⟩
theorem sG(hN:N.Nodup){i:Nat}(a:N[i]? = some x)(b:N[j]? = some x):i=j:=by
 obtain⟨h1,e1⟩:=List.getElem?_eq_some_iff.mp a;obtain⟨h2,e2⟩:=List.getElem?_eq_some_iff.mp b;exact(List.getElem_inj hN).mp (e1.trans e2.symm)
theorem C9{M:Model}{A:Around}{E:Value->Shared->Prop}{i:Nat}{v:V}{Q:Unit->Shared->Prop}(I:Inv X gV σ H s)(hN:X.N.Nodup)(hi:X.N[i]? = some x)(hx:Loc X.env.scope x)(r:RelV v u)
  (h:∀ s',Inv X gV (σ.set i (some v)) H s' ->(∃ a,Heap.SameBut a s.heap s'.heap/\(a=X.env.locals\/X.env.cells.lookup x=some a))->Q () s') (hf:X.fn x=true\/X.env.scope.names.lookup x=some .local:=by first|exact .inl rfl|exact .inr rfl|assumption):wpAny M A (storeName X.env x u) Q E s:=by
 obtain⟨m,hn,hl⟩:=id I.loc;have yw:(X.env.scope.kind == .class ||(X.env.scope.kind == .module&&X.env.locals != X.env.globals))=false:=by rw[I.ok.kind];rfl
 have hiσ:i < σ.length:=by rw[I.len];exact(List.getElem?_eq_some_iff.mp hi).1
 have cne:=I.cne;have tracked:∀{a:Addr}{h':Heap},(∃ o,s.heap.get? a=some o/\H a=none)->Heap.SameBut a s.heap h'->HOk X.prog X.w H h':=fun{a h'} ha hs b ob e=>by
  obtain⟨_,_,i8⟩:=ha;refine(I.hok b ob e).cN (fun c w' hc q=>(hs.2 c ?_).trans q) (fun _ q=>q) fun _ _ q=>q
  rintro rfl
  rcases hc with rfl|hc
  ·rw[i8]at e;cases e
  ·rw[i8]at hc;cases hc
 rcases hx with hk|hk
 ·refine wpAny_storeName_local hk hn (fun h' hn' hs=>?_) yw
  obtain⟨oL,_,_,hoL,_⟩:=id hn;refine h _ ⟨I.ok,I.os,I.bare,⟨fun b o e n hb hx=>?_,fun b o e n hb hx=>?_,I.base.free,fun b o e hx=>?_,I.base.mD,I.base.jP,I.base.mE⟩,⟨_,hn',fun j y v' e1 e2 e3=>?_⟩,fun y c e=>?_,I.free,I.cV,fun p hp=>?_,tracked ⟨oL,hoL,I.free⟩ hs,by simpa using I.len⟩ ⟨_,hs,.inl rfl⟩
  ·exact(hs.2 b (Nat.ne_of_lt (Nat.lt_of_lt_of_le (Heap.lt_size e) I.ok.above))).trans (I.base.keep b o e n hb hx)
  ·obtain⟨sl,e1⟩:=I.base.slot b o e n hb hx;exact⟨sl,(hs.2 b (Nat.ne_of_lt (Nat.lt_of_lt_of_le (Heap.lt_size e) I.ok.above))).trans e1⟩
  ·obtain⟨o',e1⟩:=I.base.there b o e hx;exact⟨o',(hs.2 b (Nat.ne_of_lt (Nat.lt_of_lt_of_le (Heap.lt_size e) I.ok.above))).trans e1⟩
  ·by_cases hj:j=i
   ·subst hj;rw[hi]at e1;cases e1;rw[List.getElem?_set_self hiσ]at e2;cases e2;exact⟨u,r,.inl ⟨hk,by simp⟩⟩
   ·rw[List.getElem?_set_ne (Ne.symm hj)]at e2;obtain⟨u',r',q⟩:=hl j y v' e1 e2 e3;refine⟨u',r',?_⟩;rcases q with⟨k,e⟩ |⟨k,c,e,z⟩
    ·refine .inl ⟨k,?_⟩
     have:y≠x:=fun e=>hj (sG hN e1 (e▸hi))
     simp[this,e]
    ·exact .inr ⟨k,c,e,z.sameBut hs (cne y c e)⟩
  ·obtain⟨w',z⟩:=I.cell y c e;exact⟨w',z.sameBut hs (cne y c e)⟩
  ·obtain⟨e,n,ne,nf,d⟩:=I.pin p hp;exact⟨(hs.2 p.1 ne).trans e,n,ne,nf,d⟩
 ·have hfn:X.fn x=true:=by
   rcases hf with z|z
   ·exact z
   ·rw[z]at hk;cases hk
  obtain⟨c,hc⟩:=I.ok.has x (.inl hk);obtain⟨w',z⟩:=I.cell x c hc;refine wpAny_storeName_cell I.ok.kind hk hc z (fun h' hc' hs=>?_)
  obtain⟨oc,hoc,Vt⟩:=id z;refine h { s with heap:=h' } ⟨I.ok,I.os,I.bare,⟨fun b o e n hb hx=>?_,fun b o e n hb hx=>?_,I.base.free,fun b o e hx=>?_,I.base.mD,I.base.jP,I.base.mE⟩,⟨m,hn.sameBut hs (Ne.symm (cne x c hc)),fun j y v' e1 e2 e3=>?_⟩,fun y c' e=>?_,I.free,I.cV,fun p hp=>?_,tracked ⟨oc,hoc,I.cV x c hc⟩ hs,by simpa using I.len⟩ ⟨c,hs,.inr hc⟩
  ·exact(hs.2 b (Nat.ne_of_lt (Nat.lt_of_lt_of_le (Heap.lt_size e) (I.ok.cab x c hfn hc)))).trans (I.base.keep b o e n hb hx)
  ·obtain⟨sl,e1⟩:=I.base.slot b o e n hb hx;exact⟨sl,(hs.2 b (Nat.ne_of_lt (Nat.lt_of_lt_of_le (Heap.lt_size e) (I.ok.cab x c hfn hc)))).trans e1⟩
  ·obtain⟨o',e1⟩:=I.base.there b o e hx;exact⟨o',(hs.2 b (Nat.ne_of_lt (Nat.lt_of_lt_of_le (Heap.lt_size e) (I.ok.cab x c hfn hc)))).trans e1⟩
  ·by_cases hj:j=i
   ·subst hj;rw[hi]at e1;cases e1;rw[List.getElem?_set_self hiσ]at e2;cases e2;exact⟨u,r,.inr ⟨.inl hk,c,hc,hc'⟩⟩
   ·rw[List.getElem?_set_ne (Ne.symm hj)]at e2;obtain⟨u',r',q⟩:=hl j y v' e1 e2 e3;refine⟨u',r',?_⟩;rcases q with q |⟨k,c',e,z'⟩
    ·exact .inl q
    ·refine .inr ⟨k,c',e,z'.sameBut hs ?_⟩
     rintro rfl
     exact hj (sG hN e1 (I.ok.inj _ _ _ e hc▸hi))
  ·by_cases hcc:c'=c
   ·subst hcc;exact⟨_,hc'⟩
   ·obtain⟨w2,z2⟩:=I.cell y c' e;exact⟨w2,z2.sameBut hs hcc⟩
  ·obtain⟨e,n,ne,nf,d⟩:=I.pin p hp;refine⟨(hs.2 p.1 ?_).trans e,n,ne,nf,d⟩;intro q;rw[q,hoc]at e;have q':oc=p.2:=Option.some.inj e;exact d w' (by rw[<- q'];exact Vt)
theorem mH{M:Model}{A:Around}{E:Value->Shared->Prop}{i:Nat}{v:V}{Q:Unit->Shared->Prop}(I:Inv X gV σ H s)(hN:X.N.Nodup)(hi:X.N[i]? = some x)(hx:Loc X.env.scope x)(r:RelV v u)
  (h:∀ s',Inv X gV (σ.set i (some v)) H s'->Q () s') (hf:X.fn x=true\/X.env.scope.names.lookup x=some .local:=by first|exact .inl rfl|exact .inr rfl|assumption):wpAny M A (storeName X.env x u) Q E s :=
 C9 I hN hi hx r (fun s' I' _=>h s' I') hf
theorem Inv.yL(I:Inv X gV σ H s)(ho:s'.os=s.os)(u:Un (frs X.stack) ch H H' s.heap s'.heap)(hok:HOk X.prog X.w H' s'.heap)(hg:AllBare s'.gens)
  (hch:∀ b∈ch,(b∈X.ex\/X.s₀.heap.objs.size<=b)/\b≠X.env.locals/\(∀ x c,X.env.cells.lookup x=some c->c≠b)/\∀ p∈X.pn++gV,p.1≠b):Inv X gV σ H' s':=by
 obtain⟨h',g',d',t',o'⟩:=s';have e:o'=s.os:=ho;subst e;exact I.call (g':=g') (t':=t') (d':=d') u hok hg hch
end
abbrev XK:=Value->Option Addr->Hp->Prop
abbrev St:=List (Option V)
abbrev VK:=V->Hp->Prop
abbrev TE:=St->Hp->VK->Prop
abbrev TT:=St->Hp ->(Bool->Hp->Prop)->Prop
abbrev TA:=St->Hp ->(List V->Hp->Prop)->Prop
structure Ends where
 nx:St->Hp->Prop
 rt:VK
 bk:St->Hp->Prop:=fun _ _=>False
 ct:St->Hp->Prop:=fun _ _=>False
abbrev TS:=Ends->St->Hp->Prop
def EP(X:Cx)(gV:List (Addr×Obj))(σ:St)(Q:VK)(u:Value)(s':Shared):Prop:=∃ v H',Inv X gV σ H' s'/\RelV v u/\Q v H'
def TP(X:Cx)(gV:List (Addr×Obj))(σ:St)(Q:Bool->Hp->Prop)(b:Bool)(s':Shared):Prop:=∃ H',Inv X gV σ H' s'/\Q b H'
def AP(X:Cx)(gV:List (Addr×Obj))(σ:St)(Q:List V->Hp->Prop)(us:List Value)(s':Shared):Prop:=∃ vs H',Inv X gV σ H' s'/\Vals vs us/\Q vs H'
def SP(X:Cx)(gV:List (Addr×Obj))(D:Ends)(f:Flow)(s':Shared):Prop :=
 match f with
 | .next=>∃ σ' H',Inv X gV σ' H' s'/\D.nx σ' H'
 | .brk=>∃ σ' H',Inv X gV σ' H' s'/\D.bk σ' H'
 | .cont=>∃ σ' H',Inv X gV σ' H' s'/\D.ct σ' H'
 | .ret u=>∃ v σ' H',Inv X gV σ' H' s'/\RelV v u/\D.rt v H'
def PE(X:Cx)(e:Expr)(t:TE):Prop :=
 ∀(gV:List (Addr×Obj))(s:Shared)(σ:St)(H:Hp)(Q:VK),Inv X gV σ H s->t σ H Q->wpAny (model X.prog X.w) X.A (eval e X.env) (EP X gV σ Q) X.xe s
def PT(X:Cx)(e:Expr)(t:TT):Prop :=
 ∀(gV:List (Addr×Obj))(s:Shared)(σ:St)(H:Hp)(Q:Bool->Hp->Prop),Inv X gV σ H s->t σ H Q->wpAny (model X.prog X.w) X.A (isTrue e X.env (eval e X.env)) (TP X gV σ Q) X.xe s
def PW(X:Cx)(e:Expr)(t:TT):Prop :=
 ∀(whole:Sem Value)(gV:List (Addr×Obj))(s:Shared)(σ:St)(H:Hp)(Q:Bool->Hp->Prop),Inv X gV σ H s->t σ H Q->wpAny (model X.prog X.w) X.A (isTrue e X.env whole) (TP X gV σ Q) X.xe s
variable{X:Cx}{e:Expr}
theorem PW.pt{t:TT}(h:PW X e t):PT X e t:=h _
def PA(X:Cx)(es:List Expr)(t:TA):Prop :=
 ∀(pos:Pos)(gV:List (Addr×Obj))(s:Shared)(σ:St)(H:Hp)(Q:List V->Hp->Prop),Inv X gV σ H s->t σ H Q->wpAny (model X.prog X.w) X.A (spliced (backTo pos (starEach es X.env))) (AP X gV σ Q) X.xe s
def PS(X:Cx)(st:Stmt)(t:TS):Prop :=
 ∀(gV:List (Addr×Obj))(s:Shared)(σ:St)(H:Hp)(D:Ends),Inv X gV σ H s->t D σ H->wpAny (model X.prog X.w) X.A (exec st X.env) (SP X gV D) X.xe s
def PSs(X:Cx)(st:List Stmt)(t:TS):Prop :=
 ∀(gV:List (Addr×Obj))(s:Shared)(σ:St)(H:Hp)(D:Ends),Inv X gV σ H s->t D σ H->wpAny (model X.prog X.w) X.A (execs st X.env) (SP X gV D) X.xe s
variable{M:Model}{A:Around}{E:Value->Shared->Prop}
theorem thn{α:Type}{t:Sem α}{Q Q':α->Shared->Prop}{s:Shared}(h:wpAny M A t Q E s)(hQ:∀ a s,Q a s->Q' a s):wpAny M A t Q' E s:=wpAny_mono h hQ fun _ _ x=>x
variable{gV:List (Addr×Obj)}{Q:Value->Shared->Prop}
section
def b7(i:Nat):TE:=fun σ H Q=>∃ v,σ[i]? = some (some v)/\Q v H
def tC(v:V):TE:=fun _ H Q=>Q v H
theorem Gu{i:Nat}{pos:Pos}(hN:X.N[i]? = some x)(hv:Vis X.env.scope x)(hd:(x ==("__debug__":Str))=false:=by decide)(hcd:(x ==("__classdict__":Str))=false:=by decide):PE X (.Name x pos) (b7 i):=by
 intro gV s σ H Q I h;obtain⟨v,e,h⟩:=h;obtain⟨m,hn,hl⟩:=I.loc;obtain⟨u,r,l⟩:=hl i x v hN e hv;have fin:EP X gV σ Q u s:=⟨v,H,I,r,h⟩;rcases l with⟨hk,hm⟩ |⟨hk,c,hc,gK⟩
 ·exact wpAny_Name (wpAny_loadName_local I.ok.kind hk hn hm fin) hd
 ·rcases hk with hk|hk
  ·exact wpAny_Name (wpAny_loadName_cell I.ok.kind hk hc gK fin) hd
  ·exact wpAny_Name (wpAny_loadName_free I.ok.kind hk hc gK fin hcd) hd
theorem bD{i j pos}:PE X (.Constant (.int i) j pos) (tC (.int i)):=fun _ _ _ H _ I h=>wpAny_Constant_int ⟨.int i,H,I.tok _,⟨_,rfl⟩,h⟩
theorem RP{b j pos}:PE X (.Constant (.bool b) j pos) (tC (.bl b)):=fun _ _ _ H _ I h=>Constant_bool ⟨.bl b,H,I,rfl,h⟩
theorem OL{j pos}:PE X (.Constant .none j pos) (tC .non):=fun _ _ _ H _ I h=>Constant_none ⟨.non,H,I,rfl,h⟩
theorem cS{x j pos}:PE X (.Constant (.str x) j pos) (tC (.str x)):=fun _ _ _ H _ I h=>Calls.Constant_str ⟨.str x,H,I.tok _,⟨_,rfl⟩,h⟩
def Gl(X:Cx)(x:Str):Prop:=X.env.kindOf x=some .globalImplicit
theorem kj{E:Value->Shared->Prop}{s:Shared}{σ:St}{pos:Pos}(I:Inv X gV σ H s)(hg:Gl X x)(hm:X.mg x=some u)(h:Q u s)
  (hd:(x ==("__debug__":Str))=false:=by decide):wpAny (model X.prog X.w) X.A (eval (.Name x pos) X.env) Q E s :=
 Calls.Name_function_global I.ok.kind hg (Calls.loadGlobal_global (by rw[I.ok.glob];exact I.mod.glob.keeps I.bk) hm h) hd
theorem jC{E:Value->Shared->Prop}{s:Shared}{σ:St}{pos:Pos}(I:Inv X gV σ H s)(hg:Gl X x)(hm:X.mg x=none)(hv:bootBuiltins x=some u)(h:Q u s)
  (hn:x ≠ "__name__":=by decide) (hd:(x ==("__debug__":Str))=false:=by decide):wpAny (model X.prog X.w) X.A (eval (.Name x pos) X.env) Q E s:=by
 obtain⟨mb,h1,h2⟩:=I.mod.blt;exact Calls.Name_function_global I.ok.kind hg (Calls.loadGlobal_builtin (by rw[I.ok.glob];exact I.mod.glob.keeps I.bk) hm (by rw[I.ok.blt];exact h1.keeps I.bk) ((h2 x hn).trans hv) h) hd
theorem K3{v:V}{pos:Pos}(hg:Gl X x)(hm:X.mg x=some u)(r:RelV v u)(hd:(x ==("__debug__":Str))=false:=by decide):PE X (.Name x pos) (tC v) :=
 fun _ _ _ H _ I h=>kj I hg hm ⟨v,H,I,r,h⟩ hd
theorem BP{v:V}{pos:Pos}(hg:Gl X x)(hm:X.mg x=none)(hv:bootBuiltins x=some u)(r:RelV v u)(hn:x ≠ "__name__":=by decide)(hd:(x ==("__debug__":Str))=false:=by decide):PE X (.Name x pos) (tC v) :=
 fun _ _ _ H _ I h=>jC I hg hm hv ⟨v,H,I,r,h⟩ hn hd
variable{a b:Expr}{ta tb:TE}{pos:Pos}
variable{tA tB':TT}{rest:List Expr}
def NO(t u:TT):TT:=fun σ H Q=>t σ H fun c H1=>if c=true then u σ H1 Q else Q false H1
def tOr(t u:TT):TT:=fun σ H Q=>t σ H fun c H1=>if c=true then Q true H1 else u σ H1 Q
def NK(t:TT):TT:=fun σ H Q=>t σ H fun c H1=>Q (!c) H1
theorem BB(ha:PT X a tA):PW X (.BoolOp .And [a] pos) tA:=by
 intro wh gV s σ H Q I h;refine isTrue_and (thn (ha gV s σ H Q I h) fun c s1 e=>?_)
 cases c with
 | true=>exact isTrue_and_nil e
 | false=>exact e
theorem Ou(ha:PT X a tA):PW X (.BoolOp .Or [a] pos) tA:=by
 intro wh gV s σ H Q I h;refine isTrue_or (thn (ha gV s σ H Q I h) fun c s1 e=>?_)
 cases c with
 | false=>exact isTrue_or_nil e
 | true=>exact e
theorem Gb(ha:PT X a tA)(hb:PW X (.BoolOp .And (b::rest) pos) tB'):PW X (.BoolOp .And (a::b::rest) pos) (NO tA tB'):=by
 intro wh gV s σ H Q I h;refine isTrue_and (thn (ha gV s σ H _ I h) fun c s1 hPP=>?_)
 obtain⟨H1,I1,q1⟩:=hPP;cases c with
 | true=>exact hb wh gV s1 σ H1 Q I1 q1
 | false=>exact⟨H1,I1,q1⟩
theorem RF(ha:PT X a tA)(hb:PW X (.BoolOp .Or (b::rest) pos) tB'):PW X (.BoolOp .Or (a::b::rest) pos) (tOr tA tB'):=by
 intro wh gV s σ H Q I h;refine isTrue_or (thn (ha gV s σ H _ I h) fun c s1 hPP=>?_)
 obtain⟨H1,I1,q1⟩:=hPP;cases c with
 | true=>exact⟨H1,I1,q1⟩
 | false=>exact hb wh gV s1 σ H1 Q I1 q1
theorem Ow(ha:PT X a tA):PT X (.UnaryOp .Not a pos) (NK tA):=by
 intro gV s σ H Q I h;exact isTrue_not (ha gV s σ H (fun c H1=>Q (!c) H1) I h)
def EW(ta tb:TE):TE:=fun σ H Q=>ta σ H fun x H1=>∃ c,x = .bl c/\if c=true then tb σ H1 Q else Q (.bl false) H1
theorem OJ{op}{t:TE}(h:PE X a t):PE X (.BoolOp op [a] pos) t:=fun gV s σ H Q I hw=>BoolOp_one (h gV s σ H Q I hw)
theorem ON(ha:PE X a ta)(hb:PE X (.BoolOp .And (b::rest) pos) tb):PE X (.BoolOp .And (a::b::rest) pos) (EW ta tb):=by
 intro gV s σ H Q I h;refine BoolOp_and (thn (ha gV s σ H _ I h) fun v s1 hPP=>?_)
 obtain⟨x,H1,I1,r1,q1⟩:=hPP;obtain⟨c,rfl,q1⟩:=q1;cases r1;refine wpAny_truthy_bool ?_;cases c with
 | true=>exact hb gV s1 σ H1 Q I1 q1
 | false=>exact⟨.bl false,H1,I1,rfl,q1⟩
end
def SqL(K:W.Frag)(H:Hp)(a:Addr)(xs:List V):Prop :=
 Rd H a (.lst xs) \/
  ∃(o:Obj)(its:Array Value)(n:Nat),K.lookup a=some o/\o.cls = .type "list" /\ o.dict=none/\o.data = .seq its n/\its.size<=sizeLine/\Vals xs its.toList
def SqT(K:W.Frag)(H:Hp)(a:Addr)(xs:List V):Prop :=
 Rd H a (.tup xs) \/
  ∃(o:Obj)(its:Array Value)(n:Nat),K.lookup a=some o/\o.cls = .type "tuple" /\ o.data = .seq its n/\its.size<=sizeLine/\Vals xs its.toList
def VR:Value->Option V
 | .none=>some .non
 | .bool b=>some (.bl b)
 | .int i _=>some (.int i)
 | .str x _=>some (.str x)
 | .bytes b _=>some (.byt b)
 | .float b _=>some (.flt b)
 | .ref a=>some (.ref a)
 | .type n=>some (.ty n)
 | _=>none
theorem RelV.abs{x:V}(r:RelV x u):VR u=some x:=by
 cases x with
 | non=>cases r;rfl
 | bl _=>cases r;rfl
 | int _=>obtain⟨t,rfl⟩:=r;rfl
 | str _=>obtain⟨t,rfl⟩:=r;rfl
 | byt _=>obtain⟨t,rfl⟩:=r;rfl
 | flt _=>obtain⟨t,rfl⟩:=r;rfl
 | ref _=>cases r;rfl
 | ty _=>cases r;rfl
theorem RelV.inj{x y:V}{u:Value}(r:RelV x u)(q:RelV y u):x=y:=Option.some.inj (r.abs.symm.trans q.abs)
theorem Vals.inj:∀{xs ys:List V}{us:List Value},Vals xs us->Vals ys us->xs=ys:=by
 intro xs ys us h
 induction h generalizing ys with
 | nil=>intro h';cases h';rfl
 | cons r t ih=>intro h';cases h' with|cons r' t'=>rw[r.inj r',ih t']
section
variable{σ:St}{s:Shared}{xs ys:List V}
theorem SqL.of{K:W.Frag}(h:H a=some (.lst xs)):SqL K H a xs:=.inl (.inl h)
theorem SqT.of{K:W.Frag}(h:H a=some (.tup xs)):SqT K H a xs:=.inl (.inl h)
theorem Inv.list(I:Inv X gV σ H s)(h:SqL X.K H a xs):∃ its:List Value,Vals xs its/\PlainL s.heap a its.toArray/\xs.length<=sizeLine:=by
 rcases h with h |⟨o,its,n,hk,hc,hd,hs,hz,r⟩
 ·obtain⟨z,its,n,r,e⟩:=h.ok I.hok;exact⟨its,r,⟨_,n,e,rfl,rfl,rfl⟩,z⟩
 ·refine⟨its.toList,r,⟨o,n,I.kIn a o hk,hc,hd,by simpa using hs⟩,?_⟩
  have e:=r.length;simp only[Array.length_toList]at e;omega
theorem Inv.tuple(I:Inv X gV σ H s)(h:SqT X.K H a xs):∃ its:List Value,Vals xs its/\IsTup s.heap a its.toArray/\xs.length<=sizeLine:=by
 rcases h with h |⟨o,its,n,hk,hc,hs,hz,r⟩
 ·obtain⟨z,its,r,p⟩:=h.ok I.hok;exact⟨its,r,p.1,z⟩
 ·refine⟨its.toList,r,⟨o,I.kIn a o hk,hc,n,by simpa using hs⟩,?_⟩
  have e:=r.length;simp only[Array.length_toList]at e;omega
theorem Inv.yk(I:Inv X gV σ H s)(h:SqL X.K H a xs)(h':SqL X.K H a ys):xs=ys:=by
 obtain⟨its,r,⟨o,n,e,_,_,d⟩,_⟩:=I.list h;obtain⟨its',r',⟨o',n',e',_,_,d'⟩,_⟩:=I.list h';rw[e]at e';cases e';rw[d]at d';injection d' with d1 _
 have:its=its':=by simpa using congrArg Array.toList d1
 subst this;exact r.inj r'
theorem Inv.uU(I:Inv X gV σ H s)(h:SqT X.K H a xs)(h':SqT X.K H a ys):xs=ys:=by
 obtain⟨its,r,⟨o,e,_,n,d⟩,_⟩:=I.tuple h;obtain⟨its',r',⟨o',e',_,n',d'⟩,_⟩:=I.tuple h';rw[e]at e';cases e';rw[d]at d';injection d' with d1 _
 have:its=its':=by simpa using congrArg Array.toList d1
 subst this;exact r.inj r'
end
abbrev Cx.um(X:Cx)(E:Value->Shared->Prop):Cx:={ X with xe:=E }
abbrev Cx.nox(X:Cx):Cx:=X.um fun _ _=>False
theorem Cx.Ok.um{X:Cx}(ok:X.Ok)(E:Value->Shared->Prop):(X.um E).Ok :=
 ⟨ok.mod,ok.kind,ok.glob,ok.blt,ok.above,ok.inj,ok.has,ok.cab,ok.hd,ok.frames,ok.stk,ok.exf,ok.bs,ok.bsz,ok.zT,ok.DV,ok.kC,ok.frf⟩
theorem Cx.Ok.jh(ok:(X.um E).Ok):X.Ok :=
 ⟨ok.mod,ok.kind,ok.glob,ok.blt,ok.above,ok.inj,ok.has,ok.cab,ok.hd,ok.frames,ok.stk,ok.exf,ok.bs,ok.bsz,ok.zT,ok.DV,ok.kC,ok.frf⟩
section
variable{σ:St}{s:Shared}
theorem Inv.um(I:Inv X gV σ H s)(E:Value->Shared->Prop):Inv (X.um E) gV σ H s:=⟨I.ok.um E,I.os,I.bare,I.base,I.loc,I.cell,I.free,I.cV,I.pin,I.hok,I.len⟩
theorem Inv.jh(I:Inv (X.um E) gV σ H s):Inv X gV σ H s:=⟨I.ok.jh,I.os,I.bare,I.base,I.loc,I.cell,I.free,I.cV,I.pin,I.hok,I.len⟩
theorem SP.jh{D:Ends}{f:Flow}{s':Shared}(h:SP (X.um E) gV D f s'):SP X gV D f s':=by
 cases f with
 | next=>obtain⟨σ',H',I,q⟩:=h;exact⟨σ',H',I.jh,q⟩
 | brk=>obtain⟨σ',H',I,q⟩:=h;exact⟨σ',H',I.jh,q⟩
 | cont=>obtain⟨σ',H',I,q⟩:=h;exact⟨σ',H',I.jh,q⟩
 | ret u=>obtain⟨v,σ',H',I,r,q⟩:=h;exact⟨v,σ',H',I.jh,r,q⟩
theorem PSs.nox{st:List Stmt}{t:TS}(h:PSs X.nox st t):PSs X st t:=fun gV s σ H D I hw =>
 wpAny_mono (h gV s σ H D (I.um _) hw) (fun _ _ q=>q.jh) fun _ _ z=>False.elim z
end
variable{tc:TT}
section
variable{st:Stmt}{rest:List Stmt}{t u:TS}{te:TE}{pos:Pos}
def MB:TS:=fun D σ H=>D.nx σ H
def NG(t u:TS):TS:=fun D σ H=>t { D with nx:=u D } σ H
theorem BF:PSs X [] MB:=fun _ _ σ H _ I h=>wpAny_execs_nil ⟨σ,H,I,h⟩
theorem bE(h1:PS X st t)(h2:PSs X rest u):PSs X (st::rest) (NG t u):=by
 intro gV s σ H D I h;refine wpAny_execs_cons (thn (h1 gV s σ H { D with nx:=u D } I h) fun f s1 q=>?_)
 cases f with
 | next =>
  obtain⟨σ',H',I',q⟩:=q;exact h2 gV s1 σ' H' D I' q
 | ret v=>exact q
 | brk=>exact q
 | cont=>exact q
theorem eZ(h1:PS X st t):PSs X [st] t:=by
 intro gV s σ H D I h;refine wpAny_execs_cons (thn (h1 gV s σ H D I h) fun f s1 q=>?_)
 cases f with
 | next=>exact wpAny_execs_nil q
 | ret v=>exact q
 | brk=>exact q
 | cont=>exact q
theorem Inv.quiet{σ:St}{s:Shared}(I:Inv X gV σ H s):interactive X.env=false:=by simp[interactive,I.ok.kind]
def gu(te:TE):TS:=fun D σ H=>te σ H fun _ H1=>D.nx σ H1
theorem kh(he:PE X e te)(hs:swapsWith e none pos.line X.env=pure false:=by rfl):PS X (.Expr e pos) (gu te):=by
 intro gV s σ H D I h;exact wpAny_Expr_any (thn (he gV s σ H _ I h) fun v s1 ⟨x,H1,I1,r1,q1⟩=>⟨σ,H1,I1,q1⟩) I.quiet hs
def NH(te:TE):TS:=fun D σ H=>te σ H D.rt
theorem sf(he:PE X e te):PS X (.Return (some e) pos) (NH te):=by
 intro gV s σ H D I h;exact wpAny_Return_some (thn (he gV s σ H _ I h) fun v s1 ⟨x,H1,I1,r1,q1⟩=>⟨x,σ,H1,I1,r1,q1⟩)
def NL(c:TT)(t u:TS):TS:=fun D σ H=>c σ H fun b H1=>if b=true then t D σ H1 else u D σ H1
theorem Gi{c:Expr}{a b:List Stmt}(hc:PT X c tc)(ha:PSs X a t)(hb:PSs X b u):PS X (.If c a b pos) (NL tc t u):=by
 intro gV s σ H D I h;refine wpAny_If (thn (hc gV s σ H _ I h) fun d s1 hPP=>?_)
 obtain⟨H1,I1,q1⟩:=hPP;cases d with
 | true=>exact ha gV s1 σ H1 D I1 q1
 | false=>exact hb gV s1 σ H1 D I1 q1
def ER:TS:=fun _ _ _=>False
theorem Gh:PS X st ER:=fun _ _ _ _ _ _ h=>h.elim
end
abbrev TG:=V->St->Hp ->(St->Hp->Prop)->Prop
abbrev TGs:=List V->St->Hp ->(St->Hp->Prop)->Prop
def PG(X:Cx)(target:Expr)(t:TG):Prop :=
 ∀(gV:List (Addr×Obj))(s:Shared)(σ:St)(H:Hp)(v:V)(u:Value)(Q:St->Hp->Prop),Inv X gV σ H s->RelV v u->t v σ H Q ->
  wpAny (model X.prog X.w) X.A (assign target X.env u) (fun _ s'=>∃ σ' H',Inv X gV σ' H' s'/\Q σ' H') X.xe s
def PGs(X:Cx)(ts:List Expr)(t:TGs):Prop :=
 ∀(gV:List (Addr×Obj))(s:Shared)(σ:St)(H:Hp)(vs:List V)(us:List Value)(Q:St->Hp->Prop),Inv X gV σ H s->Vals vs us->t vs σ H Q ->
  wpAny (model X.prog X.w) X.A (assignInOrder ((assignEach ts X.env).map (·.2)) us) (fun _ s'=>∃ σ' H',Inv X gV σ' H' s'/\Q σ' H') X.xe s
abbrev Mt:=V->V->V->Hp ->(Hp->Prop)->Prop
def Qj(X:Cx)(t:Mt):Prop :=
 ∀(gV:List (Addr×Obj))(s:Shared)(σ:St)(H:Hp)(o i v:V)(ov iv u:Value)(Q:Hp->Prop),Inv X gV σ H s->RelV o ov->RelV i iv->RelV v u->t o i v H Q ->
  wpAny (model X.prog X.w) X.A (setItem ov iv u) (fun _ s'=>∃ H',Inv X gV σ H' s'/\Q H') X.xe s
variable{es:List Expr}{n:Nat}{to:TE}{tg:Expr}{te:TE}{pos':Pos}
section
variable{pos:Pos}
def fG(i:Nat):TG:=fun v σ H Q=>Q (σ.set i (some v)) H
theorem mX{i:Nat}(hN:X.N.Nodup)(hi:X.N[i]? = some x)(hx:Loc X.env.scope x)(hf:X.fn x=true\/X.env.scope.names.lookup x=some .local:=by first|exact .inl rfl|exact .inr rfl|assumption):PG X (.Name x pos) (fG i):=by
 intro gV s σ H v u Q I r h;exact wpAny_assign_Name (mH I hN hi hx r (fun s' I'=>⟨_,H,I',h⟩) hf)
def PY:TGs:=fun vs σ H Q=>vs = []/\Q σ H
def Cj(t:TG)(u:TGs):TGs:=fun vs σ H Q=>∃ v r,vs=v::r/\t v σ H fun σ' H'=>u r σ' H' Q
theorem qU:PGs X [] PY:=by
 intro gV s σ H vs us Q I r h;obtain⟨e,h⟩:=h;subst e;cases r;exact assignInOrder_nil ⟨σ,H,I,h⟩
theorem cB{t:TG}{u:TGs}(h1:PG X e t)(h2:PGs X es u)
  (hs:(assignEach (e::es) X.env).map (·.2)=assign e X.env ::(assignEach es X.env).map (·.2):=by rfl):PGs X (e::es) (Cj t u):=by
 intro gV s σ H vs us Q I r h;obtain⟨v,vr,e1,h⟩:=h;subst e1;cases r with
 | cons r rr =>
  rw[hs];refine assignInOrder_cons (thn (h1 gV s σ H _ _ _ I r h) fun _ s1 hPP=>?_)
  obtain⟨σ1,H1,I1,q1⟩:=hPP;exact h2 gV s1 σ1 H1 _ _ Q I1 rr q1
def LU(K:W.Frag)(n:Nat)(t:TGs):TG:=fun v σ H Q=>∃ a xs,v = .ref a/\SqT K H a xs/\xs.length=n/\t xs σ H Q
theorem OI{k:Nat}{t:TGs}(hc:X.calm=true)(h:PGs X es t)
  (hn:(assignEach es X.env).length=n:=by rfl) (hst:(assignEach es X.env).findIdx? (·.1)=none:=by rfl):PG X (.Tuple es k pos) (LU X.K n t):=by
 intro gV s σ H v u Q I r hw;obtain⟨a,xs,e1,hq,hl,hw⟩:=hw;subst e1;cases r;obtain⟨its,rv,ht,hz⟩:=I.tuple hq;refine assign_Tuple_tuple (I.ok.hd hc) ht (by simp[hn,<- hl,rv.length]) hst fun h' hx=>?_
 have I1:Inv X gV σ H { s with heap:=h' }:=I.kept (t':=s.toks) fun b o e=>hx b o (Nat.ne_of_lt (Heap.lt_size e)) e
 exact h gV _ σ H xs _ Q I1 (by simpa using rv) hw
def Hz(to ti:TE)(t:Mt):TG:=fun v σ H Q=>to σ H fun o H1=>ti σ H1 fun i H2=>t o i v H2 fun H3=>Q σ H3
theorem Gs{o i:Expr}{ti:TE}{t:Mt}(ho:PE X o to)(hi:PE X i ti)(hs:Qj X t)
  (ha:∀ v,assign (.Subscript o i pos) X.env v =(do
   let ov <- holding [v] (eval o X.env)
   let iv <- holding [v,ov] (eval i X.env)
   standAt pos
   holding [v,ov,iv] (setItem ov iv v)
   release [v,ov,iv] []):=by intro _;rfl):PG X (.Subscript o i pos) (Hz to ti t):=by
 intro gV s σ H v u Q I r h;rw[ha];refine wpAny_bind (wpAny_holding (thn (ho gV s σ H _ I h) fun ov s1 hPP=>?_))
 obtain⟨x,H1,I1,r1,q1⟩:=hPP;refine wpAny_bind (wpAny_holding (thn (hi gV s1 σ H1 _ I1 q1) fun iv s2 hPP=>?_))
 obtain⟨y,H2,I2,r2,q2⟩:=hPP;refine wpAny_bind (wpAny_standAt (wpAny_bind (wpAny_holding (thn (hs gV s2 σ H2 x y v ov iv u _ I2 r1 r2 r q2) fun _ s3 hPP=>?_))))
 obtain⟨H3,I3,q3⟩:=hPP;exact wpAny_release ⟨σ,H3,I3,q3⟩
def jd(te:TE)(g:TG):TS:=fun D σ H=>te σ H fun x H1=>g x σ H1 D.nx
theorem wg{g:TG}(he:PE X e te)(hg:PG X tg g)(hs:swapsWithSole [tg] e pos.line X.env=pure false:=by rfl)(hw:swappedStores [tg] e X.env=pure none:=by rfl)
  (h1:(assignEach [tg] X.env).map (·.2) = [assign tg X.env]:=by rfl):PS X (.Assign [tg] e pos) (jd te g):=by
 intro gV s σ H D I h;refine wpAny_Assign_stores (thn (he gV s σ H _ I h) fun v s1 hPP=>?_) hs hw
 obtain⟨x,H1,I1,r1,q1⟩:=hPP;rw[h1];exact thn (hg gV s1 σ H1 x v _ I1 r1 q1) fun _ s2 q=>q
theorem iz{i:Nat}(hN:X.N.Nodup)(hi:X.N[i]? = some x)(hx:Loc X.env.scope x)(he:PE X e te)(hs:swapsWith e (some (.Name x pos')) pos.line X.env=pure false:=by rfl)(hf:X.fn x=true\/X.env.scope.names.lookup x=some .local:=by first|exact .inl rfl|exact .inr rfl|assumption) :
  PS X (.Assign [.Name x pos'] e pos) (jd te (fG i)):=by
 intro gV s σ H D I h;refine wpAny_Assign_Name (thn (he gV s σ H _ I h) fun v s1 hPP=>?_) hs
 obtain⟨y,H1,I1,r1,q1⟩:=hPP;exact mH I1 hN hi hx r1 (fun s2 I2=>⟨_,H1,I2,q1⟩) hf
end
variable{body:List Stmt}
section
variable{pos:Pos}
def y8(c:TT)(tb:TS):TS:=fun D σ H=>∃ W:Nat->St->Hp->Prop,(∃ m,W m σ H)/\∀ m σ H,W m σ H ->
 c σ H fun b H1=>if b=true then ∃ N:St->Hp->Prop,(∀ σ' H',N σ' H'->∃ m',m'<m/\W m' σ' H')/\tb { D with nx:=N,ct:=N,bk:=D.nx } σ H1 else D.nx σ H1
theorem x4{c:Expr}{tb:TS}(hp:PassesOwn (model X.prog X.w) X.A X.env X.xe)(hc:PT X c tc)(hb:PSs X body tb):PS X (.While c body [] pos) (y8 tc tb):=by
 intro gV s σ H D I h;obtain⟨W,⟨m0,w0⟩,turn⟩:=h;refine wpAny_While (codeAny_whileLoop (fun n s'=>∃ σ' H',Inv X gV σ' H' s'/\W n σ' H') ?_ m0 ⟨σ,H,I,w0⟩)
 rintro n s1 ⟨σ1,H1,I1,w1⟩
 refine wpAny_passesOwn hp (thn (hc gV s1 σ1 H1 _ I1 (turn n σ1 H1 w1)) fun b s2 hPP=>?_)
 obtain⟨H2,I2,q2⟩:=hPP;cases b with
 | true =>
  obtain⟨N,hN,q2⟩:=q2;rw[if_pos rfl];refine wpAny_passesOwn hp (thn (hb gV s2 σ1 H2 _ I2 q2) fun f s3 q3=>?_)
  cases f with
  | next =>
   obtain⟨σ3,H3,I3,n3⟩:=q3;obtain⟨m',hm,w3⟩:=hN σ3 H3 n3;exact⟨m',hm,σ3,H3,I3,w3⟩
  | cont =>
   obtain⟨σ3,H3,I3,n3⟩:=q3;obtain⟨m',hm,w3⟩:=hN σ3 H3 n3;exact⟨m',hm,σ3,H3,I3,w3⟩
  | brk=>exact q3
  | ret v=>exact q3
 | false =>
  rw[if_neg Bool.false_ne_true];exact wpAny_execs_nil ⟨σ1,H2,I2,q2⟩
end
structure It where
 go:Nat->Hp->Prop
 yld:Nat->Hp->V->Hp->Prop
 stop:Nat->Hp->Prop
def ud(X:Cx)(gV:List (Addr×Obj))(H:Hp)(b:Addr):Prop :=
 H b=none/\b≠X.env.locals/\b ∉ X.fs/\(b∈X.ex\/X.s₀.heap.objs.size<=b)/\(∀ x c,X.env.cells.lookup x=some c->c≠b)/\∀ p∈X.pn++gV,p.1≠b
variable{H':Hp}
theorem Inv.HA{σ:St}{s:Shared}{b:Addr}(I:Inv X gV σ H s)(hb:s.heap.objs.size<=b)(hn:H' b=none):ud X gV H' b:=by
 refine⟨hn,Nat.ne_of_gt (Nat.lt_of_lt_of_le I.lt hb),I.R0 hb,.inr (Nat.le_trans I.sz hb),fun x c e z=>?_,fun p hp z=>?_⟩
 ·obtain⟨v,q⟩:=I.cell x c e;exact absurd (Nat.lt_of_lt_of_le q.lt (by rw[z];exact hb)) (Nat.lt_irrefl _)
 ·exact absurd (Nat.lt_of_lt_of_le (Heap.lt_size (I.pin p hp).1) (by rw[z];exact hb)) (Nat.lt_irrefl _)
structure Turn(P:Program)(w:World)(K:W.Frag)(tg:Expr)(J:It)(fp:List Addr)(it:Addr)(tn:Nat->Heap->Prop):Prop where
 mem:it∈fp
 obj:∀ i h,tn i h->∀ b∈fp,∃ o,h.get? b=some o/\∀ v,o.data ≠ .cell v
 keep:∀ i h h',tn i h ->(∀ b∈fp,∀ o,h.get? b=some o->h'.get? b=some o)->tn i h'
 item:∀(X:Cx),X.prog=P->X.w=w->X.K=K->X.calm=true->∀(i:Nat)(gV:List (Addr×Obj))(s:Shared)(σ:St)(H:Hp)(E:Value->Shared->Prop),Inv X gV σ H s ->(∀ b∈fp,ud X gV H b)->tn i s.heap->J.go i H ->
  wpAny (model P w) X.A (pyNext (.ref it)) (fun r s1=>∃ u,r=some u /\
   wpAny (model P w) X.A (letOwnedTupleGo tg (.ref it) u) (fun _ s2=>∃ x H',Inv X gV σ H' s2/\RelV x u/\J.yld i H x H'/\tn (i+1) s2.heap/\∀ b∈fp,H' b=none) E s1) E s
 done:∀(X:Cx),X.prog=P->X.w=w->X.K=K->X.calm=true->∀(i:Nat)(gV:List (Addr×Obj))(s:Shared)(σ:St)(H:Hp)(E:Value->Shared->Prop),Inv X gV σ H s ->(∀ b∈fp,ud X gV H b)->tn i s.heap->J.stop i H ->
  wpAny (model P w) X.A (pyNext (.ref it)) (fun r s1=>r=none/\Inv X gV σ H s1) E s
 self:∀(A:Around)(i:Nat)(s:Shared)(Q:Value->Shared->Prop)(E:Value->Shared->Prop),tn i s.heap->Q (.ref it) s->wpAny (model P w) A (pyIter (.ref it)) Q E s
abbrev TI:=St->Hp ->(It->Hp->Prop)->Prop
def PIE(X:Cx)(gV:List (Addr×Obj))(σ:St)(tg:Expr)(R:It->Hp->Prop)(itv:Value)(s2:Shared):Prop :=
 ∃(it:Addr)(fp:List Addr)(tn:Nat->Heap->Prop)(J:It)(H':Hp),itv = .ref it/\Inv X gV σ H' s2/\Turn X.prog X.w X.K tg J fp it tn/\tn 0 s2.heap/\(∀ b∈fp,ud X gV H' b)/\R J H'
def PI(X:Cx)(tg iter:Expr)(wi:TI):Prop :=
 ∀(gV:List (Addr×Obj))(s:Shared)(σ:St)(H:Hp)(R:It->Hp->Prop),Inv X gV σ H s->wi σ H R ->
  wpAny (model X.prog X.w) X.A (eval iter X.env) (fun v s1=>wpAny (model X.prog X.w) X.A (pyIter v) (PIE X gV σ tg R) X.xe s1) X.xe s
theorem Hy{s:Shared}{o:Obj}{n:String}{vs:Array Value}{Q:Unit->Shared->Prop}(ho:s.heap.get? it=some o)(hc:o.cls = .type n)(hd:o.data = .fields vs)
  (hn:["enumerate","zip","dict_itemiterator","dict_reverseitemiterator","odict_iterator","itertools.zip_longest","itertools.pairwise"].contains n=false) (hQ:Q () s):wpAny M A (letOwnedTupleGo tg (.ref it) u) Q E s:=by
 unfold letOwnedTupleGo;cases tg <;> first
  | exact wpAny_pure hQ
  | (cases u <;> first
    | exact wpAny_pure hQ
    | (refine wpAny_bind (wpAny_load ho ?_)
       rw[hc,hd];show wpAny M A (if(["enumerate","zip","dict_itemiterator","dict_reverseitemiterator","odict_iterator","itertools.zip_longest","itertools.pairwise"].contains n&&vs[0]? == some (rawInt _))=true then _ else _) Q E s
       rw[if_neg (by intro h;rw[hn,Bool.false_and]at h;cases h)]
       exact wpAny_pure hQ))
def Itl(K:W.Frag)(a:Addr):It :=
 ⟨fun i H=>∃ xs x,SqL K H a xs/\xs[i]? = some x,fun i H x H'=>H'=H/\∀ xs,SqL K H a xs->xs[i]? = some x,fun i H=>∃ xs,SqL K H a xs/\xs.length<=i⟩
def Itt(K:W.Frag)(a:Addr):It :=
 ⟨fun i H=>∃ xs x,SqT K H a xs/\xs[i]? = some x,fun i H x H'=>H'=H/\∀ xs,SqT K H a xs->xs[i]? = some x,fun i H=>∃ xs,SqT K H a xs/\xs.length<=i⟩
def Itr(lo:Int)(n:Nat):It:=⟨fun i _=>i<n,fun i H x H'=>H'=H/\x = .int (lo+i),fun i _=>n<=i⟩
theorem C7{w:World}{K:W.Frag}(a it:Addr):Turn P w K tg (Itl K a) [it] it (fun i h=>h.IsListIter it a i) where
 mem:=by simp
 obj:=fun i h st b hb=>by
  have e:b=it:=by simpa using hb
  subst e;obtain⟨o,e,c,d⟩:=st;exact⟨o,e,fun v z=>by rw[d]at z;cases z⟩
 keep:=fun i h h' st k=>st.at fun o e=>k it (by simp) o e
 item:=by
  intro X hP hw hK hc i gV s σ H E I hf st hg;subst hP hw hK;obtain⟨xs,x,hq,hx⟩:=hg;obtain⟨its,rv,p,hz⟩:=I.list hq;obtain⟨u,hu,ru⟩:=rv.get hx;obtain⟨f0,f1,f2,f3,f4,f5⟩:=hf it (by simp)
  refine wpAny_pyNext_list_item st p.isList (x:=u) (by simpa using hu) fun h' st' sb=>?_
  have I1:Inv X gV σ H { s with heap:=h' }:=I.turned (t':=s.toks) (fun b o hb e=>(sb.2 b hb).trans e) f0 f1 f3 f4 f5
  obtain⟨o,e,c,d⟩:=id st';exact⟨u,rfl,Hy (s:={ s with heap:=h' }) e c d (by decide) ⟨x,H,I1,ru,⟨rfl,fun ys hy=>by rw[I.yk hy hq];exact hx⟩,st',fun b hb=>(hf b hb).1⟩⟩
 done:=by
  intro X hP hw hK hc i gV s σ H E I hf st hg;subst hP hw hK;obtain⟨xs,hq,hx⟩:=hg;obtain⟨its,rv,p,hz⟩:=I.list hq;obtain⟨f0,f1,f2,f3,f4,f5⟩:=hf it (by simp)
  have hl:=rv.length;exact wpAny_pyNext_list_end (I.ok.hd hc) st p.isList (by simp;omega) fun h' eb=>⟨rfl,I.turned (t':=s.toks) (fun b o hb e=>eb b o hb e) f0 f1 f3 f4 f5⟩
 self:=fun _ _ _ _ _ st h=>wpAny_pyIter_listiter st h
theorem y4{w:World}{K:W.Frag}(a it:Addr):Turn P w K tg (Itt K a) [it] it (fun i h=>h.IsTupleIter it a i) where
 mem:=by simp
 obj:=fun i h st b hb=>by
  have e:b=it:=by simpa using hb
  subst e;obtain⟨o,e,c,d⟩:=st;exact⟨o,e,fun v z=>by rw[d]at z;cases z⟩
 keep:=fun i h h' st k=>st.at fun o e=>k it (by simp) o e
 item:=by
  intro X hP hw hK hc i gV s σ H E I hf st hg;subst hP hw hK;obtain⟨xs,x,hq,hx⟩:=hg;obtain⟨its,rv,p,hz⟩:=I.tuple hq;obtain⟨u,hu,ru⟩:=rv.get hx;obtain⟨f0,f1,f2,f3,f4,f5⟩:=hf it (by simp)
  refine wpAny_pyNext_tuple_item st (show s.heap.IsTuple a its.toArray from p) (x:=u) (by simpa using hu) fun h' st' sb=>?_
  have I1:Inv X gV σ H { s with heap:=h' }:=I.turned (t':=s.toks) (fun b o hb e=>(sb.2 b hb).trans e) f0 f1 f3 f4 f5
  obtain⟨o,e,c,d⟩:=id st';exact⟨u,rfl,Hy (s:={ s with heap:=h' }) e c d (by decide) ⟨x,H,I1,ru,⟨rfl,fun ys hy=>by rw[I.uU hy hq];exact hx⟩,st',fun b hb=>(hf b hb).1⟩⟩
 done:=by
  intro X hP hw hK hc i gV s σ H E I hf st hg;subst hP hw hK;obtain⟨xs,hq,hx⟩:=hg;obtain⟨its,rv,p,hz⟩:=I.tuple hq;obtain⟨f0,f1,f2,f3,f4,f5⟩:=hf it (by simp)
  have hl:=rv.length;exact wpAny_pyNext_tuple_end (I.ok.hd hc) st (show s.heap.IsTuple a its.toArray from p) (by simp;omega) fun h' eb=>⟨rfl,I.turned (t':=s.toks) (fun b o hb e=>eb b o hb e) f0 f1 f3 f4 f5⟩
 self:=fun _ _ _ _ _ st h=>wpAny_pyIter_tupleiter st h
theorem y7{w:World}{K:W.Frag}(it:Addr)(lo:Int)(n:Nat):Turn P w K tg (Itr lo n) [it] it (fun i h=>IsRangeIter h it (lo+(i:Nat)*1) ((n:Int) - (i:Nat)) 1) where
 mem:=by simp
 obj:=fun i h st b hb=>by
  have e:b=it:=by simpa using hb
  subst e;exact⟨_,st,fun v z=>by
   have z':Data.fields _=Data.cell v:=z;cases z'⟩
 keep:=fun i h h' st k=>k it (by simp) _ st
 item:=by
  intro X hP hw hK hc i gV s σ H E I hf st hg;subst hP hw hK;obtain⟨f0,f1,f2,f3,f4,f5⟩:=hf it (by simp)
  have W:=Walks.range (prog:=X.prog) (w:=X.w) (I.ok.hd hc) it lo 1 n;refine W.item i s _ _ hg st fun v h' tk hv st' kk=>?_
  obtain⟨t,rfl⟩:=hv;have I1:Inv X gV σ H { s with heap:=h',toks:=tk }:=I.turned (fun b o hb e=>kk b o (by simpa using hb) e) f0 f1 f3 f4 f5
  refine⟨_,rfl,Hy (s:={ s with heap:=h',toks:=tk }) (n:="range_iterator") st' rfl rfl (by decide) ⟨.int (lo+i),H,I1,⟨t,?_⟩,⟨rfl,rfl⟩,st',fun b hb=>(hf b hb).1⟩⟩
  rw[Int.mul_one]
 done:=by
  intro X hP hw hK hc i gV s σ H E I hf st hg;subst hP hw hK;obtain⟨f0,f1,f2,f3,f4,f5⟩:=hf it (by simp)
  exact wpAny_pyNext_range_end (I.ok.hd hc) st (by have:n<=i:=hg;omega) fun h' eb=>⟨rfl,I.turned (t':=s.toks) (fun b o hb e=>eb b o hb e) f0 f1 f3 f4 f5⟩
 self:=fun _ _ _ _ _ st h=>wpAny_pyIter_rangeiter st h
variable{lo:Int}{p:Pos}{fp:List Addr}{iter:Expr}
section
def Cg(K:W.Frag)(tl:TE):TI:=fun σ H R=>tl σ H fun x H1=>∃ a,x = .ref a/\(∃ xs,SqL K H1 a xs)/\R (Itl K a) H1
def Hn(K:W.Frag)(tl:TE):TI:=fun σ H R=>tl σ H fun x H1=>∃ a,x = .ref a/\(∃ xs,SqT K H1 a xs)/\R (Itt K a) H1
theorem qT{l:Expr}{tl:TE}(hl:PE X l tl):PI X tg l (Cg X.K tl):=by
 intro gV s σ H R I h;refine thn (hl gV s σ H _ I h) fun v s1 hPP=>?_
 obtain⟨x,H1,I1,r1,q1⟩:=hPP;obtain⟨a,e,⟨xs,hq⟩,q⟩:=q1;subst e;cases r1;obtain⟨its,rv,p,hz⟩:=I1.list hq;refine wpAny_pyIter_list p.isList ?_;refine⟨s1.heap.objs.size,[s1.heap.objs.size],_,_,H1,rfl,I1.kept (t':=s1.toks) fun b o e=>Heap.get?_push_of_some _ e,C7 a _,⟨_,Heap.get?_push_size _ rfl,rfl,rfl⟩,fun b hb=>?_,q⟩
 have e:b=s1.heap.objs.size:=by simpa using hb
 subst e;exact I1.HA (Nat.le_refl _) (I1.hok.fresh (Nat.le_refl _))
theorem OG{l:Expr}{tl:TE}(hl:PE X l tl):PI X tg l (Hn X.K tl):=by
 intro gV s σ H R I h;refine thn (hl gV s σ H _ I h) fun v s1 hPP=>?_
 obtain⟨x,H1,I1,r1,q1⟩:=hPP;obtain⟨a,e,⟨xs,hq⟩,q⟩:=q1;subst e;cases r1;obtain⟨its,rv,p,hz⟩:=I1.tuple hq;refine wpAny_pyIter_tuple (show s1.heap.IsTuple a its.toArray from p) ?_;refine⟨s1.heap.objs.size,[s1.heap.objs.size],_,_,H1,rfl,I1.kept (t':=s1.toks) fun b o e=>Heap.get?_push_of_some _ e,y4 a _,⟨_,Heap.get?_push_size _ rfl,rfl,rfl⟩,fun b hb=>?_,q⟩
 have e:b=s1.heap.objs.size:=by simpa using hb
 subst e;exact I1.HA (Nat.le_refl _) (I1.hok.fresh (Nat.le_refl _))
theorem FA{σ:St}{s:Shared}{R:It->Hp->Prop}{hi:Int}{t u v:Tok}{tk:Nat}(I:Inv X gV σ H s)(h1:-(2 ^ 62)<=lo)(h2:lo<2 ^ 62)(h3:-(2 ^ 62)<=hi)(h4:hi<2 ^ 62)
  (q:R (Itr lo (hi - lo).toNat) H):wpAny (model X.prog X.w) X.A (pyIter (.ref s.heap.objs.size)) (PIE X gV σ tg R) E { s with heap:=s.heap.push { cls:=.type "range",data:=.fields #[.int lo t,.int hi u,.int 1 v] },toks:=tk }:=by
 refine wpAny_pyIter_range (IsRange.new ..) (small_one h1 h2 h3 h4) ?_;have I1:Inv X gV σ H { s with heap:=s.heap.push { cls:=.type "range",data:=.fields #[.int lo t,.int hi u,.int 1 v] },toks:=tk }:=I.kept fun b o e=>Heap.get?_push_of_some _ e
 refine⟨(s.heap.push { cls:=.type "range",data:=.fields #[.int lo t,.int hi u,.int 1 v] }).objs.size,[(s.heap.push { cls:=.type "range",data:=.fields #[.int lo t,.int hi u,.int 1 v] }).objs.size],_,_,H,rfl,
  I1.kept (t':=tk) fun b o e=>Heap.get?_push_of_some _ e,y7 _ lo (hi - lo).toNat,?_,fun b hb=>?_,q⟩
 ·have e1:lo+((0:Nat):Int)*1=lo:=by simp
  have e2:(((hi - lo).toNat:Nat):Int) - ((0:Nat):Int)=Builtin.Range.rangeSize lo hi 1:=by rw[rangeSize_one];split <;> omega
  show IsRangeIter _ _ (lo+((0:Nat):Int)*1) ((((hi - lo).toNat:Nat):Int) - ((0:Nat):Int)) 1;rw[e1,e2];exact Heap.get?_push_size _ rfl
 ·have e:b =(s.heap.push { cls:=.type "range",data:=.fields #[.int lo t,.int hi u,.int 1 v] }).objs.size:=by simpa using hb
  subst e;exact I1.HA (Nat.le_refl _) (I1.hok.fresh (Nat.le_refl _))
def Ho(ta:TA):TI:=fun σ H R=>ta σ H fun vs H1=>∃ j:Int,vs = [.int j] /\ -(2 ^ 62)<=j/\j<2 ^ 62/\R (Itr 0 j.toNat) H1
theorem u6{a:Expr}{ta:TA}{pos:Pos}(hg:Gl X "range")(hm:X.mg "range" = none)(ha:PA X [a] ta)(hs:starEach [a] X.env = [(false,eval a X.env)]:=by rfl):PI X tg (.Call (.Name "range" p) [a] [] pos) (Ho ta):=by
 intro gV s σ H R I h;refine Call_ (jC I hg hm boot_range (PyProof.Rows.callWith_type1 (thn (ha pos gV s σ H _ I h) fun us s1 ⟨vs,H1,I1,r1,q1⟩=>?_) hs rfl))
 obtain⟨j,e,q1,q2,q⟩:=q1;subst e;cases r1 with
 | cons r rr =>
  cases rr;obtain⟨t,rfl⟩:=r;exact call_range_1 (FA I1 (by omega) (by omega) q1 q2 (by simpa using q))
def NM(wi:TI)(g:TG)(tb:TS):TS:=fun D σ H=>wi σ H fun J H1=>∃ W:Nat->Nat->St->Hp->Prop,(∃ m,W 0 m σ H1)/\∀ i m σ H,W i m σ H ->
 (J.stop i H/\D.nx σ H)\/(J.go i H/\∃ N:St->Hp->Prop,(∀ σ' H',N σ' H'->∃ m',m'<m/\W (i+1) m' σ' H')/\∀ x H',J.yld i H x H'->g x σ H' fun σ2 H2=>tb { D with nx:=N,ct:=N,bk:=D.nx } σ2 H2)
def sh(fp:List Addr)(h:Heap):List (Addr×Obj):=fp.filterMap fun b=>(h.get? b).map fun o=>(b,o)
theorem fA{h:Heap}{b:Addr}{o:Obj}(hb:b∈fp)(e:h.get? b=some o):(b,o)∈sh fp h:=List.mem_filterMap.mpr ⟨b,hb,by rw[e];rfl⟩
theorem DA{h:Heap}{p:Addr×Obj}(hp:p∈sh fp h):p.1∈fp/\h.get? p.1=some p.2:=by
 obtain⟨b,hb,e⟩:=List.mem_filterMap.mp hp;cases q:h.get? b with
 | none=>rw[q]at e;cases e
 | some o =>
  rw[q]at e;have e':(b,o)=p:=Option.some.inj e;subst e';exact⟨hb,q⟩
theorem Inv.pinned{σ:St}{s:Shared}(I:Inv X gV σ H s)(hf:∀ b∈fp,ud X gV H b)(ho:∀ b∈fp,∃ o,s.heap.get? b=some o/\∀ v,o.data ≠ .cell v):Inv X (gV++sh fp s.heap) σ H s :=
 I.mW fun p hp=>(List.mem_append.mp hp).elim (fun z=>I.pin p (List.mem_append_right _ z)) fun z=>by
  obtain⟨hb,e⟩:=DA z;obtain⟨f0,f1,f2,_⟩:=hf p.1 hb;obtain⟨o,e',d⟩:=ho p.1 hb;rw[e]at e';cases e';exact⟨e,f0,f1,f2,d⟩
theorem Inv.mz{pl:List (Addr×Obj)}{σ:St}{s:Shared}(I:Inv X (gV++pl) σ H s):Inv X gV σ H s:=I.mW fun p hp=>I.pin p (List.mem_append_right _ (List.mem_append_left _ hp))
theorem zB{wi:TI}{g:TG}{tb:TS}{pos:Pos}(hp:PassesOwn (model X.prog X.w) X.A X.env X.xe)(hc:X.calm=true)(hi:PI X tg iter wi)(hg:PG X tg g)(hb:PSs X body tb)
  (hs:∀ x,foldedSetIterable iter X.env x=pure x:=by intro _;rfl):PS X (.For tg iter body [] pos) (NM wi g tb):=by
 intro gV s σ H D I h;refine wpAny_For (thn (hi gV s σ H _ I h) fun v s1 h1=>thn h1 fun itv s2 h2=>?_) hs
 obtain⟨it,fp,tn,J,H2,e,I2,T,st2,f2,W,⟨m0,w0⟩,turn⟩:=h2;subst e;have NT:∀{H':Hp},(∀ b∈fp,H' b=none)->∀ b∈fp,ud X gV H' b:=fun hn b hb=>⟨hn b hb,(f2 b hb).2⟩
 refine codeAny_forLoop_any (fun n s'=>∃ i σ' H',Inv X gV σ' H' s'/\tn i s'.heap/\(∀ b∈fp,H' b=none)/\W i n σ' H') ?_ m0 ⟨0,σ,H2,I2,st2,fun b hb=>(f2 b hb).1,w0⟩
 rintro n s3 ⟨i,σ3,H3,I3,st3,fr3,w3⟩
 rcases turn i n σ3 H3 w3 with⟨stop,qn⟩ |⟨go,N,hN,step⟩
 ·refine wpAny_passesOwn hp (thn (T.done X rfl rfl rfl hc i gV s3 σ3 H3 X.xe I3 (NT fr3) st3 stop) fun r s4 hPP=>?_)
  obtain⟨hr,I4⟩:=hPP;subst hr;exact wpAny_execs_nil ⟨σ3,H3,I4,qn⟩
 ·refine wpAny_passesOwn hp (thn (T.item X rfl rfl rfl hc i gV s3 σ3 H3 X.xe I3 (NT fr3) st3 go) fun r s4 hPP=>?_)
  obtain⟨u,hr,h4⟩:=hPP;subst hr;refine wpAny_passesOwn hp (thn h4 fun _ s5 hPP=>?_)
  obtain⟨x,H5,I5,r5,y5,st5,fr5⟩:=hPP;have I5':=I5.pinned (NT fr5) (T.obj _ _ st5);refine wpAny_passesOwn hp (thn (hg _ s5 σ3 H5 x u _ I5' r5 (step x H5 y5)) fun _ s6 hPP=>?_)
  obtain⟨σ6,H6,I6,q6⟩:=hPP;refine wpAny_passesOwn hp (thn (hb _ s6 σ6 H6 _ I6 q6) fun f s7 q7=>?_)
  have again:∀{σ7:St}{H7:Hp},Inv X (gV++sh fp s5.heap) σ7 H7 s7->N σ7 H7->∃ m,m<n/\∃ i σ' H',Inv X gV σ' H' s7/\tn i s7.heap/\(∀ b∈fp,H' b=none)/\W i m σ' H':=fun{σ7 H7} I7 n7=>by
   obtain⟨m',hm,w7⟩:=hN σ7 H7 n7;refine⟨m',hm,i+1,σ7,H7,I7.mz,T.keep _ _ _ st5 fun b hb o e=>(I7.pin (b,o) (List.mem_append_right _ (List.mem_append_right _ (fA hb e)))).1,fun b hb=>?_,w7⟩
   obtain⟨o,e,d⟩:=T.obj _ _ st5 b hb;exact(I7.pin (b,o) (List.mem_append_right _ (List.mem_append_right _ (fA hb e)))).2.1
  cases f with
  | next=>obtain⟨σ7,H7,I7,n7⟩:=q7;exact again I7 n7
  | cont=>obtain⟨σ7,H7,I7,n7⟩:=q7;exact again I7 n7
  | brk=>obtain⟨σ7,H7,I7,q7⟩:=q7;exact⟨σ7,H7,I7.mz,q7⟩
  | ret v=>obtain⟨x7,σ7,H7,I7,r7,q7⟩:=q7;exact⟨x7,σ7,H7,I7.mz,r7,q7⟩
end
variable{xs:List V}{D:Ends}
theorem HB{K:W.Frag}{g:TG}{tb:TS}{σ:St}(Pv:Nat->St->Hp->Prop)(h0:Pv 0 σ H)(hl:∀ i σ H,i<=xs.length->Pv i σ H->SqL K H a xs)
  (hs:∀ i x σ H,xs[i]? = some x->Pv i σ H->g x σ H fun σ2 H2=>tb { D with nx:=Pv (i+1),ct:=Pv (i+1),bk:=D.nx } σ2 H2) (hd:∀ σ H,Pv xs.length σ H->D.nx σ H) :
  ∃ W:Nat->Nat->St->Hp->Prop,(∃ m,W 0 m σ H)/\∀ i m σ H,W i m σ H ->
   ((Itl K a).stop i H/\D.nx σ H)\/((Itl K a).go i H/\∃ N:St->Hp->Prop,(∀ σ' H',N σ' H'->∃ m',m'<m/\W (i+1) m' σ' H')/\∀ x H',(Itl K a).yld i H x H'->g x σ H' fun σ2 H2=>tb { D with nx:=N,ct:=N,bk:=D.nx } σ2 H2):=by
 refine⟨fun i m σ H=>m=xs.length - i/\i<=xs.length/\Pv i σ H,⟨xs.length,by simp,Nat.zero_le _,h0⟩,?_⟩
 rintro i m σ H ⟨rfl,hi,p⟩
 have q:=hl i σ H hi p;by_cases hlt:i<xs.length
 ·refine .inr ⟨⟨xs,xs[i],q,by simp[hlt]⟩,Pv (i+1),fun σ' H' p'=>⟨xs.length - (i+1),by omega,rfl,hlt,p'⟩,fun x H' y=>?_⟩
  obtain⟨e,y⟩:=y;subst e;exact hs i x σ _ (y xs q) p
 ·have e:i=xs.length:=by omega
  subst e;exact .inl ⟨⟨xs,q,Nat.le_refl _⟩,hd σ H p⟩
abbrev R2:=V->V->Hp->VK->Prop
def OpR(X:Cx)(f:Value->Value->Sem Value)(r:R2):Prop :=
 ∀(gV:List (Addr×Obj))(s:Shared)(σ:St)(H:Hp)(x y:V)(v u:Value)(Q:VK),Inv X gV σ H s->RelV x v->RelV y u->r x y H Q ->
  wpAny (model X.prog X.w) X.A (f v u) (EP X gV σ Q) X.xe s
def UnR(X:Cx)(f:Value->Sem Value)(r:V->Hp->VK->Prop):Prop :=
 ∀(gV:List (Addr×Obj))(s:Shared)(σ:St)(H:Hp)(x:V)(v:Value)(Q:VK),Inv X gV σ H s->RelV x v->r x H Q ->
  wpAny (model X.prog X.w) X.A (f v) (EP X gV σ Q) X.xe s
def cj(X:Cx)(f:Value)(r:List V->Hp->VK->Prop):Prop :=
 ∀(gV:List (Addr×Obj))(s:Shared)(σ:St)(H:Hp)(xs:List V)(us:List Value)(Q:VK),Inv X gV σ H s->Vals xs us->r xs H Q ->
  wpAny (model X.prog X.w) X.A (call f us) (EP X gV σ Q) X.xe s
def VS(X:Cx)(r:V->Hp ->(Bool->Hp->Prop)->Prop):Prop :=
 ∀(gV:List (Addr×Obj))(s:Shared)(σ:St)(H:Hp)(x:V)(v:Value)(Q:Bool->Hp->Prop),Inv X gV σ H s->RelV x v->r x H Q ->
  wpAny (model X.prog X.w) X.A (truthy v) (TP X gV σ Q) X.xe s
def tOp(r:R2)(ta tb:TE):TE:=fun σ H Q=>ta σ H fun x H1=>tb σ H1 fun y H2=>r x y H2 Q
def tUn(r:V->Hp->VK->Prop)(ta:TE):TE:=fun σ H Q=>ta σ H fun x H1=>r x H1 Q
def rI(C:Int->Int->Prop)(g:Int->Int->V):R2:=fun x y H Q=>∃ i j,x = .int i/\y = .int j/\C i j/\Q (g i j) H
def rI0(g:Int->Int->V):R2:=fun x y H Q=>∃ i j,x = .int i/\y = .int j/\Q (g i j) H
def rU(g:Int->V):V->Hp->VK->Prop:=fun x H Q=>∃ i,x = .int i/\Q (g i) H
section
variable{a b c:Expr}{ta tb tc:TE}{pos:Pos}
theorem Qb(ha:PE X a ta)(hb:PE X b tb){s:Shared}{σ:St}{R:V->V->Hp->Prop}(I:Inv X gV σ H s)
  (h:ta σ H fun x H1=>tb σ H1 fun y H2=>R x y H2) {Q:Value->Shared->Prop} {f:Value->Value->Sem Value}
  (hf:∀ v u s2 x y H2,Inv X gV σ H2 s2->RelV x v->RelV y u->R x y H2->wpAny (model X.prog X.w) X.A (f v u) Q X.xe s2) :
  wpAny (model X.prog X.w) X.A (eval a X.env) (fun v s₁=>wpAny (model X.prog X.w) X.A (eval b X.env) (fun u s₂=>wpAny (model X.prog X.w) X.A (f v u) Q X.xe s₂) X.xe s₁) X.xe s:=by
 refine thn (ha gV s σ H _ I h) fun v s1 hPP=>?_
 obtain⟨x,H1,I1,r1,q1⟩:=hPP;refine thn (hb gV s1 σ H1 _ I1 q1) fun u s2 hPP=>?_
 obtain⟨y,H2,I2,r2,q2⟩:=hPP;exact hf v u s2 x y H2 I2 r1 r2 q2
theorem cw{op:Operator}{r:R2}(ho:OpR X (binaryOp op) r)(ha:PE X a ta)(hb:PE X b tb):PE X (.BinOp a op b pos) (tOp r ta tb):=by
 intro gV s σ H Q I h;exact wpAny_BinOp (Qb ha hb I h fun v u s2 x y H2 I2 rx ry q=>ho gV s2 σ H2 x y v u Q I2 rx ry q)
theorem RO{op:UnaryOp}{r:V->Hp->VK->Prop}(ho:UnR X (unaryOp op) r)(ha:PE X a ta):PE X (.UnaryOp op a pos) (tUn r ta):=by
 intro gV s σ H Q I h;exact UnaryOp_ (thn (ha gV s σ H _ I h) fun v s1 ⟨x,H1,I1,r1,q1⟩=>ho gV s1 σ H1 x v Q I1 r1 q1)
theorem opI{f:Value->Value->Sem Value}{C:Int->Int->Prop}{g:Int->Int->Int}
  (rule:∀(i j:Int)(t u:Tok)(s:Shared)(Q:Value->Shared->Prop)(E:Value->Shared->Prop),C i j->Q (.int (g i j) s.toks) { s with toks:=s.toks+1 }->wpAny (model X.prog X.w) X.A (f (.int i t) (.int j u)) Q E s) :
  OpR X f (rI C fun i j=>.int (g i j)):=by
 intro gV s σ H x y v u Q I rx ry h;obtain⟨i,j,rfl,rfl,hc,q⟩:=h;obtain⟨t,rfl⟩:=rx;obtain⟨t',rfl⟩:=ry;exact rule i j t t' s _ _ hc ⟨.int (g i j),H,I.tok _,⟨_,rfl⟩,q⟩
theorem RS{f:Value->Value->Sem Value}{g:Int->Int->Int}
  (rule:∀(i j:Int)(t u:Tok)(s:Shared)(Q:Value->Shared->Prop)(E:Value->Shared->Prop),Q (.int (g i j) s.toks) { s with toks:=s.toks+1 }->wpAny (model X.prog X.w) X.A (f (.int i t) (.int j u)) Q E s) :
  OpR X f (rI0 fun i j=>.int (g i j)):=by
 intro gV s σ H x y v u Q I rx ry h;obtain⟨i,j,rfl,rfl,q⟩:=h;obtain⟨t,rfl⟩:=rx;obtain⟨t',rfl⟩:=ry;exact rule i j t t' s _ _ ⟨.int (g i j),H,I.tok _,⟨_,rfl⟩,q⟩
theorem OX{f:Value->Value->Sem Value}{g:Int->Int->Bool}
  (rule:∀(i j:Int)(t u:Tok)(s:Shared)(Q:Value->Shared->Prop)(E:Value->Shared->Prop),Q (.bool (g i j)) s->wpAny (model X.prog X.w) X.A (f (.int i t) (.int j u)) Q E s) :
  OpR X f (rI0 fun i j=>.bl (g i j)):=by
 intro gV s σ H x y v u Q I rx ry h;obtain⟨i,j,rfl,rfl,q⟩:=h;obtain⟨t,rfl⟩:=rx;obtain⟨t',rfl⟩:=ry;exact rule i j t t' s _ _ ⟨.bl (g i j),H,I,rfl,q⟩
def VZ(i j:Int):Prop:=0<=j/\j<=1000000/\i.natAbs<2 ^ 64
def IK(i j:Int):Prop:=(-(2 ^ 64)<i/\i<2 ^ 64)\/(-(2 ^ 64)<j/\j<2 ^ 64)
theorem IK.ok{i j:Int}(h:IK i j):IntMulOk i j:=by
 rcases h with⟨h1,h2⟩ |⟨h1,h2⟩
 ·exact .of_left (intBits_le_64 h1 h2)
 ·exact .of_right (intBits_le_64 h1 h2)
theorem oM:OpR X (binaryOp .Add) (rI0 fun i j=>.int (i+j)):=RS fun _ _ _ _ _ _ _ q=>add_int q
theorem zM:OpR X (binaryOp .Sub) (rI0 fun i j=>.int (i - j)):=RS fun _ _ _ _ _ _ _ q=>sub_int q
theorem lO:OpR X (binaryOp .Mult) (rI IK fun i j=>.int (i*j)):=opI fun _ _ _ _ _ _ _ hc q=>mul_int q hc.ok
theorem iB:OpR X (binaryOp .Mod) (rI (fun _ j=>0<j) fun i j=>.int (i % j)):=opI fun i j _ _ _ _ _ hc q=>by
 have h1:(0:Int)<j:=hc;exact mod_int' (by omega) (by rw[Int.fmod_eq_emod_of_nonneg i (by omega)];exact q)
theorem OP:OpR X (binaryOp .Pow) (rI VZ fun i j=>.int (i ^ j.toNat)):=opI fun _ _ _ _ _ _ _ hc q=>pow_int_small hc.1 hc.2.1 hc.2.2 q
theorem unI{f:Value->Sem Value}{g:Int->Int}
  (rule:∀(i:Int)(t:Tok)(s:Shared)(Q:Value->Shared->Prop)(E:Value->Shared->Prop),Q (.int (g i) s.toks) { s with toks:=s.toks+1 }->wpAny (model X.prog X.w) X.A (f (.int i t)) Q E s) :
  UnR X f (rU fun i=>.int (g i)):=by
 intro gV s σ H x v Q I rx h;obtain⟨i,rfl,q⟩:=h;obtain⟨t,rfl⟩:=rx;exact rule i t s _ _ ⟨.int (g i),H,I.tok _,⟨_,rfl⟩,q⟩
theorem NA:UnR X (unaryOp .USub) (rU fun i=>.int (-i)):=unI fun _ _ _ _ _ q=>neg_int q
end
def Kg:V->V->Bool
 | .non,.non=>true | .non,.int _=>true | .int _,.non=>true | .non,.bl _=>true | .bl _,.non=>true | .non,.str _=>true | .str _,.non=>true
 | .int _,.int _=>true | .bl _,.bl _=>true | .str _,.str _=>true | .byt _,.byt _=>true
 | .int _,.str _=>true | .str _,.int _=>true | .bl _,.str _=>true | .str _,.bl _=>true
 | _,_=>false
def rEq:R2:=fun x y H Q=>Kg x y=true/\Q (.bl (decide (x=y))) H
def rNe:R2:=fun x y H Q=>Kg x y=true/\Q (.bl (!decide (x=y))) H
theorem Ct{i j:Int}:decide (V.int i=V.int j) =(i==j):=by
 rw[Bool.eq_iff_iff];simp
theorem HL{i j:Bool}:decide (V.bl i=V.bl j) =(i==j):=by
 rw[Bool.eq_iff_iff];simp
theorem Cs{i j:Str}:decide (V.str i=V.str j) =(i==j):=by
 rw[Bool.eq_iff_iff];simp
theorem Cu{i j:Array UInt8}:decide (V.byt i=V.byt j) =(i.toList==j.toList):=by
 rw[Bool.eq_iff_iff];cases i;cases j;simp
variable{op:CmpOp}{its:List Value}{us:List Value}{y:V}
section
variable{a b c:Expr}{ta tb tc:TE}{pos:Pos}
theorem aY{σ:St}{s:Shared}{Q:VK}{k k':Bool}(I:Inv X gV σ H s)(q:Q (.bl k) H)(e:k=k'):EP X gV σ Q (.bool k') s:=by
 subst e;exact⟨.bl k,H,I,rfl,q⟩
theorem MR:OpR X (compareOp .Eq) rEq:=by
 intro gV s σ H x y v u Q I rx ry h;obtain⟨hs,q⟩:=h;cases x with
 | non =>
  cases rx;cases y with
  | non=>cases ry;exact PySem.EqNone.eq_none_none (aY I q (by simp))
  | bl j=>cases ry;exact PySem.EqNone.eq_none_bool (aY I q (by simp))
  | int j=>obtain⟨t',rfl⟩:=ry;exact PySem.EqNone.eq_none_int (aY I q (by simp))
  | str j=>obtain⟨t',rfl⟩:=ry;exact PySem.EqNone.eq_none_str (aY I q (by simp))
  | _=>exact absurd (show false=true from hs) Bool.false_ne_true
 | bl i =>
  cases rx;cases y with
  | non=>cases ry;exact PySem.EqNone.eq_bool_none (aY I q (by simp))
  | bl j=>cases ry;exact eq_bool (aY I q HL)
  | str j=>obtain⟨t',rfl⟩:=ry;exact PySem.EqMixed.eq_bool_str (aY I q (by simp))
  | _=>exact absurd (show false=true from hs) Bool.false_ne_true
 | int i =>
  obtain⟨t,rfl⟩:=rx;cases y with
  | non=>cases ry;exact PySem.EqNone.eq_int_none (aY I q (by simp))
  | int j=>obtain⟨t',rfl⟩:=ry;exact eq_int (aY I q Ct)
  | str j=>obtain⟨t',rfl⟩:=ry;exact PySem.EqMixed.eq_int_str (aY I q (by simp))
  | _=>exact absurd (show false=true from hs) Bool.false_ne_true
 | str i =>
  obtain⟨t,rfl⟩:=rx;cases y with
  | non=>cases ry;exact PySem.EqNone.eq_str_none (aY I q (by simp))
  | bl j=>cases ry;exact PySem.EqMixed.eq_str_bool (aY I q (by simp))
  | int j=>obtain⟨t',rfl⟩:=ry;exact PySem.EqMixed.eq_str_int (aY I q (by simp))
  | str j=>obtain⟨t',rfl⟩:=ry;exact eq_str (aY I q Cs)
  | _=>exact absurd (show false=true from hs) Bool.false_ne_true
 | byt i =>
  obtain⟨t,rfl⟩:=rx;cases y with
  | byt j=>obtain⟨t',rfl⟩:=ry;exact W.eq_bytes (aY I q Cu)
  | _=>exact absurd (show false=true from hs) Bool.false_ne_true
 | _=>cases y <;> exact absurd (show false=true from hs) Bool.false_ne_true
theorem u7:OpR X (compareOp .NotEq) rNe:=by
 intro gV s σ H x y v u Q I rx ry h;obtain⟨hs,q⟩:=h;cases x with
 | non =>
  cases rx;cases y with
  | non=>cases ry;exact PySem.EqNone.ne_none_none (aY I q (by simp))
  | bl j=>cases ry;exact PySem.EqNone.ne_none_bool (aY I q (by simp))
  | int j=>obtain⟨t',rfl⟩:=ry;exact PySem.EqNone.ne_none_int (aY I q (by simp))
  | str j=>obtain⟨t',rfl⟩:=ry;exact PySem.EqNone.ne_none_str (aY I q (by simp))
  | _=>exact absurd (show false=true from hs) Bool.false_ne_true
 | bl i =>
  cases rx;cases y with
  | non=>cases ry;exact PySem.EqNone.ne_bool_none (aY I q (by simp))
  | bl j=>cases ry;exact ne_bool (aY I q (congrArg not HL))
  | str j=>obtain⟨t',rfl⟩:=ry;exact PySem.EqMixed.ne_bool_str (aY I q (by simp))
  | _=>exact absurd (show false=true from hs) Bool.false_ne_true
 | int i =>
  obtain⟨t,rfl⟩:=rx;cases y with
  | non=>cases ry;exact PySem.EqNone.ne_int_none (aY I q (by simp))
  | int j=>obtain⟨t',rfl⟩:=ry;exact ne_int (aY I q (congrArg not Ct))
  | str j=>obtain⟨t',rfl⟩:=ry;exact PySem.EqMixed.ne_int_str (aY I q (by simp))
  | _=>exact absurd (show false=true from hs) Bool.false_ne_true
 | str i =>
  obtain⟨t,rfl⟩:=rx;cases y with
  | non=>cases ry;exact PySem.EqNone.ne_str_none (aY I q (by simp))
  | bl j=>cases ry;exact PySem.EqMixed.ne_str_bool (aY I q (by simp))
  | int j=>obtain⟨t',rfl⟩:=ry;exact PySem.EqMixed.ne_str_int (aY I q (by simp))
  | str j=>obtain⟨t',rfl⟩:=ry;exact ne_str (aY I q (congrArg not Cs))
  | _=>exact absurd (show false=true from hs) Bool.false_ne_true
 | byt i =>
  obtain⟨t,rfl⟩:=rx;cases y with
  | byt j=>obtain⟨t',rfl⟩:=ry;exact W.ne_bytes (aY I q (congrArg not Cu))
  | _=>exact absurd (show false=true from hs) Bool.false_ne_true
 | _=>cases y <;> exact absurd (show false=true from hs) Bool.false_ne_true
theorem RQ:OpR X (compareOp .Lt) (rI0 fun i j=>.bl (decide (i<j))):=OX fun _ _ _ _ _ _ _ q=>lt_int q
theorem GG:OpR X (compareOp .Gt) (rI0 fun i j=>.bl (decide (j<i))):=OX fun _ _ _ _ _ _ _ q=>gt_int q
theorem RR:OpR X (compareOp .GtE) (rI0 fun i j=>.bl (decide (j<=i))):=OX fun _ _ _ _ _ _ _ q=>ge_int q
theorem Dw:OpR X (compareOp .In) (fun x y H Q=>∃ i j,x = .str i/\y = .str j/\Q (.bl (!(Builtin.Str.occurrences j i 0 j.length 1).isEmpty)) H):=by
 intro gV s σ H x y v u Q I rx ry h;obtain⟨i,j,rfl,rfl,q⟩:=h;obtain⟨t,rfl⟩:=rx;obtain⟨t',rfl⟩:=ry;exact in_str (aY I q rfl)
theorem OS:OpR X (compareOp .Is) (fun x y H Q=>y = .non/\Q (.bl (decide (x = .non))) H):=by
 intro gV s σ H x y v u Q I rx ry h;obtain⟨rfl,q⟩:=h;cases ry;refine is_none_gen (aY I q ?_);cases x <;> first
  | (cases rx;rfl)
  | (obtain⟨t,rfl⟩:=rx;rfl)
theorem mY:OpR X (compareOp .IsNot) (fun x y H Q=>y = .non/\Q (.bl (!decide (x = .non))) H):=by
 intro gV s σ H x y v u Q I rx ry h;obtain⟨rfl,q⟩:=h;cases ry;refine isnot_none_gen (aY I q ?_);cases x <;> first
  | (cases rx;rfl)
  | (obtain⟨t,rfl⟩:=rx;rfl)
theorem wq:OpR X (compareOp .NotIn) (fun x y H Q=>∃ i j,x = .str i/\y = .str j/\Q (.bl (!(!(Builtin.Str.occurrences j i 0 j.length 1).isEmpty))) H):=by
 intro gV s σ H x y v u Q I rx ry h;obtain⟨i,j,rfl,rfl,q⟩:=h;obtain⟨t,rfl⟩:=rx;obtain⟨t',rfl⟩:=ry;exact notIn_str (aY I q rfl)
theorem OpR.or{f:Value->Value->Sem Value}{r r':R2}(h:OpR X f r)(h':OpR X f r'):OpR X f (fun x y H Q=>r x y H Q\/r' x y H Q):=by
 intro gV s σ H x y v u Q I rx ry q;rcases q with q|q
 ·exact h gV s σ H x y v u Q I rx ry q
 ·exact h' gV s σ H x y v u Q I rx ry q
theorem bu(b:Expr)(h:op ≠ .In:=by decide)(h2:op ≠ .NotIn:=by decide):behindInMarks op b=false:=by
 have e1:(op==CmpOp.In)=false:=by cases op <;> first|rfl|exact absurd rfl h
 have e2:(op==CmpOp.NotIn)=false:=by cases op <;> first|rfl|exact absurd rfl h2
 cases b <;> simp[behindInMarks,e1,e2]
theorem K8{r:R2}(ho:OpR X (compareOp op) r)(ha:PE X a ta)(hb:PE X b tb)(hm:behindInMarks op b=false):PE X (.Compare a [op] [b] pos) (tOp r ta tb):=by
 intro gV s σ H Q I h;exact wpAny_Compare1 (Qb ha hb I h fun v u s2 x y H2 I2 rx ry q=>ho gV s2 σ H2 x y v u Q I2 rx ry q) hm
def Bg(t:TE):TT:=fun σ H Q=>t σ H fun x H'=>∃ k,x = .bl k/\Q k H'
theorem mV{r:R2}(ho:OpR X (compareOp op) r)(ha:PE X a ta)(hb:PE X b tb)(hm:behindInMarks op b=false):PT X (.Compare a [op] [b] pos) (Bg (tOp r ta tb)):=by
 intro gV s σ H Q I h;refine wpAny_isTrue_Compare1 (thn (ha gV s σ H _ I h) fun v s1 ⟨x,H1,I1,r1,q1⟩=>thn (hb gV s1 σ H1 _ I1 q1) fun u s2 ⟨y,H2,I2,r2,q2⟩ =>
  thn (ho gV s2 σ H2 x y v u _ I2 r1 r2 q2) fun c s3 ⟨z,H3,I3,r3,k,e,q3⟩=>?_) hm
 subst e;cases r3;exact wpAny_truthy_bool ⟨H3,I3,q3⟩
def Ms(K:W.Frag)(x:V)(H:Hp)(k:Bool):Prop :=
 match x with
 | .non=>k=false
 | .bl b=>k=b
 | .int i=>k =(i != 0)
 | .str y=>y.length<=sizeLine/\k =((y.length:Int) != 0)
 | .byt y=>y.size<=sizeLine/\k =((y.size:Int) != 0)
 | .ref p=>(∃ xs,SqL K H p xs/\k = !xs.isEmpty)\/(∃ xs,SqT K H p xs/\k = !xs.isEmpty)\/∃ kvs,H p=some (.dK kvs)/\k = !kvs.isEmpty
 | _=>False
theorem Au{κ:Type}{kvs:List (κ×V)}{vs:List (κ×Value)}(r:KV kvs vs):(!vs.isEmpty) = !kvs.isEmpty:=by
 cases r <;> rfl
theorem sW(r:Vals xs its):(!its.toArray.isEmpty) = !xs.isEmpty:=by
 cases r <;> simp
theorem jA:(sizeLine:Nat)<2 ^ 63:=by rw[sizeLine_eq];decide
theorem NF:VS X (fun x H Q=>∃ k,Ms X.K x H k/\Q k H):=by
 intro gV s σ H x v Q I rx h;obtain⟨k,e,q⟩:=h;have hl:=jA;have hs:sizeLine=16777216:=sizeLine_eq;cases x with
 | non =>
  cases rx;have e':k=false:=e;subst e';exact truthy_none ⟨H,I,q⟩
 | bl b =>
  cases rx;have e':k=b:=e;subst e';exact wpAny_truthy_bool ⟨H,I,q⟩
 | int i =>
  obtain⟨t,rfl⟩:=rx;have e':k =(i != 0):=e;subst e';exact PySem.P.truthy_int ⟨H,I,q⟩
 | str y =>
  obtain⟨t,rfl⟩:=rx;obtain⟨hy,e'⟩:y.length<=sizeLine/\k =((y.length:Int) != 0):=e;subst e';exact PySem.P.truthy_str (by omega) ⟨H,I.tok _,q⟩
 | byt y =>
  obtain⟨t,rfl⟩:=rx;obtain⟨hy,e'⟩:y.size<=sizeLine/\k =((y.size:Int) != 0):=e;subst e';exact W.truthy_bytes (by omega) ⟨H,I.tok _,q⟩
 | ref p =>
  cases rx;have e':(∃ xs,SqL X.K H p xs/\k = !xs.isEmpty)\/(∃ xs,SqT X.K H p xs/\k = !xs.isEmpty)\/∃ kvs,H p=some (.dK kvs)/\k = !kvs.isEmpty:=e
  rcases e' with⟨xs,hx,e'⟩ |⟨xs,hx,e'⟩ |⟨kvs,hx,e'⟩
  ·subst e';obtain⟨its,r,pl,hz⟩:=I.list hx;have hlen:=r.length;exact wpAny_truthy_list pl.isList (by simp only[List.size_toArray];omega) ⟨H,I.tok _,by rw[sW r];exact q⟩
  ·subst e';obtain⟨its,r,pl,hz⟩:=I.tuple hx;have hlen:=r.length;exact truthy_tuple pl (by simp only[List.size_toArray];omega) ⟨H,I.tok _,by rw[sW r];exact q⟩
  ·subst e';obtain⟨hz,hS,vs,r,m⟩:kvs.length<=sizeLine/\(p==sysModules)=false/\∃ vs,KV kvs vs/\s.heap.DictOf (bp X.prog X.w) p vs:=I.hok p _ hx
   have hlen:kvs.length=vs.length:=Paired.length r;exact wpAny_truthy_dict hS m (by omega) ⟨H,I.tok _,by rw[Au r];exact q⟩
 | _=>exact(show False from e).elim
theorem Ge(ha:PE X a ta)(he:∀ whole,isTrue a X.env whole =(do let v <- whole;standAt a.pos;holding [v] (truthy v))) :
  PT X a (fun σ H Q=>ta σ H fun x H'=>∃ k,Ms X.K x H' k/\Q k H'):=by
 intro gV s σ H Q I h;exact isTrue_plain (thn (ha gV s σ H _ I h) fun v s1 ⟨x,H1,I1,r1,q1⟩=>NF gV s1 σ H1 x v Q I1 r1 q1) (he _)
theorem zP:OpR X (binaryOp .Add) (fun x y H Q=>∃ i j,x = .str i/\y = .str j/\i.length+j.length<=sizeLine/\Q (.str (i++j)) H):=by
 intro gV s σ H x y v u Q I rx ry h;obtain⟨i,j,rfl,rfl,hz,q⟩:=h;obtain⟨t,rfl⟩:=rx;obtain⟨t',rfl⟩:=ry;exact add_str (fun t' tk=>⟨.str (i++j),H,I.tok _,⟨_,rfl⟩,q⟩) hz
theorem vals1{x:V}(r:Vals [x] us):∃ u,us = [u]/\RelV x u:=by
 cases r with
 | cons r1 r2=>cases r2;exact⟨_,rfl,r1⟩
theorem vals2{x:V}(r:Vals [x,y] us):∃ u w',us = [u,w']/\RelV x u/\RelV y w':=by
 cases r with
 | cons r1 r2 =>
  cases r2 with
  | cons r3 r4=>cases r4;exact⟨_,_,rfl,r1,r3⟩
theorem pe(hc:X.calm=true):cj X (.builtin "max") (fun xs H Q=>∃ i j,xs = [.int i,.int j]/\Q (.int (if j > i then j else i)) H):=by
 intro gV s σ H xs us Q I r h;obtain⟨i,j,rfl,q⟩:=h;obtain⟨u,w',rfl,⟨t,rfl⟩,⟨t',rfl⟩⟩:=vals2 r;refine max_two_ints (I.ok.hd hc) fun h' tk k=>⟨_,H,I.kept k,?_,q⟩
 by_cases hj:j > i
 ·rw[if_pos hj,if_pos hj];exact⟨_,rfl⟩
 ·rw[if_neg hj,if_neg hj];exact⟨_,rfl⟩
end
structure Er(h:Heap)(x dx C:Addr)(mA:Str->Option Value):Prop where
 obj:h.get? x=some (W.instObj C dx)
 ns:h.Ns1 dx mA
 ne:dx≠x
variable{mA:Str->Option Value}
theorem DK{h:Heap}{dx:Addr}(n:h.Ns1 dx mA):∃ od,h.get? dx=some od/\∀ name,W.lookIn name od=some (mA name):=by
 obtain⟨o,es,ep,ho,hd,hk,_,hm⟩:=n;refine⟨o,ho,fun name=>?_⟩
 have e:=hm name;unfold nsFind findBy at e;rw[<- Array.find?_toList]at e;unfold W.lookIn;rw[hd];dsimp only
 split
 ·rename_i y q;rw[q]at e;exact congrArg some e
 ·rename_i q;rw[q]at e;have a:es.toList.any (·.refKey)=false:=by
   rw[List.any_eq_false];intro y hy;obtain⟨z,t,PQ⟩:=hk y (Array.mem_toList_iff.mp hy);simp[DictEntry.refKey,PQ]
  have a':¬ es.toList.any (·.refKey)=true:=by rw[a];exact Bool.false_ne_true
  rw[if_neg a'];exact congrArg some e
variable{C:Addr}
theorem Er.look{h:Heap}{x dx:Addr}(I:Er h x dx C mA):∃ od,W.InstAt h x (W.instObj C dx) C (some od)/\∀ name,W.lookIn name od=some (mA name) :=
 let⟨od,ho,hl⟩:=DK I.ns
 ⟨od,⟨I.obj,rfl,rfl,ho⟩,hl⟩
variable{ns:List Str}{R:Result->Shared->Prop}{kw:List (Str×Value)}
section
variable{prog:Program}{w:World}{s:Shared}{K:W.Frag}{x dx f:Addr}{name:Str}{v:Value}
theorem get_map{expr:Bool}(X:K.In s.heap)(I:Er s.heap x dx C mA)(hg:W.plainGet K C name=true)(hh:W.hasDictIn K C=true)
  (ha:W.findIn K (.ref C) name=some none) (hv:mA name=some v) (hv':W.handedIn v=true) (h:Q v { s with toks:=s.toks+1 }) :
  wpAny (model prog w) A (getAttr (.ref x) name expr) Q E s:=by
 obtain⟨od,J,hl⟩:=I.look;exact W.get_value X J (W.plainGet_of hg).1 (W.findObj_own hh ha rfl (by rw[hl,hv])) hv' h
theorem Ke{Q:Unit->Shared->Prop}(X:K.In s.heap)(I:Er s.heap x dx C mA)
  (hs:W.findIn K (.ref C) "__setattr__" = some (some (.builtin "object.__setattr__"))) (hp:W.plainOver K C=true) (ht:W.takerIn K C name=some none) (hh:W.hasDictIn K C=true)
  (hw:PySem.Within mA ns) (hsz:ns.length<=sizeLine)
  (h:∀ h',Er h' x dx C (fun y=>if y=name then some v else mA y)->Heap.SameBut dx s.heap h'->Q () { s with heap:=h',toks:=s.toks+2 }) :
  wpAny (model prog w) A (setAttr (.ref x) name v) Q E s:=by
 obtain⟨od,J,hl⟩:=I.look;refine W.set_plain X J hs (W.osa_open (s:={ s with toks:=s.toks+1 }) (r:=none) X J hp ht fun b=>?_)
 obtain⟨cd,hc,hd'⟩:=W.any_some hh;have hx:s.heap.get? x=some ⟨.ref C,some dx,.plain,#[]⟩:=I.obj;refine wpAny_bind (wpAny_pure (wpAny_bind (wpAny_bind (wpAny_loadPart hx (wpAny_bind (W.Looks.here (s:={ s with toks:=s.toks+1 }) (W.looks_clsIn X hc) ?_))))))
 rw[hd'];refine wpAny_pure (a:=some dx) (wpAny_bind (wpAny_pure (wpAny_bind ?_)));refine wpAny_nsSet1 (s:={ s with toks:=s.toks+1 }) I.ns fun h' hn2 hs2=>?_
 obtain⟨oD,esD,epD,hoD,hdD,hcD⟩:=hn2.count (PySem.Within.cons name v hw);refine wpAny_bind (wpAny_lookBehind hoD (by rw[hdD];exact pastItsLine_dict (Nat.le_trans hcD (by rw[List.length_cons];omega))) ?_)
 exact wpAny_pure (h _ ⟨(hs2.2 _ (Ne.symm I.ne)).trans I.obj,hn2,I.ne⟩ hs2)
theorem G7{vs:List Value}(X:K.In s.heap)(hm:W.makesIn K C=true)
  (hi:W.findIn K (.ref C) "__init__" = some (some (.ref f))) (hf:W.typeIn K (.ref f)=some (.type "function"))
  (h:codeAny (model prog w) (A.under (.builtin "type.__call__" ⟨.ref C::vs,kw⟩)) (.call (.ref f) ⟨.ref (s.heap.objs.size+1)::vs,kw⟩) (W.InitBack (s.heap.objs.size+1) R)
   { s with heap:=(s.heap.push W.emptyDict).push (W.instObj C s.heap.objs.size) }) :
  codeAny (model prog w) A (.call (.ref C) ⟨vs,kw⟩) R s:=by
 obtain⟨hh,g,d,t,os⟩:=s;exact W.make_core (W.makes_of X hm) (W.looks_findIn X hi) (fun self=>W.bind_fn X self hf) (.inl rfl) h
end
def fK(f:Str)(v:V):List (Str×V)->List (Str×V)
 | []=>[(f,v)]
 | (g,x)::r=>if g=f then(g,v)::r else(g,x)::fK f v r
theorem jz(f g:Str)(v:V):∀ fs:List (Str×V),(fK f v fs).lookup g=if g=f then some v else fs.lookup g
 | []=>by
  show List.lookup g [(f,v)]=_;by_cases h:g=f
  ·have hb:(g==f)=true:=beq_iff_eq.mpr h;simp only[List.lookup,hb,if_pos h]
  ·have hb:(g==f)=false:=beq_eq_false_iff_ne.mpr h;simp only[List.lookup,hb,if_neg h]
 | (k,x)::r=>by
  have ih:=jz f g v r;rw[show fK f v ((k,x)::r) =(if k=f then(k,v)::r else(k,x)::fK f v r)from rfl]
  by_cases hk:k=f
  ·rw[if_pos hk];by_cases h:g=k
   ·have hb:(g==k)=true:=beq_iff_eq.mpr h;simp only[List.lookup,hb,if_pos (h.trans hk)]
   ·have hb:(g==k)=false:=beq_eq_false_iff_ne.mpr h;simp only[List.lookup,hb,if_neg (fun e:g=f=>h (e.trans hk.symm))]
  ·rw[if_neg hk];by_cases h:g=k
   ·have hb:(g==k)=true:=beq_iff_eq.mpr h;simp only[List.lookup,hb,if_neg (fun e:g=f=>hk (h.symm.trans e))]
   ·have hb:(g==k)=false:=beq_eq_false_iff_ne.mpr h;simp only[List.lookup,hb];exact ih
theorem gH(f:Str)(v:V):∀ fs:List (Str×V),f∈(fK f v fs).map (·.1)/\∀ g,g∈fs.map (·.1)->g∈(fK f v fs).map (·.1)
 | []=>⟨by simp[fK],fun g h=>by simp at h⟩
 | (k,x)::r=>by
  obtain⟨i1,i2⟩:=gH f v r;rw[show fK f v ((k,x)::r) =(if k=f then(k,v)::r else(k,x)::fK f v r)from rfl]
  by_cases hk:k=f
  ·rw[if_pos hk];subst hk;exact⟨by simp,fun g h=>by simpa using h⟩
  ·rw[if_neg hk];refine⟨?_,fun g h=>?_⟩
   ·rw[List.map_cons];exact List.mem_cons_of_mem _ i1
   ·rw[List.map_cons]at h ⊢;rcases List.mem_cons.mp h with e|e
    ·exact List.mem_cons.mpr (.inl e)
    ·exact List.mem_cons_of_mem _ (i2 g e)
theorem pP(f:Str)(v:V):∀ fs:List (Str×V),(fK f v fs).length<=fs.length+1
 | []=>by simp[fK]
 | (k,x)::r=>by
  have ih:=pP f v r;rw[show fK f v ((k,x)::r) =(if k=f then(k,v)::r else(k,x)::fK f v r)from rfl]
  by_cases hk:k=f
  ·rw[if_pos hk,List.length_cons,List.length_cons];omega
  ·rw[if_neg hk,List.length_cons,List.length_cons];omega
theorem gW.some_of{v:V}{o:Option Value}(r:gW (some v) o):∃ u,o=some u/\RelV v u:=by
 cases o with
 | none=>exact(show False from r).elim
 | some u=>exact⟨u,rfl,r⟩
theorem vf{v:V}(r:RelV v u):W.handedIn u=true:=by
 cases v with
 | non=>cases(show u=Value.none from r);rfl
 | bl b=>cases(show u=Value.bool b from r);rfl
 | int i=>obtain⟨t,e⟩:=(show ∃ t,u=Value.int i t from r);cases e;rfl
 | str x=>obtain⟨t,e⟩:=(show ∃ t,u=Value.str x t from r);cases e;rfl
 | byt b=>obtain⟨t,e⟩:=(show ∃ t,u=Value.bytes b t from r);cases e;rfl
 | flt b=>obtain⟨t,e⟩:=(show ∃ t,u=Value.float b t from r);cases e;rfl
 | ref a=>cases(show u=Value.ref a from r);rfl
 | ty n=>cases(show u=Value.type n from r);rfl
section
variable{w:World}{h h':Heap}{dx:Addr}{fs fs':List (Str×V)}
theorem wL(hok:HOk P w H h)(e:H a=some (.ins C dx fs)):∃ mA,Er h a dx C mA/\(∀ f,gW (fs.lookup f) (mA f))/\PySem.Within mA (fs.map (·.1))/\fs.length<=1000/\H dx=some (.own a):=by
 obtain⟨d,z,ne,ob,mA,n,r,q⟩:=(show aW P w H h a (.ins C dx fs)from hok a _ e);exact⟨mA,⟨ob,n,ne⟩,r,q,z,d⟩
end
structure Cls(K:W.Frag)(C:Addr):Prop where
 pg:W.plainGet K C Str.empty=true
 hd:W.hasDictIn K C=true
 po:W.plainOver K C=true
 sa:W.findIn K (.ref C) "__setattr__" = some (some (.builtin "object.__setattr__"))
theorem Cls.get{K:W.Frag}(c:Cls K C)(f:Str):W.plainGet K C f=true:=c.pg
def gq(K:W.Frag)(C:Addr)(f:Str):Prop:=W.findIn K (.ref C) f=some none
theorem gq.QR{K:W.Frag}{f:Str}(n:gq K C f):W.takerIn K C f=some none:=by
 unfold W.takerIn;rw[show W.findIn K (.ref C) f=some none from n];rfl
structure Meth(K:W.Frag)(C:Addr)(m:Str)(f:Addr):Prop where
 at_:W.findIn K (.ref C) m=some (some (.ref f))
 fn:W.isFn K (.ref f)=true
 kp:W.keepIn K (.ref f)=true
variable{prog:Program}{env:Env}
section
variable{σ:St}{s:Shared}{dx:Addr}{fs:List (Str×V)}{f:Str}{v:V}
theorem Az{b:Bool}(I:Inv X gV σ H s)(e:H a=some (.ins C dx fs))(c:Cls X.K C)(n:gq X.K C f)(l:fs.lookup f=some v)
  (h:∀ u s',Inv X gV σ H s'->RelV v u->Q u s'):wpAny (model X.prog X.w) A (getAttr (.ref a) f b) Q E s:=by
 obtain⟨mA,O,r,_,_,_⟩:=wL I.hok e;obtain⟨u,hu,ru⟩:=gW.some_of (v:=v) (o:=mA f) (by rw[<- l];exact r f)
 exact get_map I.kIn O (c.get f) c.hd n hu (vf ru) (h u _ (I.tok _) ru)
theorem zk{Q:Unit->Shared->Prop}(I:Inv X gV σ H s)(e:H a=some (.ins C dx fs))(c:Cls X.K C)(n:gq X.K C f)(hl:fs.length<1000)(ry:RelV y u)
  (h:∀ s',Inv X gV σ (upd H a (.ins C dx (fK f y fs))) s'->Q () s'):wpAny (model X.prog X.w) A (setAttr (.ref a) f u) Q E s:=by
 obtain⟨mA,O,r,wi,_,ho⟩:=wL I.hok e;have hz:(fs.map (·.1)).length<=sizeLine:=by rw[List.length_map,sizeLine_eq];omega
 refine Ke I.kIn O c.sa c.po n.QR c.hd wi hz fun h' O' sb=>h _ ?_
 have hd:∃ o,h'.get? dx=some o:=let⟨o,_,_,e',_⟩:=O'.ns;⟨o,e'⟩
 refine I.write (x:=a) (e:=dx) (by rw[e];exact True.intro) (.inr ho) (fun b q hb z=>(sb.2 b hb).trans z) hd ?_
 refine⟨by rw[ai O.ne];exact ho,?_,O.ne,O'.obj,_,O'.ns,fun g=>?_,fun g hg=>?_⟩
 ·have:=pP f y fs;omega
 ·show gW ((fK f y fs).lookup g) (if g=f then some u else mA g)
  rw[jz];by_cases q:g=f
  ·rw[if_pos q,if_pos q];exact ry
  ·rw[if_neg q,if_neg q];exact r g
 ·by_cases q:g=f
  ·rw[q];exact(gH f y fs).1
  ·refine(gH f y fs).2 g (wi g fun z=>hg ?_)
   show(if g=f then some u else mA g)=none
   rw[if_neg q];exact z
theorem Inv.made(I:Inv X gV σ H s):Inv X gV σ (upd (upd H s.heap.objs.size (.own (s.heap.objs.size+1))) (s.heap.objs.size+1) (.ins C s.heap.objs.size []))
  { s with heap:=(s.heap.push W.emptyDict).push (W.instObj C s.heap.objs.size) }:=by
 have e1:(s.heap.push W.emptyDict).get? s.heap.objs.size=some W.emptyDict:=Heap.get?_push_size s.heap rfl;have e2:((s.heap.push W.emptyDict).push (W.instObj C s.heap.objs.size)).get? (s.heap.objs.size+1)=some (W.instObj C s.heap.objs.size):=by
  have:=Heap.get?_push_size (s.heap.push W.emptyDict) (o:=W.instObj C s.heap.objs.size) rfl
  rwa [Heap.size_push]at this
 have e3:(s.heap.push W.emptyDict).Ns s.heap.objs.size (fun _=>none):=⟨W.emptyDict,#[],_,e1,rfl,(fun e he=>absurd he (by simp)),fun _=>rfl⟩
 have I1:=I.laid (a:=s.heap.objs.size) (o:=.own (s.heap.objs.size+1)) (h':=s.heap.push W.emptyDict) (t':=s.toks) (fun b u q=>Heap.get?_push_of_some _ q) (Nat.le_refl _) ⟨_,e1⟩
 refine I1.laid (a:=s.heap.objs.size+1) (o:=.ins C s.heap.objs.size []) (t':=s.toks) (fun b u q=>Heap.get?_push_of_some _ q) (Nat.le_of_eq (Heap.size_push _ _)) ?_
 have ne:s.heap.objs.size≠s.heap.objs.size+1:=Nat.ne_of_lt (Nat.lt_succ_self _);refine⟨by rw[ai ne,aj],Nat.zero_le _,ne,e2,fun _=>none,(Heap.Ns1.of_empty e3).at fun o q=>Heap.get?_push_of_some _ q,fun _=>True.intro,fun y hy=>absurd rfl hy⟩
theorem CK{w:World}{f:Str}{pos:Pos}{s:Shared}(hb:attributeBase e f env (eval e env)=eval e env)
  (h:wpAny (model prog w) A (eval e env) (fun o s₁=>wpAny (model prog w) A (getAttr o f true) Q E s₁) E s):wpAny (model prog w) A (eval (.Attribute e f pos) env) Q E s :=
 Attribute_any_ h (by rw[arm_eval_Attribute,hb])
end
def U0(K:W.Frag)(ta tv:TE)(f:Str):TS:=fun D σ H=>tv σ H fun y H1=>ta σ H1 fun x H2=>∃ a C dx fs,x = .ref a/\H2 a=some (.ins C dx fs)/\Cls K C/\gq K C f/\fs.length<1000 /\
 D.nx σ (upd H2 a (.ins C dx (fK f y fs)))
section
variable{o value:Expr}{f:Str}{pos UU:Pos}{ta tv:TE}
theorem zC(ha:PE X o ta)(hv:PE X value tv)(hs:swapsWith value (some (.Attribute o f pos')) pos.line X.env=pure false):PS X (.Assign [.Attribute o f pos'] value pos) (U0 X.K ta tv f):=by
 intro gV s σ H D I h;refine plainObj_wpAny_Assign_Attribute (thn (hv gV s σ H _ I h) fun u s1 ⟨y,H1,I1,ry,q⟩=>thn (ha gV s1 σ H1 _ I1 q) fun ov s2 hPP=>?_) hs
 obtain⟨x,H2,I2,rx,a,C,dx,fs,ex,ea,c,n,l,q2⟩:=hPP;subst ex;obtain rfl:ov=Value.ref a:=rx;exact zk I2 ea c n l ry fun s3 I3=>⟨σ,_,I3,q2⟩
end
section
variable{σ:St}{s:Shared}{c:Value}{b:Bool}
inductive kD(K:W.Frag)(H:Hp):V->Value->Prop where
 | non:kD K H .non (.type "NoneType")
 | bl(x:Bool):kD K H (.bl x) (.type "bool")
 | int(i:Int):kD K H (.int i) (.type "int")
 | str(x:Str):kD K H (.str x) (.type "str")
 | flt(x:UInt64):kD K H (.flt x) (.type "float")
 | lst{a:Addr}{xs:List V}(e:H a=some (.lst xs)):kD K H (.ref a) (.type "list")
 | frz{a:Addr}{o:Obj}{xs:List V}(e:H a=some (.frz o (.lst xs))):kD K H (.ref a) (.type "list")
 | tup{a:Addr}{xs:List V}(e:H a=some (.tup xs)):kD K H (.ref a) (.type "tuple")
 | dK{a:Addr}{kvs:List (Key×V)}(e:H a=some (.dK kvs)):kD K H (.ref a) (.type "dict")
 | dT{a:Addr}{kvs:List (List Key×V)}(e:H a=some (.dT kvs)):kD K H (.ref a) (.type "dict")
 | ins{a C dx:Addr}{fs:List (Str×V)}(e:H a=some (.ins C dx fs))(cl:Cls K C)(ha:W.findIn K (.ref C) "__class__" = some (some (.builtin "object.__class__")))
   (hn:W.specialIn K (.builtin "object.__class__") "__get__" = some (some (.builtin "getset_descriptor.__get__"))) (htk:W.takesIn K (.builtin "object.__class__")=some true)
   (hm:W.mroIn K C (.type "object")=some true):kD K H (.ref a) (.ref C)
theorem DP{x:V}{t:Value}(I:Inv X gV σ H s)(rx:RelV x u)(ty:kD X.K H x t)(e:W.kitOne X.K t c=some b)(h:∀ tk,Q (.bool b) { s with toks:=tk }) :
  wpAny (model X.prog X.w) A (call (.builtin "isinstance") [u,c]) Q E s:=by
 cases ty with
 | non=>cases(show u=Value.none from rx);exact W.kia_one W.kitx_none I.kIn True.intro e (fun z=>nomatch z) h
 | bl y=>cases(show u=Value.bool y from rx);exact W.kia_one W.kitx_bool I.kIn True.intro e (fun z=>nomatch z) h
 | int i=>obtain⟨t,q⟩:=(show ∃ t,u=Value.int i t from rx);cases q;exact W.kia_one W.kitx_int I.kIn True.intro e (fun z=>nomatch z) h
 | str y=>obtain⟨t,q⟩:=(show ∃ t,u=Value.str y t from rx);cases q;exact W.kia_one W.kitx_str I.kIn True.intro e (fun z=>nomatch z) h
 | flt y=>obtain⟨t,q⟩:=(show ∃ t,u=Value.float y t from rx);cases q;exact W.kia_one W.kitx_float I.kIn True.intro e (fun z=>nomatch z) h
 | @lst a xs ea =>
  cases(show u=Value.ref a from rx)
  obtain⟨_,_,n,_,h1⟩:=(show aW X.prog X.w H s.heap a (.lst xs)from I.hok a _ ea);exact W.kia_one W.kitx_list I.kIn ⟨_,h1,rfl⟩ e (fun z=>nomatch z) h
 | @frz a ob xs ea =>
  cases(show u=Value.ref a from rx)
  obtain⟨_,_,_,n,_,h1⟩:=(show aW X.prog X.w H s.heap a (.frz ob (.lst xs))from I.hok a _ ea);exact W.kia_one W.kitx_list I.kIn ⟨_,h1,rfl⟩ e (fun z=>nomatch z) h
 | @tup a xs ea =>
  cases(show u=Value.ref a from rx)
  obtain⟨_,_,_,p⟩:=(show aW X.prog X.w H s.heap a (.tup xs)from I.hok a _ ea);obtain⟨o,h1,h2,_⟩:=p.1;exact W.kia_one W.kitx_tuple I.kIn ⟨o,h1,h2⟩ e (fun z=>nomatch z) h
 | @dK a kvs ea =>
  cases(show u=Value.ref a from rx)
  obtain⟨_,_,vs,_,p⟩:=(show aW X.prog X.w H s.heap a (.dK kvs)from I.hok a _ ea);obtain⟨o,es,ep,h1,h2,_⟩:=p;exact W.kia_one W.kitx_dict I.kIn ⟨o,h1,h2.1⟩ e (fun z=>nomatch z) h
 | @dT a kvs ea =>
  cases(show u=Value.ref a from rx)
  obtain⟨_,_,xs,_,o,es,ep,h1,h2,_⟩:=(show aW X.prog X.w H s.heap a (.dT kvs)from I.hok a _ ea);exact W.kia_one W.kitx_dict I.kIn ⟨o,h1,h2.1⟩ e (fun z=>nomatch z) h
 | @ins a C dx fs ea cl ha hn htk hm =>
  cases(show u=Value.ref a from rx)
  obtain⟨mA,O,_⟩:=wL I.hok ea;obtain⟨od,J,_⟩:=O.look;exact W.kia_one (W.kitx_own (cl.get _) cl.hd ha hn htk hm) I.kIn J e (fun z=>nomatch z) h
end
structure cb(k:Nat)(A:Around):Prop where
 hd:A.handled=none
 dp:A.depth+3*k+5<recursionLimit
 un:A.units+16*k+200<cLine
theorem cb.mono{k:Nat}(r:cb k A)(h:j<=k):cb j A:=⟨r.hd,by have:=r.dp;omega,by have:=r.un;omega⟩
theorem cb.deeper{k:Nat}{A:Around}(r:cb (k+1) A)(env:Env):cb k (A.deeper env) :=
 ⟨r.hd,by have:=r.dp;show A.depth+1+3*k+5<_;omega,by have:=r.un;show A.units+3+16*k+200<_;omega⟩
theorem z7:(A.under (.builtin "type.__call__" ⟨.ref C::us,kw⟩)).depth=A.depth+1:=by
 first|rfl|simp[Around.under,Code.weight,Code.isCreation,Code.isGuard,Code.isCaller,Code.frames,Code.isFrame,guardIds]
theorem z6:(A.under (.builtin "type.__call__" ⟨.ref C::us,kw⟩)).units=A.units+1:=by
 first|rfl|simp[Around.under,Code.cUnits,Code.frames,Code.isFrame]
theorem cb.make{k:Nat}{A:Around}(r:cb (k+1) A)(C:Addr)(us:List Value)(kw:List (Str×Value)):cb k (A.under (.builtin "type.__call__" ⟨.ref C::us,kw⟩)) :=
 ⟨r.hd,by have:=r.dp;rw[z7];omega,by have:=r.un;rw[z6];omega⟩
theorem cb.depth{k:Nat}{A:Around}(r:cb k A):A.depth<recursionLimit:=by have:=r.dp;omega
theorem cb.units{k:Nat}{A:Around}(r:cb k A):A.units+64<cLine:=by have:=r.un;omega
def kz:TA:=fun _ H Q=>Q [] H
def cu(ta:TE)(tr:TA):TA:=fun σ H Q=>ta σ H fun x H1=>tr σ H1 fun xs H2=>Q (x::xs) H2
section
variable{t:TA}{pos:Pos}
theorem eB:PA X [] kz:=fun _ _ _ _ H Q I h=>Calls.spliced_nil ⟨[],H,I,.nil,h⟩
theorem bw(ha:PE X e te)(hr:PA X es t)(hs:starEach (e::es) X.env =(false,eval e X.env)::starEach es X.env:=by rfl):PA X (e::es) (cu te t):=by
 intro pos gV s σ H Q I h;rw[hs];show wpAny _ _ (spliced ((false,eval e X.env)::backTo pos (starEach es X.env))) _ _ s;refine Calls.spliced_cons (thn (ha gV s σ H _ I h) fun u s1 hPP=>?_)
 obtain⟨x,H1,I1,r1,q1⟩:=hPP;refine thn (hr pos gV s1 σ H1 _ I1 q1) fun us s2 hPP=>?_
 obtain⟨xs,H2,I2,r2,q2⟩:=hPP;exact⟨x::xs,H2,I2,.cons r1 r2,q2⟩
def EO(t:TA):TE:=fun σ H Q=>t σ H fun xs H1=>xs.length<=sizeLine/\∀ p,H1 p=none->Q (.ref p) (upd H1 p (.tup xs))
def QV(t:TA):TE:=fun σ H Q=>t σ H fun xs H1=>xs.length<=sizeLine/\∀ p,H1 p=none->Q (.ref p) (upd H1 p (.lst xs))
theorem zK{x1}(h:PA X es t):PE X (.Tuple es x1 pos) (EO t):=by
 intro gV s σ H Q I hq;refine wpAny_Tuple_spliced (thn (h pos gV s σ H _ I hq) fun us s1 ⟨xs,H1,I1,r,z,q⟩=>⟨by rw[<- r.length];exact z,?_⟩)
 have hf:H1 s1.heap.objs.size=none:=I1.hok.fresh (Nat.le_refl _);refine⟨.ref s1.heap.objs.size,upd H1 s1.heap.objs.size (.tup xs),I1.laid (t':=s1.toks) (fun b u e=>Heap.get?_push_of_some _ e) (Nat.le_refl _) ?_,rfl,q _ hf⟩
 exact⟨z,us,r,⟨⟨_,Heap.get?_push_size _ rfl,rfl,_,rfl⟩,_,Heap.get?_push_size _ rfl,rfl⟩⟩
theorem OM(h:PA X es t):PE X (.List es pos) (QV t):=by
 intro gV s σ H Q I hq;refine wpAny_List_spliced (thn (h pos gV s σ H _ I hq) fun us s1 ⟨xs,H1,I1,r,z,q⟩=>⟨by rw[<- r.length];exact z,?_⟩)
 have hf:H1 s1.heap.objs.size=none:=I1.hok.fresh (Nat.le_refl _);refine⟨.ref s1.heap.objs.size,upd H1 s1.heap.objs.size (.lst xs),I1.laid (t':=s1.toks) (fun b u e=>Heap.get?_push_of_some _ e) (Nat.le_refl _) ?_,rfl,q _ hf⟩
 exact⟨z,us,0,r,Heap.get?_push_size _ rfl⟩
end
abbrev Sp:=List V->Hp->VK->XK->Prop
abbrev CXT:=List Env->Hp->Shared->XK->Value->Shared->Prop
structure yU(P:Program)(w:World)(K:W.Frag)(mg:Str->Option Value)(base:Heap)(A:Around)(outer:List Env)(s:Shared)(H:Hp):Prop where
 frames:A.frames=some outer
 mod:Mod K mg base
 bs:∀ b o,base.get? b=some o->s.heap.get? b=some o/\H b=none
 bsz:base.objs.size<=s.heap.objs.size
 kC:s.heap.FunFrames base outer
 frf:∀ b∈frs outer,H b=none
 hok:HOk P w H s.heap
 bare:AllBare s.gens
def CE(outer:List Env)(P:Program)(w:World)(H:Hp)(s:Shared)(Q:VK)(u:Value)(s':Shared):Prop :=
 ∃ v H',s'.os=s.os/\AllBare s'.gens/\Un (frs outer) [] H H' s.heap s'.heap/\HOk P w H' s'.heap/\RelV v u/\Q v H'
def CR(CX:CXT)(outer:List Env)(P:Program)(w:World)(H:Hp)(s:Shared)(Q:VK)(E:XK)(r:Result)(s':Shared):Prop :=
 match r with
 | .ok (.ret u)=>CE outer P w H s Q u s'
 | .ok _=>False
 | .error e=>CX outer H s E e s'
structure aU(P:Program)(w:World)(K:W.Frag)(mg:Str->Option Value)(base:Heap)(CX:CXT)(k:Nat)(f:Addr)(fd:FuncData)(ps:List Str)(sp:Sp):Prop where
 len:∀ vs H Q E,sp vs H Q E->vs.length=ps.length
 run:∀(A:Around)(outer:List Env)(s:Shared)(H:Hp)(args:Args)(us:List Value)(vs:List V)(Q:VK)(E:XK),cb k A->yU P w K mg base A outer s H->BindsTo s fd args (ps.zip us)->Vals vs us->sp vs H Q E ->
  codeAny (model P w) A (.call (.ref f) args) (CR CX outer P w H s Q E) s
variable{mg:Str->Option Value}{base:Heap}{CX:CXT}{fd:FuncData}{ps:List Str}{sp:Sp}
theorem aU.imp{w:World}{K:W.Frag}{k:Nat}{f:Addr}{sp':Sp}(F:aU P w K mg base CX k f fd ps sp)
  (h:∀ vs H Q E,sp' vs H Q E->sp vs H Q E):aU P w K mg base CX k f fd ps sp' :=
 ⟨fun vs H Q E q=>F.len vs H Q E (h _ _ _ _ q),fun A outer s H args us vs Q E hr he hb hv hs=>F.run A outer s H args us vs Q E hr he hb hv (h _ _ _ _ hs)⟩
theorem yU.make{P:Program}{w:World}{K:W.Frag}{mg:Str->Option Value}{base:Heap}{A:Around}{outer:List Env}{s:Shared}{H:Hp}(e:yU P w K mg base A outer s H)(C:Addr)(us:List Value)(kw:List (Str×Value)) :
  yU P w K mg base (A.under (.builtin "type.__call__" ⟨.ref C::us,kw⟩)) outer s H:=⟨by first|exact e.frames |(simpa [Around.under,Code.envs,Code.isFrame,pushEnvs]using e.frames),e.mod,e.bs,e.bsz,e.kC,e.frf,e.hok,e.bare⟩
section
variable{σ:St}{s:Shared}
theorem Inv.LW(I:Inv X gV σ H s):yU X.prog X.w X.K X.mg X.base X.A X.stack s H :=
 ⟨I.ok.frames,I.ok.mod,I.bs,Nat.le_trans I.ok.bsz I.sz,I.stack,I.j9,I.hok,I.bare⟩
theorem Inv.after{Q:VK}(I:Inv X gV σ H s)(h:CE X.stack X.prog X.w H s Q u s'):EP X gV σ Q u s':=by
 obtain⟨v,H',os,bare,un,hok,r,q⟩:=h;obtain⟨hh,g,d,t,os'⟩:=s';obtain rfl:os'=s.os:=os;exact⟨v,H',I.call (h':=hh) (g':=g) (d':=d) (t':=t) (ch:=[]) un hok bare (fun b z=>absurd z (by simp)),r,q⟩
end
def rF(sp:Sp)(dvs:List V)(E:XK)(t:TA):TE:=fun σ H Q=>t σ H fun vs H1=>sp (vs++dvs) H1 Q E
def Binds(K:W.Frag)(fd:FuncData)(ps:List Str)(ds:List Value):Prop :=
 ∀(s:Shared)(us:List Value),K.In s.heap ->(us++ds).length=ps.length->BindsTo s fd ⟨us,[]⟩ (ps.zip (us++ds))
theorem Binds.all{K:W.Frag}(h:∀ us:List Value,us.length=ps.length->bindArgs fd ⟨us,[]⟩=pure (ps.zip us)):Binds K fd ps []:=fun s us _ hl=>by
 rw[List.append_nil]at hl ⊢;exact .of_eq (h us hl)
def Passes(CX:CXT)(X:Cx)(E:XK):Prop:=∀(gV:List (Addr×Obj))(σ:St)(H:Hp)(s:Shared)(e:Value)(s':Shared),Inv X gV σ H s->CX X.stack H s E e s'->X.xe e s'
section
variable{k:Nat}{f:Addr}{dvs:List V}{ds:List Value}{E:XK}{m:Str}{pos apos:Pos}{o:Expr}{ta:TE}{t:TA}
theorem N4{σ:St}{s:Shared}{Q:VK}{vs:List V}(F:aU X.prog X.w X.K X.mg X.base CX k f fd ps sp)(hr:cb k X.A)(hb:Binds X.K fd ps ds)(hd:Vals dvs ds)(hx:Passes CX X E)
  (I:Inv X gV σ H s) (r:Vals vs us) (h:sp (vs++dvs) H Q E):wpAny (model X.prog X.w) X.A (call (.ref f) us) (EP X gV σ Q) X.xe s:=by
 have r2:Vals (vs++dvs) (us++ds):=r.append hd;have hl:(us++ds).length=ps.length:=by rw[<- r2.length];exact F.len _ _ _ _ h
 refine wpAny_call (codeAny_mono (F.run X.A X.stack s H ⟨us,[]⟩ (us++ds) (vs++dvs) Q E hr I.LW (hb s us I.kIn hl) r2 h) fun r s' hq=>?_)
 cases r with
 | error e=>exact hx gV σ H s e s' I hq
 | ok fl =>
  cases fl with
  | ret u=>exact I.after hq
  | next=>exact False.elim hq
  | brk=>exact False.elim hq
  | cont=>exact False.elim hq
theorem wm(F:aU X.prog X.w X.K X.mg X.base CX k f fd ps sp)(hr:cb k X.A)(hg:Gl X x)(hm:X.mg x=some (.ref f))(hk:W.keepIn X.K (.ref f)=true)(hb:Binds X.K fd ps ds)(hd:Vals dvs ds)(hx:Passes CX X E)
  (ha:PA X (e::es) t) (hdb:(x ==("__debug__":Str))=false:=by decide) (he:starEach (e::es) X.env =(false,eval e X.env)::starEach es X.env:=by rfl) (hpl:(backTo pos (starEach es X.env)).any (·.1)=false:=by rfl) :
  PE X (.Call (.Name x p) (e::es) [] pos) (rF sp dvs E t):=by
 intro gV s σ H Q I h;refine wpAny_Call_Name_kw (kj I hg hm ?_ hdb);refine W.callWith_K (h₀:=X.base) I.ok.mod.kin hk (thn (ha pos gV s σ H _ I h) fun us s1 ⟨vs,H1,I1,r,q⟩=>⟨I1.kIn,?_⟩) he hpl
 exact N4 F hr hb hd hx I1 r q
structure Mk(K:W.Frag)(C f:Addr):Prop where
 makes:W.makesIn K C=true
 init:W.findIn K (.ref C) "__init__" = some (some (.ref f))
 fn:W.isFn K (.ref f)=true
 kp:W.keepIn K (.ref C)=true
theorem Fv{σ:St}{s:Shared}{Q:VK}{vs:List V}(M:Mk X.K C f)(F:aU X.prog X.w X.K X.mg X.base CX k f fd ps sp)(hr:cb (k+1) X.A)(hb:Binds X.K fd ps ds)(hd:Vals dvs ds)
  (hx:Passes CX X E) (I:Inv X gV σ H s) (r:Vals vs us)
  (h:∀ x dx,H x=none->H dx=none->dx≠x->sp (.ref x ::(vs++dvs)) (upd (upd H dx (.own x)) x (.ins C dx [])) (fun v H2=>v = .non/\Q (.ref x) H2) E) :
  wpAny (model X.prog X.w) X.A (call (.ref C) us) (EP X gV σ Q) X.xe s:=by
 have hq:=h (s.heap.objs.size+1) s.heap.objs.size (I.hok.fresh (Nat.le_succ _)) (I.hok.fresh (Nat.le_refl _)) (Nat.ne_of_lt (Nat.lt_succ_self _));have I2:=Inv.made (C:=C) I;have r2:Vals (V.ref (s.heap.objs.size+1) ::(vs++dvs)) (Value.ref (s.heap.objs.size+1) ::(us++ds)):=.cons rfl (r.append hd);have hl:(Value.ref (s.heap.objs.size+1)::us++ds).length=ps.length:=by
  have e:=r2.length;rw[F.len _ _ _ _ hq]at e;exact e.symm
 refine wpAny_call (G7 (f:=f) I.kIn M.makes M.init (beq_iff_eq.mp M.fn) (codeAny_mono (F.run _ X.stack _ _ ⟨Value.ref (s.heap.objs.size+1)::us,[]⟩ (Value.ref (s.heap.objs.size+1) ::(us++ds)) _ _ E (hr.make C us [])
  (I2.LW.make C us []) (hb _ (Value.ref (s.heap.objs.size+1)::us) I2.kIn hl) r2 hq) fun r s' hq'=>?_))
 cases r with
 | error e=>exact hx gV σ _ _ e s' I2 hq'
 | ok fl =>
  cases fl with
  | ret u =>
   obtain⟨v,H',I3,rv,ev,q3⟩:=I2.after hq';subst ev;exact⟨rv,⟨V.ref (s.heap.objs.size+1),H',I3,rfl,q3⟩⟩
  | next=>exact False.elim hq'
  | brk=>exact False.elim hq'
  | cont=>exact False.elim hq'
end
structure aH(N P:List Str)(sc:Scope):Prop where
 kind:sc.kind = .function
 co:sc.isCoroutine=false
 gen:sc.isGenerator=false
 nd:N.Nodup
 pre:N.take P.length=P
 par:∀ x∈P,sc.names.lookup x=some .local\/sc.names.lookup x=some .cell
 O4:∀ y∈sc.names,y.2 ≠ .free
theorem vw{kindOf:Str->Option NameKind}{x:Str}:∀{binds:List (Str×Value)}{m:Str->Option Value},(∀ v,(x,v) ∉ binds)->bindL kindOf binds m x=m x
 | [],_,_=>rfl
 | (n,v)::r,m,h=>by
  unfold bindL;rw[vw fun w hw=>h w (List.mem_cons_of_mem _ hw)]
  split
  ·have:x≠n:=by rintro rfl;exact h v List.mem_cons_self
   simp[this]
  ·rfl
theorem vy{kindOf:Str->Option NameKind}{x:Str}:∀{binds:List (Str×Value)}{m:Str->Option Value},(∀ v,(x,v) ∉ binds)->bindC kindOf binds m x=m x
 | [],_,_=>rfl
 | (n,v)::r,m,h=>by
  unfold bindC;rw[vy fun w hw=>h w (List.mem_cons_of_mem _ hw)]
  split
  ·rfl
  ·have:x≠n:=by rintro rfl;exact h v List.mem_cons_self
   simp[this]
theorem vx{kindOf:Str->Option NameKind}{x:Str}{v:Value}:∀{P:List Str}{vs:List Value}{i:Nat}{m:Str->Option Value},P.Nodup->P[i]? = some x->vs[i]? = some v->kindOf x=some .local ->
  bindL kindOf (P.zip vs) m x=some v
 | [],_,_,_,_,h,_,_=>by simp at h
 | _::_,[],_,_,_,_,h,_=>by simp at h
 | p::P,w::vs,0,m,nd,h1,h2,hk=>by
  simp at h1 h2;subst h1;subst h2;show bindL kindOf ((p,w)::P.zip vs) m p=_;unfold bindL;rw[vw fun v hv=>(List.nodup_cons.mp nd).1 (List.of_mem_zip hv).1,if_pos hk]
  simp
 | p::P,w::vs,i+1,m,nd,h1,h2,hk=>by
  show bindL kindOf ((p,w)::P.zip vs) m x=_;unfold bindL;exact vx (i:=i) (List.nodup_cons.mp nd).2 (by simpa using h1) (by simpa using h2) hk
theorem vz{kindOf:Str->Option NameKind}{x:Str}{v:Value}:∀{P:List Str}{vs:List Value}{i:Nat}{m:Str->Option Value},P.Nodup->P[i]? = some x->vs[i]? = some v->kindOf x≠some .local ->
  bindC kindOf (P.zip vs) m x=some v
 | [],_,_,_,_,h,_,_=>by simp at h
 | _::_,[],_,_,_,_,h,_=>by simp at h
 | p::P,w::vs,0,m,nd,h1,h2,hk=>by
  simp at h1 h2;subst h1;subst h2;show bindC kindOf ((p,w)::P.zip vs) m p=_;unfold bindC;rw[vy fun v hv=>(List.nodup_cons.mp nd).1 (List.of_mem_zip hv).1,if_neg hk]
  simp
 | p::P,w::vs,i+1,m,nd,h1,h2,hk=>by
  show bindC kindOf ((p,w)::P.zip vs) m x=_;unfold bindC;exact vz (i:=i) (List.nodup_cons.mp nd).2 (by simpa using h1) (by simpa using h2) hk
def start(N:List Str)(vs:List V):St:=vs.map some++List.replicate (N.length - vs.length) none
def ma(CX:CXT)(P:Program)(w:World)(K:W.Frag)(mg:Str->Option Value)(base:Heap)(N:List Str)(qual:Str)(scope:Scope)(f:Addr)(cd:Value)(A:Around)(outer:List Env)(s:Shared)(H:Hp)(E:XK):Cx where
 prog:=P
 w:=w
 K:=K
 mg:=mg
 base:=base
 A:=A.deeper (envOfC qual scope s.heap.objs.size f cd)
 N:=N
 s₀:=s
 H₀:=H
 env:=envOfC qual scope s.heap.objs.size f cd
 outer:=outer
 stack:=envOfC qual scope s.heap.objs.size f cd::outer
 ex:=[]
 calm:=true
 fn:=fun _=>true
 pn:=[]
 xe:=fun e s'=>wpAny (model P w) (A.deeper (envOfC qual scope s.heap.objs.size f cd)) (leaving (envOfC qual scope s.heap.objs.size f cd) e) (fun _ s''=>CX outer H s E e s'') (fun e' s''=>CX outer H s E e' s'') s'
variable{sc:Scope}
theorem yJ(h:sc.names.lookup x=some .cell):∃ c,(cellsFrom n sc.names []).lookup x=some c:=by
 have q:=W.cellsFrom_some sc.names n [] (.inl h);exact Option.isSome_iff_exists.mp q
variable{qual:Str}{scope:Scope}{cd:Value}{outer:List Env}
theorem DQ{w:World}{K:W.Frag}{f:Addr}{s s1:Shared}{E:XK}{vs:List V}
  (S:aH N ps scope) (hd:A.handled=none) (e0:yU P w K mg base A outer s H) (hl:vs.length=ps.length) (r:Vals vs us)
  (x:InCallC s s.heap.objs.size (bindL (envOfC qual scope s.heap.objs.size f cd).kindOf (ps.zip us) fun _=>none) (cellsFrom (s.heap.objs.size+1) scope.names []) (bindC (envOfC qual scope s.heap.objs.size f cd).kindOf (ps.zip us) fun _=>none) s1) :
  Inv (ma CX P w K mg base N qual scope f cd A outer s H E) [] (start N vs) H s1:=by
 have hpl:ps.length<=N.length:=by have:=congrArg List.length S.pre;rw[List.length_take]at this;omega
 obtain⟨h1,tk,rfl,hk⟩:=x.done;have noA:∀ b:Addr,b ∉ (ma CX P w K mg base N qual scope f cd A outer s H E).ex:=fun b z=>absurd (show b∈([]:List Addr)from z) (by simp)
 refine⟨⟨e0.mod,S.kind,rfl,rfl,Nat.le_refl _,fun y z c h1 h2=>?_,fun y hy=>?_,fun y c _ h=>?_,fun _=>hd,Around.frames_deeper e0.frames,.inr ⟨rfl,rfl⟩,fun b z=>absurd z (noA b),e0.bs,e0.bsz,fun b _ _=>noA b,fun b z=>absurd z (noA b),e0.kC,e0.frf⟩,
  rfl,e0.bare,Un.kept hk,⟨_,x.toInCall.ns,fun i y v h1 h2 h3=>?_⟩,fun y c h=>⟨_,x.cell y c h⟩,e0.hok.fresh (Nat.le_refl _),fun y c h=>?_,fun p hp=>absurd (show p∈([]:List (Addr×Obj))from hp) (by simp),e0.hok.kept hk,?_⟩
 ·exact name_of_addr x.apart (PySem.mem_of_lookup h1) (PySem.mem_of_lookup h2)
 ·have hy:scope.names.lookup y=some .cell\/scope.names.lookup y=some .free:=hy;rcases hy with hy|hy
  ·exact yJ hy
  ·exact absurd rfl (S.O4 _ (PySem.mem_of_lookup hy))
 ·exact Nat.le_of_lt (x.above y c (PySem.mem_of_lookup h))
 ·have hi:i<vs.length:=by
   unfold start at h2;by_cases hi:i<vs.length
   ·exact hi
   ·rw[List.getElem?_append_right (by simpa using hi)]at h2
    rw[List.getElem?_replicate]at h2
    split at h2 <;> cases h2
  have ha:vs[i]? = some v:=by
   unfold start at h2;rw[List.getElem?_append_left (by simpa using hi),List.getElem?_map]at h2
   cases e:vs[i]? with
   | none=>rw[e]at h2;cases h2
   | some a=>rw[e]at h2;cases h2;rfl
  obtain⟨u,hu,rv⟩:=r.get ha;have hp:ps[i]? = some y:=by
   rw[<- S.pre,List.getElem?_take_of_lt (by omega)];exact h1
  have ndP:ps.Nodup:=by rw[<- S.pre];exact S.nd.sublist (List.take_sublist _ _)
  refine⟨u,rv,?_⟩;rcases S.par y (List.mem_of_getElem? hp)with k|k
  ·exact .inl ⟨k,vx ndP hp hu k⟩
  ·obtain⟨c,e⟩:=yJ (n:=s.heap.objs.size+1) k;refine .inr ⟨.inl k,c,e,?_⟩;have q:=x.cell y c e;rw[vz ndP hp hu (by show scope.names.lookup y≠_;rw[k];decide)]at q
   exact q
 ·exact e0.hok.fresh (Nat.le_of_lt (x.above y c (PySem.mem_of_lookup h)))
 ·unfold start;show _=N.length;rw[List.length_append,List.length_map,List.length_replicate];omega
variable{name:Str}{pm:Value}{ct:Value}{oc:Value}{an:Option Addr}{od:Option Addr}
theorem Nk{w:World}{K:W.Frag}{k:Nat}{f:Addr}{params:Arguments}{dV kV doc cdv:Value}
  {osl:Array (Option Value)} {N ps:List Str} {sp:Sp} (lk:K.lookup f=some ⟨oc,od,.func (W.fnOf name qual params body scope dV kV doc pm an cdv ct),osl⟩) (hcd:W.codeIn K cdv qual=true) (S:aH N ps scope)
  (len:∀ vs H Q E,sp vs H Q E->vs.length=ps.length)
  (fE:∀(A:Around)(outer:List Env)(s:Shared)(H:Hp)(vs:List V)(Q:VK)(E:XK),cb k (A.deeper (envOfC qual scope s.heap.objs.size f cdv))->sp vs H Q E ->
   ∃ t,PSs (ma CX P w K mg base N qual scope f cdv A outer s H E) body t/\t { nx:=fun _ H'=>Q .non H',rt:=Q } (start N vs) H) :
  aU P w K mg base CX (k+1) f (W.fnOf name qual params body scope dV kV doc pm an cdv ct) ps sp:=by
 refine⟨len,fun A outer s H args us vs Q E hr e0 hb r hsp=>?_⟩
 have hl:=len _ _ _ _ hsp;have KX:K.In s.heap:=e0.mod.kin.keeps fun b o e=>(e0.bs b o e).1
 have lim:s.heap.NoLimit:=e0.mod.nolimit.keeps fun b o e=>(e0.bs b o e).1
 have gJ:∀ y∈ps.zip us,scope.names.lookup y.1=some .local\/(scope.names.lookup y.1=some .cell/\((cellsFrom (s.heap.objs.size+1) scope.names []).lookup y.1).isSome=true):=fun⟨n,v⟩ hy=>by
  rcases S.par n (List.of_mem_zip hy).1 with q|q
  ·exact .inl q
  ·exact .inr ⟨q,W.cellsFrom_some _ _ _ (.inl q)⟩
 refine codeAny_call_function hr.depth (KX _ _ lk) rfl S.co S.gen rfl (W.codeRec_of KX hcd) (hb _ _ _ _ ?_);refine wpAny_newFunctionEnv_cells S.kind gJ fun env he s1 x=>?_
 subst he;refine⟨lim.keeps x.toInCall.keep,codeAny_func ?_⟩;obtain⟨t,ht,hq⟩:=fE A outer s H vs Q E (hr.deeper _) hsp;have I:Inv (ma CX P w K mg base N qual scope f cdv A outer s H E) [] (start N vs) H s1:=DQ S hr.hd e0 hl r x;refine wpAny_mono (ht [] s1 (start N vs) H _ I hq) (fun fl s' hs=>?_) fun e s' hs=>hs
 have fin:∀{σ':St}{H':Hp}{v:V}{u:Value},Inv (ma CX P w K mg base N qual scope f cdv A outer s H E) [] σ' H' s'->RelV v u->Q v H'->CE outer P w H s Q u s' :=
  fun{σ' H' v u} J rv q=>⟨v,H',J.os,J.bare,J.base,J.hok,rv,q⟩
 cases fl with
 | ret u =>
  obtain⟨v,σ',H',J,rv,q⟩:=hs;exact fin J rv q
 | next =>
  obtain⟨σ',H',J,q⟩:=hs;exact fin (v:=V.non) (u:=Value.none) J rfl q
 | brk =>
  obtain⟨_,_,_,q⟩:=hs;exact False.elim q
 | cont =>
  obtain⟨_,_,_,q⟩:=hs;exact False.elim q
section
variable{pos:Pos}{t:TA}{id T:String}{r:List V->Hp->VK->Prop}
def tCB(r:List V->Hp->VK->Prop)(t:TA):TE:=fun σ H Q=>t σ H fun vs H1=>r vs H1 Q
theorem jw(hc:cj X (.builtin id) r)(hg:Gl X x)(hm:X.mg x=none)(hv:bootBuiltins x=some (.builtin id))(ha:PA X (e::es) t)(hn:x ≠ "__name__":=by decide)(hdb:(x ==("__debug__":Str))=false:=by decide)
  (he:starEach (e::es) X.env =(false,eval e X.env)::starEach es X.env:=by rfl) (hpl:(backTo pos (starEach es X.env)).any (·.1)=false:=by rfl):PE X (.Call (.Name x p) (e::es) [] pos) (tCB r t):=by
 intro gV s σ H Q I h;refine wpAny_Call_Name_kw (jC I hg hm hv ?_ hn hdb);exact PyProof.Rows.callWith_builtin1 (thn (ha pos gV s σ H _ I h) fun us s1 ⟨vs,H1,I1,r1,q1⟩=>hc gV s1 σ H1 vs us Q I1 r1 q1) he hpl
theorem Dv(hc:cj X (.type T) r)(hg:Gl X x)(hm:X.mg x=none)(hv:bootBuiltins x=some (.type T))(ha:PA X (e::es) t)(hn:x ≠ "__name__":=by decide)(hdb:(x ==("__debug__":Str))=false:=by decide)
  (he:starEach (e::es) X.env =(false,eval e X.env)::starEach es X.env:=by rfl) (hpl:(backTo pos (starEach es X.env)).any (·.1)=false:=by rfl):PE X (.Call (.Name x p) (e::es) [] pos) (tCB r t):=by
 intro gV s σ H Q I h;refine wpAny_Call_Name_kw (jC I hg hm hv ?_ hn hdb);exact PyProof.Rows.callWith_type1 (thn (ha pos gV s σ H _ I h) fun us s1 ⟨vs,H1,I1,r1,q1⟩=>hc gV s1 σ H1 vs us Q I1 r1 q1) he hpl
end
end L2
namespace HT
open PySem PyProof.Rows
section
variable{prog:Program}{w:World}{A:Around}{E:Value->Shared->Prop}{s:Shared}
theorem Mi{t b:Addr}{vs ws:List Value}{Q:Value->Shared->Prop}(ht:IsTup s.heap t vs.toArray)(hb:IsTup s.heap b ws.toArray)(hv:vs ≠ [])
  (h1:ws = []->Q (.ref t) s) (h2:ws ≠ []->Q (.ref s.heap.objs.size) { s with heap:=s.heap.push { cls:=.type "tuple",data:=.seq (vs++ws).toArray } })
  (hsz:vs.length+ws.length<=sizeLine):wpAny (model prog w) A (binaryOp .Add (.ref t) (.ref b)) Q E s:=by
 obtain⟨⟨cls,dd,data,sl⟩,ho,hc,n,hd⟩:=id ht;obtain⟨⟨VM,dd2,data2,sl2⟩,ho2,hc2,n2,hd2⟩:=id hb;simp only at hc hd hc2 hd2;subst hc hd hc2 hd2;have e:vs.toArray++ws.toArray =(vs++ws).toArray:=by simp
 by_cases hw:ws = []
 ·exact concat_meets ⟨_,ho,rfl⟩ ⟨_,ho2,rfl⟩ noFill_tuple_add seq_tuple_add PySem.F.slot_tuple_add PySem.F.entry_tuple_add (PySem.F.args_tuple_add_2 _ _)
   (tuple_addW1 t b vs.toArray ws.toArray n n2 dd dd2 sl sl2 (by simpa using hv) (by simp[hw])) ⟨ho,ho2,h1 hw⟩
 ·refine concat_meets ⟨_,ho,rfl⟩ ⟨_,ho2,rfl⟩ noFill_tuple_add seq_tuple_add PySem.F.slot_tuple_add PySem.F.entry_tuple_add (PySem.F.args_tuple_add_2 _ _)
   (tuple_addW2 t b vs.toArray ws.toArray n n2 dd dd2 sl sl2 (by simpa using hv) (by simpa using hw) (by rw[List.size_toArray,List.size_toArray];exact hsz)) ⟨ho,ho2,?_⟩
  rw[e];exact h2 hw
def sIx(n d:Nat):Option Int->Nat
 | none=>d
 | some v=>if v<0 then(v+(n:Int)).toNat else min v.toNat n
theorem mM(n d:Nat):sIx n d none=d:=rfl
theorem mO(n d k:Nat):sIx n d (some (k:Int))=min k n:=by
 show(if(k:Int)<0 then((k:Int)+(n:Int)).toNat else min (k:Int).toNat n)=min k n
 rw[if_neg (by omega),Int.toNat_natCast]
theorem N3(n d:Nat)(hd:d<=n)(o:Option Int):sIx n d o<=n:=by
 cases o with
 | none=>exact hd
 | some v =>
  show(if v<0 then(v+(n:Int)).toNat else min v.toNat n)<=n
  by_cases hv:v<0
  ·rw[if_pos hv];omega
  ·rw[if_neg hv];exact Nat.min_le_right _ _
theorem S1(a:Int)(n:Nat)(h0:0<=a):min a (n:Int) =((min a.toNat n:Nat):Int):=by
 by_cases h:a<=n
 ·rw[Int.min_eq_left h,Nat.min_eq_left (Int.toNat_le.mpr h),Int.toNat_of_nonneg h0]
 ·have h':=Int.le_of_lt (Int.not_le.mp h);rw[Int.min_eq_right h',Nat.min_eq_right ((Int.le_toNat h0).mpr h')]
theorem E1(n:Nat)(i:Int)(h:i<0):max 0 (min (i+(n:Int)) n) =((i+n).toNat:Int):=by
 rw[Int.min_eq_left (Int.add_le_of_le_sub_right (by rw[Int.sub_self];exact Int.le_of_lt h)),Int.max_comm,Int.ofNat_toNat]
theorem EZ(n:Nat)(i:Int)(h:¬ i<0):max 0 (min i (n:Int)) =((min i.toNat n:Nat):Int):=by
 rw[S1 i n (Int.not_lt.mp h),Int.max_eq_right (Int.natCast_nonneg _)]
theorem CG(v:Int)(n d:Nat):(if v<0 then max (v+(n:Int)) 0 else min v (n:Int)) =((sIx n d (some v):Nat):Int):=by
 show(if v<0 then max (v+(n:Int)) 0 else min v (n:Int)) =(((if v<0 then(v+(n:Int)).toNat else min v.toNat n):Nat):Int)
 by_cases hv:v<0
 ·rw[if_pos hv,if_pos hv];exact(Int.ofNat_toNat _).symm
 ·rw[if_neg hv,if_neg hv];exact S1 v n (Int.not_lt.mp hv)
theorem A4(lo hi:Option Int)(n:Nat):Builtin.Slice.sliceAdjust lo hi 1 (n:Int) =(((sIx n 0 lo:Nat):Int),((sIx n n hi:Nat):Int)):=by
 have h1:¬((1:Int)<0):=by omega
 unfold Builtin.Slice.sliceAdjust;simp only[h1,if_false];refine Prod.ext ?_ ?_
 ·cases lo with
  | none=>rfl
  | some v=>exact CG v n 0
 ·cases hi with
  | none=>rfl
  | some v=>exact CG v n n
theorem zJ(i j:Nat):Builtin.Slice.slicePlaces (i:Int) (j:Int) 1=j - i:=by
 unfold Builtin.Slice.slicePlaces;have h1:(1:Int) > 0:=by omega
 simp only[h1,if_true,Int.ediv_one]
 split <;> omega
theorem rL{v:Value}{o:Option Int}{Q:Option Int->Shared->Prop}(p:IsPart v o)(h:Q o s):wpAny (model prog w) A (Builtin.Slice.slicePartIndex v) Q E s:=by
 cases p with
 | none=>exact slicePart_none h
 | int i t=>exact slicePart_int h
theorem gw{sl:Addr}{vl vu:Value}{lo hi:Option Int}{n:Nat}{Q:Int×Int×Nat->Shared->Prop}(hs:s.heap.IsSliceOf sl vl vu .none)(pl:IsPart vl lo)(pu:IsPart vu hi)
  (h:Q (((sIx n 0 lo:Nat):Int),1,sIx n n hi - sIx n 0 lo) s):wpAny (model prog w) A (Builtin.Slice.sliceApplied (.ref sl) (pure (n:Int))) Q E s:=by
 obtain⟨os,hos,hcs,hds⟩:=id hs;unfold Builtin.Slice.sliceApplied Builtin.Slice.sliceFields;refine wpAny_bind (wpAny_bind (wpAny_field hos hds (x:=vl) rfl (wpAny_bind (wpAny_field hos hds (x:=vu) rfl (wpAny_bind (wpAny_field hos hds (x:=.none) rfl (wpAny_pure ?_)))))));refine wpAny_bind (slicePart_none ?_);show wpAny _ _ (if((1:Int)==0)=true then _ else _) _ _ s
 rw[if_neg (by decide)]
 refine wpAny_bind (rL pl (wpAny_bind (rL pu (wpAny_bind (wpAny_pure ?_)))));show wpAny _ _ (match Builtin.Slice.sliceAdjust lo hi 1 (n:Int)with |(lo,hi)=>pure (lo,(1:Int),Builtin.Slice.slicePlaces lo hi 1)) _ _ s
 rw[A4 lo hi n];show wpAny _ _ (pure (((sIx n 0 lo:Nat):Int),(1:Int),Builtin.Slice.slicePlaces ((sIx n 0 lo:Nat):Int) ((sIx n n hi:Nat):Int) 1)) _ _ s;rw[zJ];exact wpAny_pure h
theorem Gq(xs:Array Value)(i k:Nat):((List.range k).filterMap fun(m:Nat)=>xs[((i:Int)+(m:Int)*1).toNat]?).toArray =((xs.toList.drop i).take k).toArray:=by
 have e:(fun(m:Nat)=>xs[((i:Int)+(m:Int)*1).toNat]?)=fun m=>xs[i+m]?:=by
  funext m
  have:((i:Int)+(m:Int)*1).toNat=i+m:=by omega
  rw[this]
 rw[e]
 have:=pick_run xs i k
 rw[List.filterMap_map]at this;have e2:((fun x=>xs[x]?) ∘ fun x=>i+x)=fun m=>xs[i+m]?:=rfl
 rw[e2]at this;rw[this]
theorem nh{t sl:Addr}{items:Array Value}{vl vu:Value}{lo hi:Option Int}{Q:Value->Shared->Prop}(ht:IsTup s.heap t items)(hs:s.heap.IsSliceOf sl vl vu .none)(pl:IsPart vl lo)(pu:IsPart vu hi)
  (hw:¬(sIx items.size 0 lo=0/\sIx items.size items.size hi=items.size))
  (h:Q (.ref s.heap.objs.size) { s with heap:=s.heap.push { cls:=.type "tuple",data:=.seq ((items.toList.drop (sIx items.size 0 lo)).take (sIx items.size items.size hi - sIx items.size 0 lo)).toArray } })
  (hsz:items.size<=sizeLine):wpAny (model prog w) A (getItem (.ref t) (.ref sl)) Q E s:=by
 have Ci:sizeOk (.seq ((items.toList.drop (sIx items.size 0 lo)).take (sIx items.size items.size hi - sIx items.size 0 lo)).toArray):=by
  show((items.toList.drop (sIx items.size 0 lo)).take (sIx items.size items.size hi - sIx items.size 0 lo)).toArray.size<=sizeLine;rw[List.size_toArray,List.length_take,List.length_drop,Array.length_toList];exact Nat.le_trans (Nat.le_trans (Nat.min_le_right _ _) (Nat.sub_le _ _)) hsz
 have hj:sIx items.size items.size hi<=items.size:=N3 _ _ (Nat.le_refl _) hi;obtain⟨os,hos,hcs,hds⟩:=id hs;have hTs:s.TypeIs (.ref sl) "slice":=⟨os,hos,hcs⟩;unfold getItem
 try with_reducible refine wpAny_holding ?_
 first|refine wpAny_bind (wpAny_pure ?_)|skip
 refine wpAny_bind (wpAny_sequenceKey ht.typeIs (by decide) ?_)
 refine wpAny_bind (wpAny_callSpecial?_slot (name:=Str.ofString "__getitem__") ht.typeIs PyProof.Rows.slot_tuple_getitem
  (wpAny_call_entry PyProof.Rows.slot_tuple_getitem ht.typeIs entry_tuple_getitem ?_ (args_tuple_getitem _ _)))
 show wpAny _ _ (Builtin.Tuple.tupleItemsOf (.ref t) >>= _) _ _ s;refine wpAny_bind (tupleItemsOf_ ht ?_);refine wpAny_bind (wpAny_typeOf hTs ?_);rw[if_pos (by decide)]
 refine wpAny_bind (gw hs pl pu ?_);have hno:¬((((sIx items.size 0 lo:Nat):Int)==0&&(1:Int)==1&&(sIx items.size items.size hi - sIx items.size 0 lo)==items.size)=true):=by
  intro q;rw[Bool.and_eq_true,Bool.and_eq_true]at q;have q1:((sIx items.size 0 lo:Nat):Int)=0:=eq_of_beq q.1.1;have q2:sIx items.size items.size hi - sIx items.size 0 lo=items.size:=eq_of_beq q.2;exact hw ⟨by omega,by omega⟩
 show wpAny _ _ (if(((sIx items.size 0 lo:Nat):Int)==0&&(1:Int)==1&&(sIx items.size items.size hi - sIx items.size 0 lo)==items.size)=true then _ else _) _ _ s
 rw[if_neg hno,Gq]
 first
  | exact wpAny_bind (m:=Builtin.Tuple.tupleExact _) (wpAny_newObj_type (wpAny_pure ⟨_,rfl,wpAny_pure h⟩) Ci)
  | exact wpAny_bind (m:=Builtin.Tuple.tupleExact _) (wpAny_newObj_type (wpAny_bind (wpAny_pure (wpAny_pure ⟨_,rfl,wpAny_pure h⟩))) Ci)
  | exact wpAny_bind (wpAny_bind (m:=Builtin.Tuple.tupleExact _) (wpAny_newObj_type (wpAny_pure (wpAny_pure ⟨_,rfl,wpAny_pure h⟩)) Ci))
  | exact wpAny_bind (wpAny_bind (m:=Builtin.Tuple.tupleExact _) (wpAny_newObj_type (wpAny_pure ⟨_,rfl,wpAny_pure h⟩) Ci))
end
end HT
namespace L2
open PySem PySem.Spec PyProof.Rows
abbrev TO:=St->Hp ->(Option Int->Hp->Prop)->Prop
def PO(X:Cx)(e:Option Expr)(t:TO):Prop :=
 ∀(gV:List (Addr×Obj))(s:Shared)(σ:St)(H:Hp)(Q:Option Int->Hp->Prop),Inv X gV σ H s->t σ H Q ->
  wpAny (model X.prog X.w) X.A (evalPart e X.env) (fun u s'=>∃ o H',Inv X gV σ H' s'/\IsPart u o/\Q o H') X.xe s
def Bh:TO:=fun _ H Q=>Q none H
def MA(t:TE):TO:=fun σ H Q=>t σ H fun x H1=>∃ i,x = .int i/\Q (some i) H1
variable{xs:List V}{us:List Value}
section
variable{X:Cx}{e:Expr}{te:TE}{lo hi:Option Expr}{tl th:TO}{pos p2:Pos}
theorem KR:PO X none Bh:=by
 intro gV s σ H Q I h;rw[evalPart_none];exact wpAny_pure ⟨none,H,I,.none,h⟩
theorem wj(h:PE X e te):PO X (some e) (MA te):=by
 intro gV s σ H Q I hw;rw[evalPart_some];refine thn (h gV s σ H _ I hw) fun u s1 hPP=>?_
 obtain⟨x,H1,I1,r1,q1⟩:=hPP;obtain⟨i,rfl,q⟩:=q1;obtain⟨t,rfl⟩:=r1;exact⟨some i,H1,I1,.int i t,q⟩
def SlR(X:Cx)(r:V->Option Int->Option Int->Hp->VK->Prop):Prop :=
 ∀(gV:List (Addr×Obj))(s:Shared)(σ:St)(H:Hp)(x:V)(v vl vu:Value)(lo hi:Option Int)(sl:Addr)(Q:VK),Inv X gV σ H s->RelV x v->s.heap.IsSliceOf sl vl vu .none->IsPart vl lo->IsPart vu hi->r x lo hi H Q ->
  ∃ T id,typeLookup (.type T) "__getitem__" = pure (some (.builtin id))/\s.TypeIs v T/\wpAny (model X.prog X.w) X.A (getItem v (.ref sl)) (EP X gV σ Q) X.xe s
theorem SlR.or{r r':V->Option Int->Option Int->Hp->VK->Prop}(h:SlR X r)(h':SlR X r'):SlR X (fun x lo hi H Q=>r x lo hi H Q\/r' x lo hi H Q):=by
 intro gV s σ H x v vl vu lo hi sl Q I rx hs pl pu q;rcases q with q|q
 ·exact h gV s σ H x v vl vu lo hi sl Q I rx hs pl pu q
 ·exact h' gV s σ H x v vl vu lo hi sl Q I rx hs pl pu q
def tSl(r:V->Option Int->Option Int->Hp->VK->Prop)(te:TE)(tl th:TO):TE:=fun σ H Q=>te σ H fun x H1=>tl σ H1 fun l H2=>th σ H2 fun u H3=>r x l u H3 Q
theorem x9{r:V->Option Int->Option Int->Hp->VK->Prop}(hr:SlR X r)(he:PE X e te)(hl:PO X lo tl)(hu:PO X hi th):PE X (.Subscript e (.Slice lo hi none p2) pos) (tSl r te tl th):=by
 intro gV s σ H Q I h;refine Subscript_ (thn (he gV s σ H _ I h) fun v s1 hPP=>?_)
 obtain⟨x,H1,I1,r1,q1⟩:=hPP;refine wpAny_Slice (thn (hl gV s1 σ H1 _ I1 q1) fun vl s2 ⟨l,H2,I2,pl,q2⟩=>thn (hu gV s2 σ H2 _ I2 q2) fun vu s3 hPP=>?_)
 obtain⟨u,H3,I3,pu,q3⟩:=hPP;rw[evalPart_none];refine wpAny_pure ?_;have I4:Inv X gV σ H3 { s3 with heap:=s3.heap.push { cls:=.type "slice",data:=.fields #[vl,vu,.none] } }:=I3.kept (t':=s3.toks) fun b ob q=>Heap.get?_push_of_some _ q
 obtain⟨T,id,hT,ht,hg⟩:=hr gV { s3 with heap:=s3.heap.push { cls:=.type "slice",data:=.fields #[vl,vu,.none] } } σ H3 x v vl vu l u s3.heap.objs.size Q I4 r1 (Heap.IsSliceOf.new ..) pl pu q3
 show wpAny (model X.prog X.w) X.A (subscriptTail e (.Slice lo hi none p2) v (.ref s3.heap.objs.size)) (EP X gV σ Q) X.xe { s3 with heap:=s3.heap.push { cls:=.type "slice",data:=.fields #[vl,vu,.none] } }
 exact tail_any (ops:=[.ref s3.heap.objs.size,v]) ht hT hg (by with_unfolding_all rfl)
def md(xs:List V)(lo hi:Option Int):List V:=(xs.drop (HT.sIx xs.length 0 lo)).take (HT.sIx xs.length xs.length hi - HT.sIx xs.length 0 lo)
theorem pV(xs:List V)(lo hi:Option Int):(md xs lo hi).length<=xs.length:=by
 unfold md;rw[List.length_take,List.length_drop];exact Nat.le_trans (Nat.min_le_right _ _) (Nat.sub_le _ _)
def U1(K:W.Frag):V->Option Int->Option Int->Hp->VK->Prop:=fun x lo hi H Q=>∃ a xs,x = .ref a/\SqT K H a xs /\
 ¬(HT.sIx xs.length 0 lo=0/\HT.sIx xs.length xs.length hi=xs.length)/\∀ p,H p=none->Q (.ref p) (upd H p (.tup (md xs lo hi)))
theorem NV:SlR X (U1 X.K):=by
 intro gV s σ H x v vl vu lo hi sl Q I rx hs pl pu h;obtain⟨a,xs,rfl,hx,hw,q⟩:=h;cases rx;obtain⟨its,r,ht,hz⟩:=I.tuple hx;have hlen:its.toArray.size=xs.length:=by rw[List.size_toArray];exact r.length.symm
 refine⟨"tuple",_,PyProof.Rows.slot_tuple_getitem.lookup,ht.typeIs,?_⟩;refine HT.nh ht hs pl pu (by rw[hlen];exact hw) ?_ (by rw[hlen];exact hz)
 rw[hlen];refine⟨.ref s.heap.objs.size,_,I.laid (t':=s.toks) (o:=.tup (md xs lo hi)) (fun b ob q=>Heap.get?_push_of_some _ q) (Nat.le_refl _) ?_,rfl,q _ (I.hok.fresh (Nat.le_refl _))⟩
 exact⟨Nat.le_trans (pV xs lo hi) hz,_,(r.drop (HT.sIx xs.length 0 lo)).take (HT.sIx xs.length xs.length hi - HT.sIx xs.length 0 lo),mq.new _ _⟩
def Rn(K:W.Frag):R2:=fun x y H Q=>∃ a b xs ys,x = .ref a/\y = .ref b/\SqT K H a xs/\SqT K H b ys/\xs ≠ []/\xs.length+ys.length<=sizeLine /\
 (ys = []->Q (.ref a) H)/\(ys ≠ []->∀ p,H p=none->Q (.ref p) (upd H p (.tup (xs++ys))))
theorem Vals.iC(r:Vals xs us):us = [] ↔ xs = []:=by
 cases r with
 | nil=>simp
 | cons _ _=>simp
theorem Ld:OpR X (binaryOp .Add) (Rn X.K):=by
 intro gV s σ H x y v u Q I rx ry h;obtain⟨a,b,xs,ys,rfl,rfl,ha,hb,hx,hz,q1,q2⟩:=h;cases rx;cases ry;obtain⟨its,r1,p1,_⟩:=I.tuple ha;obtain⟨cc,r2,p2,_⟩:=I.tuple hb;refine HT.Mi p1 p2 (fun z=>hx (r1.iC.mp z)) (fun z=>⟨.ref a,H,I,rfl,q1 (r2.iC.mp z)⟩) (fun z=>?_) (by rw[<- r1.length,<- r2.length];exact hz)
 refine⟨.ref s.heap.objs.size,_,I.laid (t':=s.toks) (o:=.tup (xs++ys)) (fun b ob q=>Heap.get?_push_of_some _ q) (Nat.le_refl _) ?_,rfl,q2 (fun w=>z (r2.iC.mpr w)) _ (I.hok.fresh (Nat.le_refl _))⟩
 exact⟨by rw[List.length_append];exact hz,_,r1.append r2,mq.new _ _⟩
end
def ixN(n:Nat)(i:Int):Option Nat:=if 0<=i then(if i<n then some i.toNat else none)else if -(n:Int)<=i then some (i+n).toNat else none
def atI{α:Type}(xs:List α)(i:Int):Option α:=(ixN xs.length i).bind fun j=>xs[j]?
variable{n:Nat}{j:Nat}
theorem B7{i:Int}(h:ixN n i=some j):seqIndex? i n=some j/\j<n /\ -(n:Int)<=i/\i<n:=by
 unfold ixN at h;by_cases h0:0<=i
 ·rw[if_pos h0]at h;by_cases h1:i<n
  ·rw[if_pos h1]at h;have e:i.toNat=j:=Option.some.inj h;exact⟨by rw[seqIndex_of h0 h1,e],by omega,by omega,h1⟩
  ·rw[if_neg h1]at h;cases h
 ·rw[if_neg h0]at h;by_cases h1:-(n:Int)<=i
  ·rw[if_pos h1]at h;have e:(i+n).toNat=j:=Option.some.inj h;exact⟨by rw[seqIndex_neg (by omega) h1,e],by omega,h1,by omega⟩
  ·rw[if_neg h1]at h;cases h
theorem xo{α:Type}{xs:List α}{i:Int}{v:α}(h:atI xs i=some v):∃ j,seqIndex? i xs.length=some j/\xs[j]? = some v/\j<xs.length /\ -(xs.length:Int)<=i/\i<xs.length:=by
 unfold atI at h;cases e:ixN xs.length i with
 | none=>rw[e]at h;cases h
 | some j =>
  rw[e]at h;obtain⟨h1,h2,h3,h4⟩:=B7 e;exact⟨j,h1,h,h2,h3,h4⟩
theorem dq{α:Type}{xs:List α}{v:α}(h:xs[j]? = some v):atI xs (j:Int)=some v:=by
 have hj:j<xs.length:=(List.getElem?_eq_some_iff.mp h).1;have e:ixN xs.length (j:Int)=some j:=by
  unfold ixN;rw[if_pos (by omega),if_pos (by omega)];simp
 unfold atI;rw[e];exact h
def nM(b:Expr):Prop:=∀ o i,subscripted b false o i=operate [o,i] (getItem o i)
def IxR(X:Cx)(r:R2):Prop :=
 ∀(value slice:Expr)(gV:List (Addr×Obj))(s:Shared)(σ:St)(H:Hp)(x y:V)(v u:Value)(Q:VK),Inv X gV σ H s->RelV x v->RelV y u->r x y H Q ->
  subscripted slice false v u=operate [v,u] (getItem v u)->wpAny (model X.prog X.w) X.A (subscriptTail value slice v u) (EP X gV σ Q) X.xe s
def MtR(X:Cx)(id:String)(r:V->List V->Hp->VK->Prop):Prop :=
 ∀(gV:List (Addr×Obj))(s:Shared)(σ:St)(H:Hp)(x:V)(xs:List V)(v:Value)(us:List Value)(Q:VK),Inv X gV σ H s->RelV x v->Vals xs us->r x xs H Q ->
  wpAny (model X.prog X.w) X.A (call (.builtin id) (v::us)) (EP X gV σ Q) X.xe s
variable{gV:List (Addr×Obj)}{H:Hp}{ys:List V}{its:List Value}{A:Around}{y:V}{u:Value}{r:List V->Hp->VK->Prop}
section
variable{X:Cx}{a b:Expr}{ta tb:TE}{pos:Pos}
theorem IxR.or{r r':R2}(h:IxR X r)(h':IxR X r'):IxR X (fun x y H Q=>r x y H Q\/r' x y H Q):=by
 intro value slice gV s σ H x y v u Q I rx ry q hs;rcases q with q|q
 ·exact h value slice gV s σ H x y v u Q I rx ry q hs
 ·exact h' value slice gV s σ H x y v u Q I rx ry q hs
theorem yb{r:R2}(hr:IxR X r)(ha:PE X a ta)(hb:PE X b tb)(hs:nM b):PE X (.Subscript a b pos) (tOp r ta tb):=by
 intro gV s σ H Q I h;exact Subscript_ (Qb ha hb I h fun v u s2 x y H2 I2 rx ry q=>hr a b gV s2 σ H2 x y v u Q I2 rx ry q (hs _ _))
def Rk(K:W.Frag):R2:=fun x y H Q=>∃ p xs i v,x = .ref p/\y = .int i/\SqL K H p xs/\atI xs i=some v/\Q v H
def Ri(K:W.Frag):R2:=fun x y H Q=>∃ p xs i v,x = .ref p/\y = .int i/\SqT K H p xs/\atI xs i=some v/\Q v H
def Rj:R2:=fun x y H Q=>∃ z i c,x = .str z/\y = .int i/\z.length<=sizeLine/\atI z.cps.toList i=some c/\Q (.str ⟨#[c]⟩) H
theorem LF:IxR X (Rk X.K):=by
 intro value slice gV s σ H x y v u Q I rx ry h hs;obtain⟨p,xs,i,z,rfl,rfl,hq,he,q⟩:=h;cases rx;obtain⟨t,rfl⟩:=ry;obtain⟨its,r,pl,hz⟩:=I.list hq;obtain⟨j,h1,h2,h3,h4,h5⟩:=xo he;obtain⟨w,ew,rw'⟩:=r.get h2;have hl:=r.length;have hn:=jA;have fin:EP X gV σ Q w s:=⟨z,H,I,rw',q⟩;by_cases h0:0<=i
 ·have hj:i.toNat=j:=by
   rw[seqIndex_of h0 h5]at h1;exact Option.some.inj h1
  exact item_listR pl.isList h0 (by omega) (by rw[hj];simpa using ew) fin hs
 ·have hj:(i+(its.toArray.size:Int)).toNat=j:=by
   rw[seqIndex_neg (by omega) h4]at h1
   rw[List.size_toArray,<- hl];exact Option.some.inj h1
  exact subscriptTail_builtinR (x:=w) pl.isList.typeIs slot_list_getitem.lookup
   (wpAny_getItem_list_neg (Q:=fun r s'=>r=w/\EP X gV σ Q r s') pl.isList (by omega) (by rw[List.size_toArray] <;> omega) (by omega) (by rw[hj];simpa using ew) ⟨rfl,fin⟩) hs
theorem Pp:IxR X (Ri X.K):=by
 intro value slice gV s σ H x y v u Q I rx ry h hs;obtain⟨p,xs,i,z,rfl,rfl,hq,he,q⟩:=h;cases rx;obtain⟨t,rfl⟩:=ry;obtain⟨its,r,pl,hz⟩:=I.tuple hq;obtain⟨j,h1,h2,h3,h4,h5⟩:=xo he;obtain⟨w,ew,rw'⟩:=r.get h2;have hl:=r.length;have hn:=jA;have fin:EP X gV σ Q w s:=⟨z,H,I,rw',q⟩;exact subscriptTail_builtinR (x:=w) pl.typeIs slot_tuple_getitem.lookup
  (getItem_tuple (j:=j) (Q:=fun r s'=>r=w/\EP X gV σ Q r s') pl (by omega) (by omega) (by rw[List.size_toArray,<- hl];exact h1) (by simpa using ew) ⟨rfl,fin⟩) hs
theorem Pq:IxR X Rj:=by
 intro value slice gV s σ H x y v u Q I rx ry h hs;obtain⟨z,i,c,rfl,rfl,hz,he,q⟩:=h;obtain⟨t,rfl⟩:=rx;obtain⟨t',rfl⟩:=ry;obtain⟨j,h1,h2,h3,h4,h5⟩:=xo he;have hl:z.cps.toList.length=z.length:=by simp[Str.length]
 rw[hl]at h1 h4 h5;have hn:=jA;exact tail_any (typeIs_str s z t) slot_str_getitem.lookup (getItem_str (c:=c) (by
  have e1:decide (i < -(2 ^ 63:Int))=false:=decide_eq_false (by omega)
  have e2:decide (i ≥ 2 ^ 63)=false:=decide_eq_false (by omega)
  rw[e1,e2,Bool.or_false]) (by rw[h1];simpa using h2) ⟨.str ⟨#[c]⟩,H,I.tok _,⟨_,rfl⟩,q⟩) hs
def rIx(K:W.Frag):R2:=fun x y H Q=>Rk K x y H Q\/Ri K x y H Q\/Rj x y H Q
theorem Hg:IxR X (rIx X.K):=LF.or (Pp.or Pq)
theorem z5(its:List Value)(n j:Nat)(u:Value):Obj.mapSeq (·.setIfInBounds j u) { cls:=.type "list",data:=.seq its.toArray n } ={ cls:=.type "list",data:=.seq (its.set j u).toArray n }:=by
 simp[Obj.mapSeq]
theorem Inv.lst{gV:List (Addr×Obj)}{σ:St}{H:Hp}{s:Shared}{p:Addr}{xs:List V}(I:Inv X gV σ H s)(h:H p=some (.lst xs)) :
  ∃(its:List Value)(n:Nat),Vals xs its/\s.heap.get? p=some { cls:=.type "list",data:=.seq its.toArray n }/\xs.length<=sizeLine:=by
 obtain⟨z,its,n,r,e⟩:=I.hok p _ h;exact⟨its,n,r,e,z⟩
theorem Inv.O9{σ:St}{s:Shared}{p:Addr}{its':List Value}{n':Nat}{f:Obj->Obj}(I:Inv X gV σ H s)(h:H p=some (.lst xs))
  (ho:s.heap.get? p=some { cls:=.type "list",data:=.seq its.toArray n }) (hf:f { cls:=.type "list",data:=.seq its.toArray n } ={ cls:=.type "list",data:=.seq its'.toArray n' }) (r:Vals ys its') (hz:ys.length<=sizeLine) (t:Nat) :
  Inv X gV σ (upd H p (.lst ys)) { s with heap:=s.heap.update p f,toks:=t }:=by
 have e:(s.heap.update p f).get? p=some { cls:=.type "list",data:=.seq its'.toArray n' }:=by
  rw[Heap.get?_update_self f ho (by rw[hf] <;> rfl),hf]
 refine I.write (x:=p) (e:=p) (by rw[h];trivial) (.inl rfl) (fun b u hb q=>(Heap.get?_update_other _ _ (Ne.symm hb)).trans q) ⟨_,e⟩ ?_
 exact⟨hz,its',n',r,e⟩
def FD:V->V->V->Hp ->(Hp->Prop)->Prop:=fun o i v H Q=>∃ p xs k j,o = .ref p/\i = .int k/\H p=some (.lst xs)/\ixN xs.length k=some j/\Q (upd H p (.lst (xs.set j v)))
theorem set_list:Qj X FD:=by
 intro gV s σ H o i v ov iv u Q I ro ri rv h;obtain⟨p,xs,k,j,rfl,rfl,hp,hj,q⟩:=h;cases ro;obtain⟨t,rfl⟩:=ri;obtain⟨its,n,r,ho,hz⟩:=I.lst hp;obtain⟨h1,h2,h3,h4⟩:=B7 hj;have hl:=r.length;have hn:=jA;have I':Inv X gV σ (upd H p (.lst (xs.set j v))) { s with heap:=s.heap.update p (Obj.mapSeq (·.setIfInBounds j u)) } :=
  I.O9 hp ho (z5 its n j u) (r.set rv j) (by rw[List.length_set];exact hz) s.toks
 by_cases h0:0<=k
 ·have hk:k.toNat=j:=by
   rw[seqIndex_of h0 h4]at h1;exact Option.some.inj h1
  exact W.ki_setAt ho h0 (by omega) (by rw[List.size_toArray,<- hl];exact h4) (by rw[hk];exact⟨_,I',q⟩)
 ·have hk:(k+(its.toArray.size:Int)).toNat=j:=by
   rw[seqIndex_neg (by omega) h3]at h1
   rw[List.size_toArray,<- hl];exact Option.some.inj h1
  exact W.ki_setBack ho (by omega) (by rw[List.size_toArray,<- hl];exact h3) (by omega) (by rw[hk];exact⟨_,I',q⟩)
theorem vN(lo hi:Option Int)(n:Nat):(sliceBounds lo hi none n).1 =((HT.sIx n 0 lo:Nat):Int)/\(sliceBounds lo hi none n).2.1 =((HT.sIx n n hi:Nat):Int)/\(sliceBounds lo hi none n).2.2=1:=by
 refine⟨?_,?_,rfl⟩
 ·cases lo with
  | none=>simp[sliceBounds,HT.sIx]
  | some i =>
   simp only[sliceBounds,HT.sIx,Option.getD_none,show(1:Int) > 0 by decide,if_true]
   by_cases h:i<0
   ·simp only[h,if_true] <;> first|exact HT.E1 _ _ h|omega
   ·simp only[h,if_false] <;> first|exact HT.EZ _ _ h|omega
 ·cases hi with
  | none=>simp[sliceBounds,HT.sIx]
  | some i =>
   simp only[sliceBounds,HT.sIx,Option.getD_none,show(1:Int) > 0 by decide,if_true]
   by_cases h:i<0
   ·simp only[h,if_true] <;> first|exact HT.E1 _ _ h|omega
   ·simp only[h,if_false] <;> first|exact HT.EZ _ _ h|omega
theorem uq(its:List Value)(lo hi:Option Int):slicePick its.toArray lo hi none =((its.drop (HT.sIx its.length 0 lo)).take (HT.sIx its.length its.length hi - HT.sIx its.length 0 lo)).toArray:=by
 obtain⟨h1,h2,h3⟩:=vN lo hi its.toArray.size;unfold slicePick;rw[h1,h2,h3];simp only[sliceRange_one,pick_run,List.size_toArray] <;> rfl
def Rg(K:W.Frag):V->Option Int->Option Int->Hp->VK->Prop:=fun x lo hi H Q=>∃ a xs,x = .ref a/\SqL K H a xs/\∀ p,H p=none->Q (.ref p) (upd H p (.lst (md xs lo hi)))
theorem Bm:SlR X (Rg X.K):=by
 intro gV s σ H x v vl vu lo hi sl Q I rx hs pl pu h;obtain⟨a,xs,rfl,hx,q⟩:=h;cases rx;obtain⟨its,r,ht,hz⟩:=I.list hx;have hlen:=r.length;refine⟨"list",_,slot_list_getitem.lookup,ht.isList.typeIs,?_⟩;refine wpAny_getItem_list_slice ht.isList hs pl pu .none (by simp) ?_ (by rw[List.size_toArray] <;> omega)
 rw[uq,<- hlen];refine⟨.ref s.heap.objs.size,_,I.laid (t':=s.toks) (o:=.lst (md xs lo hi)) (fun b ob q=>Heap.get?_push_of_some _ q) (Nat.le_refl _) ?_,rfl,q _ (I.hok.fresh (Nat.le_refl _))⟩
 exact⟨Nat.le_trans (pV xs lo hi) hz,_,0,(r.drop (HT.sIx xs.length 0 lo)).take (HT.sIx xs.length xs.length hi - HT.sIx xs.length 0 lo),Heap.get?_push_size _ rfl⟩
def eT:V->Bool
 | .non=>true
 | .bl _=>true
 | .int _=>true
 | .str _=>true
 | _=>false
def eqV:V->V->Bool
 | .non,.non=>true
 | .bl a,.bl b=>a==b
 | .bl a,.int b=>(if a then 1 else 0)==b
 | .int a,.bl b=>a ==(if b then 1 else 0)
 | .int a,.int b=>a==b
 | .str a,.str b=>a==b
 | _,_=>false
theorem oY{s:Shared}{x:V}{v:Value}(ry:RelV y u)(rx:RelV x v)(fy:eT y=true)(fx:eT x=true):SeqAt.EqAt A s u v (eqV y x):=by
 cases y with
 | non =>
  cases ry;cases x with
  | non=>cases rx;exact SeqAt.EqAt.same _
  | bl b=>cases rx;exact SeqAt.EqAt.none_bool b
  | int b=>obtain⟨t,rfl⟩:=rx;exact SeqAt.EqAt.none_int b t
  | str b=>obtain⟨t,rfl⟩:=rx;exact SeqAt.EqAt.none_str b t
  | _=>exact absurd (show false=true from fx) Bool.false_ne_true
 | bl a =>
  cases ry;cases x with
  | non=>cases rx;exact SeqAt.EqAt.bool_none a
  | bl b=>cases rx;exact SeqAt.EqAt.bool_bool a b
  | int b=>obtain⟨t,rfl⟩:=rx;exact SeqAt.EqAt.bool_int a b t
  | str b=>obtain⟨t,rfl⟩:=rx;exact SeqAt.EqAt.bool_str a b t
  | _=>exact absurd (show false=true from fx) Bool.false_ne_true
 | int a =>
  obtain⟨t',rfl⟩:=ry;cases x with
  | non=>cases rx;exact SeqAt.EqAt.int_none a t'
  | bl b=>cases rx;exact SeqAt.EqAt.int_bool a t' b
  | int b=>obtain⟨t,rfl⟩:=rx;exact SeqAt.EqAt.int_int a t' b t
  | str b=>obtain⟨t,rfl⟩:=rx;exact SeqAt.EqAt.int_str a t' b t
  | _=>exact absurd (show false=true from fx) Bool.false_ne_true
 | str a =>
  obtain⟨t',rfl⟩:=ry;cases x with
  | non=>cases rx;exact SeqAt.EqAt.str_none a t'
  | bl b=>cases rx;exact SeqAt.EqAt.str_bool a t' b
  | int b=>obtain⟨t,rfl⟩:=rx;exact SeqAt.EqAt.str_int a t' b t
  | str b=>obtain⟨t,rfl⟩:=rx;exact SeqAt.EqAt.str_str a t' b t
  | _=>exact absurd (show false=true from fx) Bool.false_ne_true
 | _=>exact absurd (show false=true from fy) Bool.false_ne_true
def eqU(x:V)(u:Value):Bool:=match u with
 | .none=>eqV .non x
 | .bool b=>eqV (.bl b) x
 | .int i _=>eqV (.int i) x
 | .str z _=>eqV (.str z) x
 | _=>false
theorem HF{x:V}(r:RelV y u)(f:eT y=true):eqU x u=eqV y x:=by
 cases y with
 | non=>cases r;rfl
 | bl b=>cases r;rfl
 | int i=>obtain⟨t,rfl⟩:=r;rfl
 | str z=>obtain⟨t,rfl⟩:=r;rfl
 | _=>exact absurd (show false=true from f) Bool.false_ne_true
theorem nH{x:V}:∀{xs:List V}{us:List Value},Vals xs us->xs.all eT=true->us.any (eqU x)=xs.any fun y=>eqV y x
 | _,_,.nil,_=>rfl
 | y::xs,u::us,.cons r t,f=>by
  rw[List.all_cons,Bool.and_eq_true]at f;rw[List.any_cons,List.any_cons,HF r f.1,nH t f.2]
theorem jy{A:Around}{s:Shared}{x:V}{v:Value}(rx:RelV x v)(fx:eT x=true):∀{xs:List V}{us:List Value},Vals xs us->xs.all eT=true->∀ u∈us,SeqAt.EqAt A s u v (eqU x u)
 | _,_,.nil,_=>fun u hu=>by cases hu
 | y::xs,u::us,.cons r t,f=>fun u' hu=>by
  rw[List.all_cons,Bool.and_eq_true]at f;rcases List.mem_cons.mp hu with rfl|hu
  ·rw[HF r f.1];exact oY r rx f.1 fx
  ·exact jy rx fx t f.2 u' hu
def inV(x:V)(xs:List V):Bool:=xs.any fun y=>eqV y x
def rIn(K:W.Frag)(neg:Bool):R2:=fun x y H Q=>∃ p xs,y = .ref p/\(SqL K H p xs\/SqT K H p xs)/\eT x=true/\xs.all eT=true/\Q (.bl (if neg then !inV x xs else inV x xs)) H
theorem Dx:OpR X (compareOp .In) (rIn X.K false):=by
 intro gV s σ H x y v u Q I rx ry h;obtain⟨p,xs,rfl,hq,fx,fs,q⟩:=h;cases ry;rcases hq with hq|hq
 ·obtain⟨its,r,pl,hz⟩:=I.list hq;refine SeqAt.in_listAt (eqU x) pl.isList (fun w hw=>jy rx fx r fs w (by simpa using hw)) ⟨.bl _,H,I,rfl,?_⟩
  rw[show its.toArray.any (eqU x)=its.any (eqU x)by simp,nH r fs]
  exact q
 ·obtain⟨its,r,pl,hz⟩:=I.tuple hq;refine SeqAt.in_tupleAt (eqU x) pl (fun w hw=>jy rx fx r fs w (by simpa using hw)) ⟨.bl _,H,I,rfl,?_⟩
  rw[show its.toArray.any (eqU x)=its.any (eqU x)by simp,nH r fs]
  exact q
theorem wt:OpR X (compareOp .NotIn) (rIn X.K true):=by
 intro gV s σ H x y v u Q I rx ry h;obtain⟨p,xs,rfl,hq,fx,fs,q⟩:=h;cases ry;rcases hq with hq|hq
 ·obtain⟨its,r,pl,hz⟩:=I.list hq;refine SeqAt.notIn_listAt (eqU x) pl.isList (fun w hw=>jy rx fx r fs w (by simpa using hw)) ⟨.bl _,H,I,rfl,?_⟩
  rw[show its.toArray.any (eqU x)=its.any (eqU x)by simp,nH r fs]
  exact q
 ·obtain⟨its,r,pl,hz⟩:=I.tuple hq;refine SeqAt.notIn_tupleAt (eqU x) pl (fun w hw=>jy rx fx r fs w (by simpa using hw)) ⟨.bl _,H,I,rfl,?_⟩
  rw[show its.toArray.any (eqU x)=its.any (eqU x)by simp,nH r fs]
  exact q
theorem nE:cj X (.builtin "len") (fun xs H Q=>∃ p ys,xs = [.ref p]/\(SqL X.K H p ys\/SqT X.K H p ys)/\Q (.int ys.length) H):=by
 intro gV s σ H xs us Q I r h;obtain⟨p,ys,rfl,hq,q⟩:=h;obtain⟨u,rfl,rx⟩:=vals1 r;cases rx;have hn:=jA;rcases hq with hq|hq
 ·obtain⟨its,r',pl,hz⟩:=I.list hq;have hlen:=r'.length;exact Calls.call_len_list pl.isList (by simp only[List.size_toArray] <;> omega) ⟨.int ys.length,H,I.tok _,⟨s.toks+1,by rw[List.size_toArray,hlen]⟩,q⟩
 ·obtain⟨its,r',pl,hz⟩:=I.tuple hq;have hlen:=r'.length;exact len_tuple pl (by simp only[List.size_toArray] <;> omega) ⟨.int ys.length,H,I.tok _,⟨s.toks+1,by rw[List.size_toArray,hlen]⟩,q⟩
theorem xi:cj X (.builtin "len") (fun xs H Q=>∃ z,xs = [.str z]/\z.length<=sizeLine/\Q (.int z.length) H):=by
 intro gV s σ H xs us Q I r h;obtain⟨z,rfl,hz,q⟩:=h;obtain⟨u,rfl,t,rfl⟩:=vals1 r;have hn:=jA;exact len_str (by omega) ⟨.int z.length,H,I.tok _,⟨_,rfl⟩,q⟩
theorem cj.or{f:Value}{r':List V->Hp->VK->Prop}(h:cj X f r)(h':cj X f r'):cj X f (fun xs H Q=>r xs H Q\/r' xs H Q):=by
 intro gV s σ H xs us Q I rs q;rcases q with q|q
 ·exact h gV s σ H xs us Q I rs q
 ·exact h' gV s σ H xs us Q I rs q
theorem xh:cj X (.type "list") (fun xs H Q=>∃ p ys,xs = [.ref p]/\(SqL X.K H p ys\/SqT X.K H p ys)/\∀ l,H l=none->Q (.ref l) (upd H l (.lst ys))):=by
 intro gV s σ H xs us Q I r h;obtain⟨p,ys,rfl,hq,q⟩:=h;obtain⟨u,rfl,rx⟩:=vals1 r;cases rx;have fin:∀(its:List Value),Vals ys its->ys.length<=sizeLine->∀(h':Heap)(c':Nat),(∀ b o',s.heap.get? b=some o'->h'.get? b=some o') ->
   h'.get? s.heap.objs.size=some { cls:=.type "list",dict:=none,data:=.seq its.toArray c',slots:=#[] }->EP X gV σ Q (.ref s.heap.objs.size) { s with heap:=h' }:=fun its r' hz h' c' kp e =>
  ⟨.ref s.heap.objs.size,_,I.laid (t':=s.toks) kp (Nat.le_refl _) (show aW X.prog X.w _ h' _ (.lst ys)from⟨hz,its,c',r',e⟩),rfl,q _ (I.hok.fresh (Nat.le_refl _))⟩
 rcases hq with hq|hq
 ·obtain⟨its,r',pl,hz⟩:=I.list hq;have hlen:=r'.length;obtain⟨o,ho,hc,n,hd⟩:=pl.isList;exact call_list_seq p (.inl rfl) ho hc hd (fun h' c' kp e=>fin its r' hz h' c' kp e) (by simp only[List.size_toArray] <;> omega)
 ·obtain⟨its,r',pl,hz⟩:=I.tuple hq;have hlen:=r'.length;obtain⟨o,ho,hc,n,hd⟩:=pl;exact call_list_seq p (.inr rfl) ho hc hd (fun h' c' kp e=>fin its r' hz h' c' kp e) (by simp only[List.size_toArray] <;> omega)
theorem uL:cj X (.type "tuple") (fun xs H Q=>∃ p ys,xs = [.ref p]/\((SqL X.K H p ys/\∀ l,H l=none->Q (.ref l) (upd H l (.tup ys)))\/(SqT X.K H p ys/\Q (.ref p) H))):=by
 intro gV s σ H xs us Q I r h;obtain⟨p,ys,rfl,h⟩:=h;obtain⟨u,rfl,rx⟩:=vals1 r;cases rx;rcases h with⟨hq,q⟩ |⟨hq,q⟩
 ·obtain⟨its,r',pl,hz⟩:=I.list hq;have hlen:=r'.length;refine call_tuple_list pl.isList (fun h' kp=>?_) (by simp only[List.size_toArray] <;> omega)
  have I1:Inv X gV σ H { s with heap:=h' }:=I.kept (t':=s.toks) kp
  have I2:Inv X gV σ (upd H h'.objs.size (.tup ys)) { s with heap:=h'.push { cls:=.type "tuple",data:=.seq its.toArray } } :=
   I1.laid (t':=s.toks) (fun b o e=>Heap.get?_push_of_some _ e) (Nat.le_refl _) (show aW X.prog X.w _ _ _ (.tup ys)from⟨hz,its,r',mq.new _ _⟩)
  exact⟨.ref h'.objs.size,_,I2,rfl,q _ (I1.hok.fresh (Nat.le_refl _))⟩
 ·obtain⟨its,r',pl,hz⟩:=I.tuple hq;exact call_tuple_same pl ⟨.ref p,H,I,rfl,q⟩
def tyV(K:W.Frag)(T:String)(x:V)(H:Hp):Prop:=match x with
 | .str _=>T = "str"
 | .int _=>T = "int"
 | .ref p=>(T = "list" /\ ∃ xs,SqL K H p xs)\/(T = "tuple" /\ ∃ o,K.lookup p=some o/\o.cls = .type "tuple" /\ o.dict=none) \/
   (T = "dict" /\ ((∃ kvs,H p=some (.dK kvs))\/∃ kvs,H p=some (.dT kvs)))\/(T = "set" /\ ∃ S n,H p=some (.set S n))
 | _=>False
theorem EL{σ:St}{s:Shared}{T:String}{x:V}{v:Value}(I:Inv X gV σ H s)(r:RelV x v)(ty:tyV X.K T x H) :
  s.TypeIs v T/\∀ a,v = .ref a->∃ ob,s.heap.get? a=some ob/\ob.dict=none:=by
 cases x with
 | str z =>
  obtain⟨t,rfl⟩:=r
  cases(show T = "str" from ty)
  exact⟨typeIs_str s z t,fun _ e=>nomatch e⟩
 | int i =>
  obtain⟨t,rfl⟩:=r
  cases(show T = "int" from ty)
  exact⟨typeIs_int s i t,fun _ e=>nomatch e⟩
 | ref p =>
  cases r;rcases ty with⟨rfl,xs,hq⟩ |⟨rfl,o,hk,hc,hd⟩ |⟨rfl,hk⟩ |⟨rfl,S,n,hk⟩
  ·obtain⟨its,_,pl,_⟩:=I.list hq;refine⟨pl.isList.typeIs,fun a e=>?_⟩
   cases e;obtain⟨o,n,e,c,hd,_⟩:=pl;exact⟨o,e,hd⟩
  ·refine⟨⟨o,I.kIn p o hk,hc⟩,fun a e=>?_⟩
   cases e;exact⟨o,I.kIn _ o hk,hd⟩
  ·have z:∃ o,s.heap.get? p=some o/\o.ExactDict:=by
    rcases hk with⟨kvs,hk⟩ |⟨kvs,hk⟩
    ·obtain⟨_,_,_,_,o,_,_,e,ex,_⟩:=I.hok p _ hk;exact⟨o,e,ex⟩
    ·obtain⟨_,_,_,_,o,_,_,e,ex,_⟩:=I.hok p _ hk;exact⟨o,e,ex⟩
   obtain⟨o,e,ex⟩:=z;refine⟨⟨o,e,ex.1⟩,fun a e2=>?_⟩
   cases e2;exact⟨o,e,ex.2.1⟩
  ·obtain⟨o,_,_,_,e,ex,_⟩:=I.hok p _ hk;refine⟨⟨o,e,ex.1⟩,fun a e2=>?_⟩
   cases e2;exact⟨o,e,ex.2.1⟩
 | _=>exact False.elim ty
def NN(K:W.Frag)(T:String)(r:V->List V->Hp->VK->Prop)(to:TE):TE:=fun σ H Q=>to σ H fun x H1=>tyV K T x H1/\r x [] H1 Q
def tBM(K:W.Frag)(T:String)(r:V->List V->Hp->VK->Prop)(to:TE)(t:TA):TE:=fun σ H Q=>to σ H fun x H1=>tyV K T x H1/\t σ H1 fun xs H2=>r x xs H2 Q
variable{o e:Expr}{es:List Expr}{to:TE}{t:TA}{name:Str}{apos bq:Pos}{T id:String}{r:V->List V->Hp->VK->Prop}
theorem GA(pa:PlainAttrs T)(slot:Slot T name id)(hty:typeOf (.builtin id)=pure (.type "method_descriptor"))(hm:MtR X id r)(ho:PE X o to)
  (fF:attributeBase o name X.env (eval o X.env)=eval o X.env:=by rfl) (fD:(apos.endLine==bq.line)=true:=by rfl):PE X (.Call (.Attribute o name apos) [] [] bq) (NN X.K T r to):=by
 intro gV s σ H Q I h;refine wpAny_Call_method0_late fF fD (thn (ho gV s σ H _ I h) fun v s1 hPP=>?_)
 obtain⟨x,H1,I1,r1,ty,q1⟩:=hPP;obtain⟨h1,h2⟩:=EL I1 r1 ty;exact⟨T,id,pa,slot,hty,h1,h2,Calls.callWith_builtin rfl (PySem.evalArgs_none (hm gV s1 σ H1 x [] v [] Q I1 r1 .nil q1))⟩
theorem GB(pa:PlainAttrs T)(slot:Slot T name id)(hty:typeOf (.builtin id)=pure (.type "method_descriptor"))(hm:MtR X id r)(ho:PE X o to)(ha:PA X (e::es) t)
  (fF:attributeBase o name X.env (eval o X.env)=eval o X.env:=by rfl)
  (sZ:((backTo bq (starEach (e::es) X.env)).all (fun x=>!x.1)&&(backToKw bq (keywordEach [] X.env)).all (fun x=>x.1.isSome)
   && decide ((e::es).length+([]:List Keyword).length+(if([]:List Keyword).isEmpty then 0 else 1)<30))=true:=by rfl)
  (fD:(apos.endLine==bq.line)=true:=by rfl) (hs:starEach (e::es) X.env =(false,eval e X.env)::starEach es X.env:=by rfl) (fC:(backTo bq (starEach es X.env)).any (·.1)=false:=by rfl) :
  PE X (.Call (.Attribute o name apos) (e::es) [] bq) (tBM X.K T r to t):=by
 intro gV s σ H Q I h;refine wpAny_Call_method_late fF sZ fD rfl (thn (ho gV s σ H _ I h) fun v s1 hPP=>?_)
 obtain⟨x,H1,I1,r1,ty,q1⟩:=hPP;obtain⟨h1,h2⟩:=EL I1 r1 ty;refine⟨T,id,pa,slot,hty,h1,h2,?_⟩;have hA:=ha bq gV s1 σ H1 _ I1 q1;rw[hs]at hA ⊢;refine Calls.callWith_builtin (by show(false ||(backTo bq (starEach es X.env)).any (·.1))=false;rw[fC] <;> rfl) (Calls.evalArgs_plain ?_)
 refine thn hA fun us s2 hPP=>?_
 obtain⟨vs,H2,I2,r2,q2⟩:=hPP;exact hm gV s2 σ H2 x vs v us Q I2 r1 r2 q2
end
def MtM(X:Cx)(id:String)(r:V->List V->Hp->VK->Prop):Prop :=
 ∀(gV:List (Addr×Obj))(s:Shared)(σ:St)(H:Hp)(x:V)(xs:List V)(v:Value)(us:List Value)(Q:VK),Inv X gV σ H s->RelV x v->Vals xs us->r x xs H Q ->
  wpAny (model X.prog X.w) X.A (call (.builtin id) (v::us)) (EP X gV σ Q) X.xe s
theorem Vals.one:∀{x:V}{us:List Value},Vals [x] us->∃ u,us = [u]/\RelV x u:=by
 intro x us h;cases h with
 | cons r t=>cases t;exact⟨_,rfl,r⟩
theorem Vals.zero:∀{us:List Value},Vals [] us->us = []
 | _,.nil=>rfl
theorem Vals.dropLast{xs:List V}{us:List Value}(h:Vals xs us):Vals xs.dropLast us.dropLast:=by
 induction h with
 | nil=>exact .nil
 | cons r t ih =>
  cases t with
  | nil=>exact .nil
  | cons q t'=>exact .cons r ih
theorem Vals.reverse{xs:List V}{us:List Value}(h:Vals xs us):Vals xs.reverse us.reverse:=by
 induction h with
 | nil=>exact .nil
 | cons r t ih=>rw[List.reverse_cons,List.reverse_cons];exact Vals.append ih (.cons r .nil)
theorem AG{α:Type}(l:List α):l.eraseIdx (l.length - 1)=l.dropLast:=by
 induction l with
 | nil=>rfl
 | cons a r ih =>
  cases r with
  | nil=>rfl
  | cons b r =>
   have e:(a::b::r).length - 1 =((b::r).length - 1)+1:=by
    rfl
   rw[e,List.eraseIdx_cons_succ,ih]
   all_goals rfl
variable{t':Nat}
section
variable{X:Cx}{σ:St}{s:Shared}{l b:Addr}{zs:List V}
theorem Inv.Pa{its':List Value}{f:Array Value->Array Value}{t':Nat}(I:Inv X gV σ H s)(hH:H l=some (.lst xs))
  (e:s.heap.get? l=some { cls:=.type "list",data:=.seq its.toArray n }) (hf:f its.toArray=its'.toArray) (hv:Vals ys its') (hz:ys.length<=sizeLine) :
  Inv X gV σ (upd H l (.lst ys)) { s with heap:=s.heap.update l (Obj.mapSeq f),toks:=t' }:=by
 have q:=PySem.IsL.update e f;rw[hf]at q;refine I.write (x:=l) (e:=l) (by rw[hH];exact trivial) (.inl rfl) (fun b' u hb hu=>(Heap.get?_update_other s.heap (Obj.mapSeq f) (Ne.symm hb)).trans hu) ⟨_,q⟩ ?_
 exact⟨hz,its',_,hv,q⟩
theorem Inv.Ve(I:Inv X gV σ H s)(hv:Vals ys its)(hz:ys.length<=sizeLine) :
  Inv X gV σ (upd H s.heap.objs.size (.lst ys)) { s with heap:=s.heap.push { cls:=.type "list",data:=.seq its.toArray },toks:=t' } :=
 I.laid (fun _ _ q=>Heap.get?_push_of_some _ q) (Nat.le_refl _) ⟨hz,its,0,hv,Heap.get?_push_size _ rfl⟩
theorem Inv.fresh(I:Inv X gV σ H s):H s.heap.objs.size=none:=I.hok.fresh (Nat.le_refl _)
theorem Inv.DJ(I:Inv X gV σ H s)(hH:H l=some (.lst xs)):xs.length<=sizeLine/\∃(its:List Value)(n:Nat),Vals xs its/\xs.length=its.length/\s.heap.get? l=some { cls:=.type "list",data:=.seq its.toArray n }:=by
 obtain⟨z,its,n,r,e⟩:=I.hok l _ hH;exact⟨z,its,n,r,r.length,e⟩
theorem GQ(h:n<=sizeLine):Builtin.List.listTooLong n=false:=by
 unfold Builtin.List.listTooLong;exact decide_eq_false (by omega)
end
section
variable{X:Cx}
def qO:V->List V->Hp->VK->Prop:=fun x vs H Q=>∃ l xs y,x = .ref l/\vs = [y]/\H l=some (.lst xs)/\xs.length<sizeLine/\Q .non (upd H l (.lst (xs ++ [y])))
theorem DI:MtM X "list.append" qO:=by
 intro gV s σ H x vs v us Q I rx rv h;obtain⟨l,xs,y,rfl,rfl,hH,hz,q⟩:=h;cases rx;obtain⟨u,rfl,ru⟩:=rv.one;obtain⟨z,its,n,r,hl,e⟩:=I.DJ hH;refine call_meets F.slot_list_append ⟨_,e,rfl⟩ F.entry_list_append (F.args_list_append_2 _ _) (PySem.list_append l its.toArray n u (by rw[List.size_toArray];omega)) ⟨e,?_⟩
 refine⟨.non,_,I.Pa (its':=its ++ [u]) hH e (by simp) (r.append (.cons ru .nil)) ?_,rfl,q⟩
 rw[List.length_append,List.length_singleton];omega
def qN:V->List V->Hp->VK->Prop:=fun x vs H Q=>∃ l b xs zs,x = .ref l/\vs = [.ref b]/\H l=some (.lst xs)/\H b=some (.lst zs)/\xs.length+zs.length<=sizeLine/\Q .non (upd H l (.lst (xs++zs)))
theorem DH:MtM X "list.extend" qN:=by
 intro gV s σ H x vs v us Q I rx rv h;obtain⟨l,b,xs,zs,rfl,rfl,hH,hB,hz,q⟩:=h;cases rx;obtain⟨u,rfl,ru⟩:=rv.one;cases ru;obtain⟨z,its,n,r,hl,e⟩:=I.DJ hH;obtain⟨z2,cc,n2,r2,hl2,e2⟩:=I.DJ hB;have hsz:its.toArray.size+cc.toArray.size<=sizeLine:=by rw[List.size_toArray,List.size_toArray];omega
 have Ss:¬(!its.toArray.isEmpty&&Builtin.List.listTooLong (its.toArray.size+cc.toArray.size))=true:=by
  rw[GQ hsz,Bool.and_false];exact Bool.false_ne_true
 refine call_meets F.slot_list_extend ⟨_,e,rfl⟩ F.entry_list_extend (F.args_list_extend_2 _ _)
  (AutoSeq1.list_extend_list_list_0 l its.toArray n b cc.toArray n2 Ss (by rw[List.size_toArray];omega) (by omega)) ⟨e,e2,?_⟩
 refine⟨.non,_,I.Pa (its':=its++cc) hH e (by simp) (r.append r2) ?_,rfl,q⟩
 rw[List.length_append];omega
def N7:V->List V->Hp->VK->Prop:=fun x vs H Q=>∃ l xs y,x = .ref l/\vs = []/\H l=some (.lst xs)/\xs[xs.length - 1]? = some y/\Q y (upd H l (.lst xs.dropLast))
theorem GV:MtM X "list.pop" N7:=by
 intro gV s σ H x vs v us Q I rx rv h;obtain⟨l,xs,y,rfl,rfl,hH,hy,q⟩:=h;cases rx;have hus:=rv.zero;subst hus;obtain⟨z,its,n,r,hl,e⟩:=I.DJ hH;obtain⟨u,hu,ru⟩:=r.get hy;have hy':its.toArray[its.toArray.size - 1]? = some u:=by
  show its.toArray[its.length - 1]? = some u;rw[<- Array.getElem?_toList,<- hl];exact hu
 refine call_meets F.slot_list_pop ⟨_,e,rfl⟩ F.entry_list_pop (F.args_list_pop_1 _) (MeetsSeq.list_pop_last l its.toArray n u hy' (by rw[List.size_toArray];omega)) ⟨e,?_⟩
 refine⟨y,_,I.Pa (its':=its.dropLast) hH e ?_ r.dropLast ?_,ru,q⟩
 ·show its.toArray.eraseIdxIfInBounds (its.toArray.size - 1)=its.dropLast.toArray;rw[List.size_toArray,List.eraseIdxIfInBounds_toArray,AG]
 ·rw[List.length_dropLast];omega
def Ro:R2:=fun x y H Q=>∃ l b xs zs,x = .ref l/\y = .ref b/\H l=some (.lst xs)/\H b=some (.lst zs)/\xs.length+zs.length<=sizeLine/\∀ p,H p=none->Q (.ref p) (upd H p (.lst (xs++zs)))
theorem OW:OpR X (binaryOp .Add) Ro:=by
 intro gV s σ H x y v u Q I rx ry h;obtain⟨l,b,xs,zs,rfl,rfl,hH,hB,hz,q⟩:=h;cases rx;cases ry;obtain⟨z,its,n,r,hl,e⟩:=I.DJ hH;obtain⟨z2,cc,n2,r2,hl2,e2⟩:=I.DJ hB;refine PySem.P.add_list e e2 ?_ (by rw[List.size_toArray,List.size_toArray];omega)
 have ea:its.toArray++cc.toArray =(its++cc).toArray:=by simp
 rw[ea];exact⟨.ref _,_,I.Ve (t':=s.toks) (r.append r2) (by rw[List.length_append];omega),rfl,q _ I.fresh⟩
end
end L2
namespace Att
open PySem PySem.W PySem.Calls PyProof.Rows
theorem qF{P:Params}{h:Heap}:∀(ns:List Int)(vs:List Value),WellAll P h vs (ns.map WData.int)->IntsAre vs ns:=by
 intro ns
 induction ns with
 | nil =>
  intro vs w;rw[List.map_nil]at w;cases w;exact .nil
 | cons n ns ih =>
  intro vs w;rw[List.map_cons]at w;cases w with
  | cons a b =>
   cases a;exact .cons _ _ (ih _ b)
theorem Dh{l:OpenLaw}{n:Nat}(hn:l.most=some n){P:Params}{h:Heap}{args:List WData}{vals:List Value}
  (hpre:l.row.toRowW.claim.pre args=true) (hwl:WellAll P h vals args) :
  ∃ a vs ns,vals = [Value.ref a]/\args = [WData.list (ns.map WData.int)]/\h.get? a=some { cls:=.type "list",data:=.seq vs.toArray }/\IntsAre vs ns/\ns.length<=n:=by
 have hsh:WShape.hasAll [] args [.list .int]=true:=(pre_splitW hpre).1;have hc:l.pre.holds [] { args:=args }=true:=(pre_splitW hpre).2;obtain⟨d,r,rfl,h1,h2⟩:=hasAllW_cons hsh;obtain rfl:=hasAllW_nil h2;obtain⟨xs,rfl,h3⟩:=hasW_list h1;obtain⟨ns,rfl⟩:=items_int h3;have hlen:ns.length<=n:=by
  unfold OpenLaw.pre at hc;have h4:(WTm.not (.lt (.lit (.int (n:Int))) (.len (.arg 0)))).holds [] { args:=[.list (ns.map .int)] }=true:=by
   have h4:=(holds_andW hc).1;rw[hn]at h4;exact h4
  have h5:=condW_of h4 (w_not (w_lt w_lit (w_len_list (w_arg rfl))));rw[List.length_map]at h5;refine Nat.le_of_not_lt fun q=>?_
  have q':(n:Int)<((ns.length:Nat):Int):=by omega
  first
   | (rw[decide_eq_true q']at h5;exact absurd h5 (by decide))
   | (simp at h5;omega)
 cases hwl with
 | cons w1 w2 =>
  cases w2;cases w1 with
  | list ho PU=>exact⟨_,_,ns,rfl,rfl,ho,qF ns _ PU,hlen⟩
theorem Dt(l:OpenLaw)(args:List WData):l.row.toRowW.claim.post args (.bool true) args=true :=
 postW_of (r:=l.row.toRowW) (X:=(true==true))
  (show WShape.has [] (.bool true) .bool=true by first|rfl|decide|simp[WShape.has,WShape.arms,WShape.armsAll])
  (show(WTm.eq .res (.lit (.bool true))).value [] { args:=args,res:=some (.bool true),after:=args }=some (.bool (true==true))from w_eq_bool (w_res rfl) w_lit) rfl
theorem yM{l:OpenLaw}{n:Nat}{q:Program}{loose:List Str}{XP:(Str->Option Value)->Heap->Prop}{YP:World->Heap->Prop}{d:DefRec}
  (hn:l.most=some n) (hdf:d.params.defaults = [])
  (call:∀(w:World)(s₀ s₁:Shared)(mg mb:Str->Option Value)(fa:Addr)(o:Obj)(pm cd doc:Value)(a:Addr)(vs:List Value)(ns:List Int),
   Ground q loose [] XP w s₀ mg mb s₁.heap->YP w s₁.heap ->
   s₁.heap.get? fa=some o->o.data = .func (docDef d.name d.params d.body d.scope pm cd doc)->s₁.heap.CodeRec cd d.name->mg d.name=some (.ref fa) ->
   s₁.heap.get? a=some { cls:=.type "list",data:=.seq vs.toArray }->IntsAre vs ns->ns.length<=n->s₁.gens = #[] ->
   codeAny (model l.prog w) callerA (.call (.ref fa) ⟨[.ref a],[]⟩) (fun r s'=>r = .ok (.ret (.bool true))/\OldK s₁.heap s'.heap/\s'.os=s₁.os/\AllBare s'.gens) s₁) :
  WalkO q loose XP YP l.row.toRowW d [] (fun f vs=>PySem.call f vs):=by
 intro w s₀ s₁ mg mb G Y fa o pm cd doc dV kV ho hd hcd hD hmg hg args vals as hpre V3 hrd hwl hlo;obtain rfl:dV = .none:=Dflts.none hD hdf;obtain rfl:kV = .none:=Dflts.noKw hD;obtain⟨a,vs,ns,rfl,rfl,PN,hints,hlen⟩:=Dh hn hpre hwl;refine enter_call (codeAny_mono (call w s₀ s₁ mg mb fa o pm cd doc a vs ns G Y ho (fd_plain hd) hcd hmg PN hints hlen hg) fun r s' hq=>?_)
 obtain⟨rfl,h2,h3,h4⟩:=hq;exact⟨.inl ⟨.bool true,.bool true,[],rfl,fun _=>rfl,.bool true,Dt l _,fun _=>⟨List.Pairwise.nil,fun _ hm=>(nomatch hm)⟩⟩,h2,h3,h4⟩
section
variable{prog:Program}{w:World}{A:Around}{E:Value->Shared->Prop}{s:Shared}{K:Frag}
def ledger(h:Heap)(L d:Addr):List (Addr×Obj):=(List.range h.objs.size).filterMap fun a=>if a=L\/a=d then none else(h.get? a).map fun o=>(a,o)
end
end Att
namespace L2
open PySem PySem.Spec PyProof.Rows
theorem uT:∀{vs:List Value}{ns:List Int},IntsAre vs ns->Vals (ns.map V.int) vs
 | _,_,.nil=>.nil
 | _,_,.cons n t h=>.cons ⟨t,rfl⟩ (uT h)
def Mv(H:Hp):Prop:=∀ b,H b=none\/∃ o xs,H b=some (.frz o (.lst xs))
variable{mg:Str->Option Value}{a:Addr}{x:Str}
theorem G8{P:Program}{w:World}{K:W.Frag}{mb:Str->Option Value}{CX:CXT}{k:Nat}{fa:Addr}{fd:FuncData}{sp:Sp}{s₁:Shared}{vs:List Value}{ns:List Int}
  (KX:K.In s₁.heap) (hns:s₁.heap.Ns mainGlobals mg) (hb:s₁.heap.Ns builtinsNs mb) (hbb:∀ x:Str,x ≠ "__name__" -> mb x=bootBuiltins x) (Vv:s₁.heap.NoLimit) (hg:s₁.gens = #[])
  (ha:s₁.heap.get? a=some { cls:=.type "list",data:=.seq vs.toArray }) (hi:IntsAre vs ns) (hl:ns.length<=sizeLine) (hr:cb k callerA)
  (F:∀ base:Heap,K.In base->base.Ns mainGlobals mg->aU P w K mg base CX k fa fd [x] sp) (SE:∀(s:Shared)(u:Value),BindsTo s fd ⟨[u],[]⟩ [(x,u)])
  (hsp:∀ H:Hp,Mv H->SqL K H a (ns.map V.int)->sp [.ref a] H (fun v _=>v = .bl true) fun _ _ _=>False)
  (hCX:∀ H e s',CX [] H s₁ (fun _ _ _=>False) e s'->False) :
  codeAny (model P w) callerA (.call (.ref fa) ⟨[.ref a],[]⟩) (fun r s'=>r = .ok (.ret (.bool true))/\OldK s₁.heap s'.heap/\s'.os=s₁.os/\AllBare s'.gens) s₁:=by
 have rv:=uT hi;have Vf:=hi.length;have core:∀ H:Hp,Mv H->SqL K H a (ns.map V.int)->HOk P w H s₁.heap ->(∀ b,H b≠none->b=a) ->(H a≠none->K.lookup a=none) ->
   codeAny (model P w) callerA (.call (.ref fa) ⟨[.ref a],[]⟩) (fun r s'=>r = .ok (.ret (.bool true))/\OldK s₁.heap s'.heap/\s'.os=s₁.os/\AllBare s'.gens) s₁:=by
  intro H hO hS hok hA hK;have CJ:∀{b:Addr}{o:Obj},s₁.heap.get? b=some o->H b=none ->(wN s₁.heap H).get? b=some o:=fun e n=>Hs e n
  have noA:∀{b:Addr}{o:Obj}{es:Array DictEntry}{ep:Nat},s₁.heap.get? b=some o->o.data = .dict es ep->H b=none:=fun{b o es ep} e d=>by
   cases q:H b with
   | none=>rfl
   | some u =>
    have e':b=a:=hA b (by rw[q];simp)
    subst e';rw[ha]at e;cases e;have d':Data.seq vs.toArray _=Data.dict es ep:=d;cases d'
  have nsK:∀{b:Addr}{m:Str->Option Value},s₁.heap.Ns b m ->(wN s₁.heap H).Ns b m:=fun{b m} ⟨o,es,ep,e,d,r⟩=>⟨o,es,ep,CJ e (noA e d),d,r⟩
  have hKb:K.In (wN s₁.heap H):=fun b o e=>CJ (KX b o e) (by
   cases q:H b with
   | none=>rfl
   | some u =>
    have e':b=a:=hA b (by rw[q];simp)
    subst e';rw[hK (by rw[q];simp)]at e;cases e)
  have hM:Mod K mg (wN s₁.heap H):=⟨hKb,nsK hns,⟨mb,nsK hb,hbb⟩,let⟨mc,h1,h2⟩:=Vv;⟨mc,nsK h1,h2⟩⟩
  have e0:yU P w K mg (wN s₁.heap H) callerA [] s₁ H:=⟨rfl,hM,fun b o e=>Lj e,Nat.le_of_eq (DS _ _),trivial,fun b hb=>absurd (show b∈([]:List Addr)from hb) (by simp),hok,.of_eq hg⟩
  refine codeAny_mono ((F _ hKb (nsK hns)).run callerA [] s₁ H ⟨[.ref a],[]⟩ [.ref a] [.ref a] _ _ hr e0 (SE s₁ (.ref a)) (.cons rfl .nil) (hsp H hO hS)) fun r s' h=>?_
  cases r with
  | error e=>exact(hCX H e s' h).elim
  | ok fl =>
   cases fl with
   | next=>exact False.elim h
   | brk=>exact False.elim h
   | cont=>exact False.elim h
   | ret u =>
    obtain⟨v,H',os,bare,un,Vs,r',q⟩:=h;have q':v = .bl true:=q;subst q';obtain rfl:u=Value.bool true:=r';refine⟨rfl,OldK.of_keep fun b o e=>?_,os,bare⟩
    cases q:H b with
    | none=>exact un.keep b o e q (by intro z;exact absurd (show b∈([]:List Addr)from z) (by simp)) (by simp)
    | some u =>
     rcases hO b with z |⟨ob,xs,z⟩
     ·rw[q]at z;cases z
     ·have z2:=un.jP b ob _ z;obtain⟨e1,_⟩:=hok b _ z;obtain⟨e2,_⟩:=Vs b _ z2;rw[e]at e1;cases e1;exact e2
 cases hk:K.lookup a with
 | some o =>
  have e:=KX a o hk;rw[ha]at e;cases e;refine core (fun _=>none) (fun _=>.inl rfl) (.inr ⟨_,vs.toArray,_,hk,rfl,rfl,rfl,by rw[List.size_toArray,Vf];exact hl,by simpa using rv⟩) (fun b u z=>by have z':(none:Option HO)=some u:=z;cases z') (fun b z=>absurd rfl z) fun z=>absurd rfl z
 | none =>
  refine core (fun b=>if b=a then some (.frz { cls:=.type "list",data:=.seq vs.toArray } (.lst (ns.map V.int)))else none) (fun b=>?_) (.inl (.inr ⟨{ cls:=.type "list",data:=.seq vs.toArray },if_pos rfl⟩)) (fun b u z=>?_) (fun b z=>?_) fun _=>hk
  ·by_cases hb:b=a
   ·exact .inr ⟨_,_,if_pos hb⟩
   ·exact .inl (if_neg hb)
  ·by_cases hb:b=a
   ·have z':=(if_pos hb).symm.trans z;cases z';subst hb;exact⟨ha,by rw[List.length_map];exact hl,vs,_,rv,ha⟩
   ·have z':=(if_neg hb).symm.trans z;cases z'
  ·by_cases hb:b=a
   ·exact hb
   ·exact absurd (if_neg hb) z
variable{n:Nat}
theorem JH{l:W.OpenLaw}{k:Nat}{q:Program}{loose:List Str}{XP:(Str->Option Value)->Heap->Prop}{YP:World->Heap->Prop}{d:DefRec}{K:Params->W.Frag}{CX:World->CXT}{sp:World->Sp}
  (hn:l.most=some n) (hn2:n<=sizeLine) (hdf:d.params.defaults = []) (hr:cb k callerA)
  (hY:∀(w:World)(h:Heap),YP w h ->(K w.params).In h)
  (F:∀(w:World)(mg:Str->Option Value)(fa:Addr)(h:Heap),(K w.params).In h->h.Ns mainGlobals mg->mg d.name=some (.ref fa) ->
   ∃ fd:FuncData,(∀(s:Shared)(u:Value),BindsTo s fd ⟨[u],[]⟩ [(x,u)]) /\
    ∀ base:Heap,(K w.params).In base->base.Ns mainGlobals mg->aU l.prog w (K w.params) mg base (CX w) k fa fd [x] (sp w))
  (hsp:∀(w:World)(H:Hp)(a:Addr)(ns:List Int),ns.length<=n->Mv H->SqL (K w.params) H a (ns.map V.int)->sp w [.ref a] H (fun v _=>v = .bl true) fun _ _ _=>False)
  (hCX:∀(w:World)(H:Hp)(s:Shared)(e:Value)(s':Shared),CX w [] H s (fun _ _ _=>False) e s'->False) :
  W.WalkO q loose XP YP l.row.toRowW d [] (fun f vs=>PySem.call f vs):=by
 refine Att.yM hn hdf fun w s₀ s₁ mg mb fa o pm cd doc a vs ns G Y ho hd hcd hmg PN hints hlen hg=>?_
 have KX:=hY w _ Y;obtain⟨fd,hb,hF⟩:=F w mg fa _ KX G.T.g hmg;exact G8 KX G.T.g G.T.b G.T.builtins G.T.nolimit hg PN hints (Nat.le_trans hlen hn2) hr hF hb (fun H hO hS=>hsp w H a ns hlen hO hS) fun H e s'=>hCX w H s₁ e s'
def inClass(s:Stmt)(j:Nat):Stmt:=match s with
 | .ClassDef _ _ _ body _ _ _ _ _ _ _=>body.getD j (.Pass ⟨0,0,0,0⟩)
 | _=>.Pass ⟨0,0,0,0⟩
def dm(s:Stmt):Arguments:=match s with
 | .FunctionDef _ a _ _ _ _ _ _ _ _=>a
 | _=>{ posonlyargs:=[],args:=[],vararg:=none,kwonlyargs:=[],kw_defaults:=[],kwarg:=none,defaults:=[] }
def bA(s:Stmt):List Stmt:=match s with
 | .FunctionDef _ _ b _ _ _ _ _ _ _=>b
 | _=>[]
def au(s:Stmt):Scope:=match s with
 | .FunctionDef _ _ _ _ _ _ sc _ _ _=>sc
 | _=>{ kind:=.function,names:=[],isGenerator:=false,isCoroutine:=false }
abbrev CX0:CXT:=fun _ _ _ _ _ _=>False
abbrev E0:XK:=fun _ _ _=>False
variable{X:Cx}
theorem BQ:Passes CX0 X E0:=fun _ _ _ _ _ _ _ h=>h.elim
structure Fun(K:W.Frag)(x qual:Str)(st:Stmt)(f:Addr)(fd:FuncData):Prop where
 ex:∃(oc:Value)(od:Option Addr)(kV doc pm:Value)(an:Option Addr)(cdv ct:Value)(osl:Array (Option Value)),
  fd=W.fnOf x qual (dm st) (bA st) (au st) .none kV doc pm an cdv ct/\K.lookup f=some ⟨oc,od,.func fd,osl⟩/\W.codeIn K cdv qual=true
 kp:W.keepIn K (.ref f)=true
variable{qual:Str}{st:Stmt}{fd:FuncData}{N:List Str}{ps:List Str}{sp:Sp}{oc:Value}{od:Option Addr}{an:Option Addr}{pm:Value}{ct:Value}
section
variable{P:Program}{w:World}{K:W.Frag}{base:Heap}
theorem Fun.ok{f:Addr}{k:Nat}(F:Fun K x qual st f fd)(S:aH N ps (au st))(len:∀ vs H Q E,sp vs H Q E->vs.length=ps.length)
  (fE:∀(cdv:Value)(A:Around)(outer:List Env)(s:Shared)(H:Hp)(vs:List V)(Q:VK)(E:XK),cb k (A.deeper (envOfC qual (au st) s.heap.objs.size f cdv))->sp vs H Q E ->
   ∃ t,PSs (ma CX0 P w K mg base N qual (au st) f cdv A outer s H E).nox (bA st) t/\t { nx:=fun _ H'=>Q .non H',rt:=Q } (start N vs) H):aU P w K mg base CX0 (k+1) f fd ps sp:=by
 obtain⟨oc,od,kV,doc,pm,an,cdv,ct,osl,rfl,lk,hcd⟩:=F.ex;refine Nk lk hcd S len fun A outer s H vs Q E hr hsp=>?_
 obtain⟨t,h,q⟩:=fE cdv A outer s H vs Q E hr hsp;exact⟨t,h.nox,q⟩
theorem Fun.binds{f:Addr}(F:Fun K x qual st f fd)
  (h:∀(kV doc pm:Value)(an:Option Addr)(cdv ct:Value)(us:List Value),us.length=ps.length->bindArgs (W.fnOf x qual (dm st) (bA st) (au st) .none kV doc pm an cdv ct) ⟨us,[]⟩=pure (ps.zip us)):Binds K fd ps []:=by
 obtain⟨oc,od,kV,doc,pm,an,cdv,ct,osl,rfl,lk,hcd⟩:=F.ex;exact .all (h kV doc pm an cdv ct)
theorem aV{f:Addr}{osl:Array (Option Value)}{kV doc cdv:Value}(l:K.lookup f=some ⟨oc,od,.func (W.fnOf x qual (dm st) (bA st) (au st) .none kV doc pm an cdv ct),osl⟩)
  (c:W.codeIn K cdv qual=true) (k:W.keepIn K (.ref f)=true):Fun K x qual st f (W.fnOf x qual (dm st) (bA st) (au st) .none kV doc pm an cdv ct):=⟨⟨oc,od,kV,doc,pm,an,cdv,ct,osl,rfl,l,c⟩,k⟩
end
variable{A:Around}
theorem bJ{k:Nat}(hr:cb k A):A.units+1<cLine:=Nat.lt_of_le_of_lt (Nat.add_le_add_left (by decide:1<=64) _) hr.units
theorem aA(h:n<=1000):n<sizeLine:=Nat.lt_of_le_of_lt h (by decide)
section
theorem pv(i:Nat){pos:Pos}(hN:X.N[i]? = some x:=by rfl)(hv:Vis X.env.scope x:=by first|exact Or.inl rfl|exact Or.inr (Or.inl rfl)|exact Or.inr (Or.inr rfl))(hd:(x ==("__debug__":Str))=false:=by decide)
  (hcd:(x ==("__classdict__":Str))=false:=by decide):PE X (.Name x pos) (b7 i):=Gu hN hv hd hcd
end
theorem Vl{A B:Prop}(h:B):if false=true then A else B:=by
 rw[if_neg Bool.false_ne_true];exact h
theorem aJ{c A B:Prop}[Decidable c](h1:c->A)(h2:¬ c->B):if c then A else B:=by
 by_cases h:c
 ·rw[if_pos h];exact h1 h
 ·rw[if_neg h];exact h2 h
def mj(H H':Hp):Prop:=∀ b o,H b=some o->H' b=some o
theorem mj.refl(H:Hp):mj H H:=fun _ _ h=>h
variable{H:Hp}{H':Hp}{l:Addr}
theorem mj.free(e:mj H H')(h:H' l=Option.none):H l=Option.none:=by
 cases q:H l with
 | none=>rfl
 | some o =>
  rw[e l o q]at h;cases h
variable{y:V}{u:Value}
section
variable{κ:Type}[DecidableEq κ]
def d9(kvs:List (κ×V))(k:κ):Option V:=(kvs.find? fun kv=>decide (kv.1=k)).map (·.2)
def putK(kvs:List (κ×V))(k:κ)(v:V):List (κ×V) :=
 if(kvs.any fun kv=>decide (kv.1=k))=true then kvs.map (fun kv=>if kv.1=k then(kv.1,v)else kv)else kvs ++ [(k,v)]
theorem rC{p:κ×V}{r:List (κ×V)}{k:κ}(e:p.1=k):d9 (p::r) k=some p.2:=by simp[d9,List.find?_cons,e]
theorem rD{p:κ×V}{r:List (κ×V)}{k:κ}(e:¬ p.1=k):d9 (p::r) k=d9 r k:=by simp[d9,List.find?_cons,e]
theorem xE(k:κ):∀ kvs:List (κ×V),(kvs.any fun kv=>decide (kv.1=k)) =(d9 kvs k).isSome
 | []=>rfl
 | p::r=>by
  rw[List.any_cons];by_cases e:p.1=k
  ·simp only[rC e,decide_eq_true e,Bool.true_or,Option.isSome_some]
  ·rw[rD e,decide_eq_false e,Bool.false_or];exact xE k r
theorem jB(kvs:List (κ×V))(k:κ)(v:V):(putK kvs k v).length<=kvs.length+1:=by
 unfold putK
 split
 ·rw[List.length_map];omega
 ·rw[List.length_append,List.length_cons,List.length_nil];omega
theorem gW.gI{o:Option V}{u:Option Value}(r:gW o u):o.isSome=u.isSome:=by
 cases o with
 | none=>cases u with
  | none=>rfl
  | some _=>exact(show False from r).elim
 | some _=>cases u with
  | none=>exact(show False from r).elim
  | some _=>rfl
theorem gW.getD{o:Option V}{u:Option Value}{d:V}{d':Value}(r:gW o u)(rd:RelV d d'):RelV (o.getD d) (u.getD d'):=by
 cases o with
 | none=>cases u with
  | none=>exact rd
  | some _=>exact(show False from r).elim
 | some _=>cases u with
  | none=>exact(show False from r).elim
  | some _=>exact r
theorem KV.val{kvs:List (κ×V)}{vs:List (κ×Value)}(r:KV kvs vs)(k:κ):gW (d9 kvs k) (valueAt vs k):=by
 unfold KV at r
 induction r with
 | nil=>exact True.intro
 | @cons p q ps qs h t ih =>
  obtain⟨h1,h2⟩:=h;by_cases e:p.1=k
  ·have e':q.1=k:=h1.symm.trans e;have b:valueAt (q::qs) k=some q.2:=by simp[valueAt,List.find?_cons,e']
   rw[rC e,b];exact h2
  ·have e':¬ q.1=k:=fun z=>e (h1.trans z)
   have b:valueAt (q::qs) k=valueAt qs k:=by simp[valueAt,List.find?_cons,e']
   rw[rD e,b];exact ih
theorem KV.any{kvs:List (κ×V)}{vs:List (κ×Value)}(r:KV kvs vs)(k:κ):(kvs.any fun kv=>decide (kv.1=k))=vs.any fun kv=>decide (kv.1=k):=by
 unfold KV at r
 induction r with
 | nil=>rfl
 | cons h t ih=>rw[List.any_cons,List.any_cons,ih,h.1]
theorem KV.N5{kvs:List (κ×V)}{vs:List (κ×Value)}(r:KV kvs vs)(k:κ)(ry:RelV y u) :
  KV (kvs.map fun kv=>if kv.1=k then(kv.1,y)else kv) (vs.map fun kv=>if kv.1=k then(kv.1,u)else kv):=by
 unfold KV at r ⊢
 induction r with
 | nil=>exact .nil
 | @cons p q ps qs h t ih =>
  rw[List.map_cons,List.map_cons];refine .cons ?_ ih;obtain⟨h1,h2⟩:=h;by_cases e:p.1=k
  ·rw[if_pos e,if_pos (h1.symm.trans e)];exact⟨h1,ry⟩
  ·rw[if_neg e,if_neg (fun z=>e (h1.trans z))];exact⟨h1,h2⟩
theorem KV.put{kvs:List (κ×V)}{vs:List (κ×Value)}(r:KV kvs vs)(k:κ)(ry:RelV y u):KV (putK kvs k y) (stored vs k u):=by
 unfold putK stored;rw[r.any k];by_cases e:(vs.any fun kv=>decide (kv.1=k))=true
 ·rw[if_pos e,if_pos e];exact r.N5 k ry
 ·rw[if_neg e,if_neg e];exact Paired.snoc r ⟨rfl,ry⟩
theorem KV.length{kvs:List (κ×V)}{vs:List (κ×Value)}(r:KV kvs vs):kvs.length=vs.length:=Paired.length r
end
variable{P:Program}
theorem nc{w:World}{k:Key}(r:RelV (kV k) u):(bp P w).is k u=true:=by
 cases k with
 | inl i=>obtain⟨t,e⟩:=(show ∃ t,u=Value.int i t from r);subst e;exact yh P w i t
 | inr x=>obtain⟨t,e⟩:=(show ∃ t,u=Value.str x t from r);subst e;exact yg P w x t
theorem vd{P:Program}{w:World}:∀{ks:List Key}{us:List Value},Vals (ks.map kV) us->ItemsAre (bp P w) ks us
 | [],_,r=>by rw[List.map_nil]at r;cases r;exact .nil
 | k::ks,_,r=>by
  rw[List.map_cons]at r;cases r with
  | cons h t=>exact .cons (nc h) (vd t)
abbrev KT(H:Hp):List (List Key×V)->List (List Key×Addr×Value)->Prop:=Paired fun p q=>p.1=q.1/\H q.2.1=some (.tup (p.1.map kV))/\RelV p.2 q.2.2
theorem KT.val{kvs:List (List Key×V)}{xs:List (List Key×Addr×Value)}(r:KT H kvs xs)(k:List Key):gW (d9 kvs k) ((atKey xs k).map (·.2)):=by
 induction r with
 | nil=>exact True.intro
 | @cons p q ps qs h t ih =>
  obtain⟨h1,_,h2⟩:=h;by_cases e:p.1=k
  ·have e':q.1=k:=h1.symm.trans e;have b:atKey (q::qs) k=some q.2:=by simp[atKey,List.find?_cons,e']
   rw[rC e,b];exact h2
  ·have e':¬ q.1=k:=fun z=>e (h1.trans z)
   have b:atKey (q::qs) k=atKey qs k:=by simp[atKey,List.find?_cons,e']
   rw[rD e,b];exact ih
theorem KT.N5{kvs:List (List Key×V)}{xs:List (List Key×Addr×Value)}(r:KT H kvs xs)(k:List Key)(ry:RelV y u) :
  KT H (kvs.map fun kv=>if kv.1=k then(kv.1,y)else kv) (xs.map (putAt k u)):=by
 induction r with
 | nil=>exact .nil
 | @cons p q ps qs h t ih =>
  rw[List.map_cons,List.map_cons];refine .cons ?_ ih;obtain⟨h1,h2,h3⟩:=h;unfold putAt;by_cases e:p.1=k
  ·rw[if_pos e,if_pos (h1.symm.trans e)];exact⟨h1,h2,ry⟩
  ·rw[if_neg e,if_neg (fun z=>e (h1.trans z))];exact⟨h1,h2,h3⟩
theorem KT.put{kvs:List (List Key×V)}{xs:List (List Key×Addr×Value)}(r:KT H kvs xs)(k:List Key){b:Addr}(hb:H b=some (.tup (k.map kV)))(ry:RelV y u) :
  KT H (putK kvs k y) (storedH xs k b u):=by
 have e:(kvs.any fun kv=>decide (kv.1=k)) =(atKey xs k).isSome:=by
  rw[xE,(r.val k).gI,Option.isSome_map]
 unfold putK storedH;rw[e];by_cases q:(atKey xs k).isSome=true
 ·rw[if_pos q,if_pos q];exact r.N5 k ry
 ·rw[if_neg q,if_neg q];exact Paired.snoc r ⟨rfl,hb,ry⟩
theorem KT.keeps{kvs:List (List Key×V)}{xs:List (List Key×Addr×Value)}(r:KT H kvs xs)(ht:∀ b ys,H b=some (.tup ys)->H' b=some (.tup ys)):KT H' kvs xs :=
 Paired.O8 r fun _ _ z=>⟨z.1,ht _ _ z.2.1,z.2.2⟩
variable{kvs:List (Key×V)}
section
variable{w:World}{h:Heap}
theorem MG{u:HO}(ok:HOk P w H h)(e:Rd H a u):aW P w H h a u:=e.ok ok
theorem kL(ok:HOk P w H h)(e:Rd H a (.dK kvs)):kvs.length<=sizeLine/\(a==sysModules)=false/\∃ vs,KV kvs vs/\h.DictOf (bp P w) a vs :=
 show aW P w H h a (.dK kvs)from MG ok e
theorem Nl(ok:HOk P w H h)(e:H a=some (.dK kvs)):kvs.length<=sizeLine/\(a==sysModules)=false/\∃ vs,KV kvs vs/\h.DictOf (bp P w) a vs:=kL ok (.inl e)
theorem oQ{ks:List Key}(ok:HOk P w H h)(e:H a=some (.tup (ks.map kV))):(tupleKind (bp P w)).is h ks a:=by
 obtain⟨_,its,r,⟨o,h1,h2,n,h3⟩,_⟩:=(show aW P w H h a (.tup (ks.map kV))from ok a _ e);exact⟨o,its.toArray,n,h1,h2,h3,by simpa using vd r⟩
theorem tu{kvs:List (List Key×V)}(ok:HOk P w H h)(e:Rd H a (.dT kvs)):kvs.length<=sizeLine/\(a==sysModules)=false /\
  ∃ xs,KT H kvs xs/\h.DictOfH (tupleKind (bp P w)) a xs:=by
 obtain⟨z,y,xs,r,o,es,ep,h1,h2,h3,h4,h5⟩:=(show aW P w H h a (.dT kvs)from MG ok e);refine⟨z,y,xs,r,o,es,ep,h1,h2,h3,h4,fun x hx=>?_,h5⟩
 have all:∀{l:List (List Key×V)}{m:List (List Key×Addr×Value)},KT H l m->∀ x∈m,(tupleKind (bp P w)).is h x.1 x.2.1:=by
  intro l m q
  induction q with
  | nil=>intro x hx;exact nomatch hx
  | @cons p q ps qs hq t ih =>
   intro x hx;rcases List.mem_cons.mp hx with e|hx
   ·subst e;exact oQ ok (by rw[<- hq.1];exact hq.2.1)
   ·exact ih x hx
 exact all r x hx
theorem SN{kvs:List (List Key×V)}(ok:HOk P w H h)(e:H a=some (.dT kvs)):kvs.length<=sizeLine/\(a==sysModules)=false /\
  ∃ xs,KT H kvs xs/\h.DictOfH (tupleKind (bp P w)) a xs:=tu ok (.inl e)
end
def g9(H:Hp)(a:Addr)(y:V)(r:Option V):Prop :=
 (∃ kvs k,Rd H a (.dK kvs)/\y=kV k/\r=d9 kvs k)\/∃ kvs k b,Rd H a (.dT kvs)/\y = .ref b/\H b=some (.tup (k.map kV))/\r=d9 kvs k
def xA(H:Hp)(a:Addr)(y v:V)(H':Hp):Prop :=
 (∃ kvs k,H a=some (.dK kvs)/\y=kV k/\kvs.length<sizeLine/\H'=upd H a (.dK (putK kvs k v))) \/
 ∃ kvs k b,H a=some (.dT kvs)/\y = .ref b/\H b=some (.tup (k.map kV))/\kvs.length<sizeLine/\H'=upd H a (.dT (putK kvs k v))
theorem g9.k{H:Hp}{a:Addr}{kvs:List (Key×V)}{k:Key}(e:H a=some (.dK kvs)):g9 H a (kV k) (d9 kvs k):=.inl ⟨kvs,k,.inl e,rfl,rfl⟩
theorem xA.k{H:Hp}{a:Addr}{kvs:List (Key×V)}{k:Key}{v:V}(e:H a=some (.dK kvs))(hl:kvs.length<sizeLine):xA H a (kV k) v (upd H a (.dK (putK kvs k v))):=.inl ⟨kvs,k,e,rfl,hl,rfl⟩
variable{Q:Value->Shared->Prop}{h':Heap}{t':Nat}
section
variable{gV:List (Addr×Obj)}{σ:St}{s:Shared}{v:V}{r:Value}{o:Option V}{E:Value->Shared->Prop}
theorem Inv.big(I:Inv X gV σ H s):sysModules<s.heap.objs.size:=by
 have h:mainGlobals<s.heap.objs.size:=(I.mod.glob.keeps I.bk).lt;exact Nat.lt_trans (by decide) h
theorem D4(hu:A.units+1<cLine)(I:Inv X gV σ H s)(g:g9 H a y (some v))(ry:RelV y u)(h:∀ w' s',Inv X gV σ H s'->RelV v w'->Q w' s') :
  wpAny (model X.prog X.w) A (getItem (.ref a) u) Q E s:=by
 rcases g with⟨kvs,k,e,ey,l⟩ |⟨kvs,k,b,e,ey,eb,l⟩
 ·subst ey;obtain⟨z,hd,vs,rel,dd⟩:=kL I.hok e;obtain⟨w',hw,rw'⟩:=gW.some_of (v:=v) (o:=valueAt vs k) (by rw[l];exact rel.val k)
  exact wpAny_getItem_of (nc ry) dd.mapOf hw (h w' _ (I.tok _) rw')
 ·subst ey
  cases(show u=Value.ref b from ry)
  obtain⟨z,hd,xs,rel,dd⟩:=tu I.hok e;obtain⟨w',hw,rw'⟩:=gW.some_of (v:=v) (o:=(atKey xs k).map (·.2)) (by rw[l];exact rel.val k)
  obtain⟨p,hp,hp2⟩:=Option.map_eq_some_iff.mp hw;refine wpAny_getItem_heap (tupleKind_room_in1 hu) (oQ I.hok eb) dd hp ?_;rw[hp2];exact h w' _ (I.tok _) rw'
theorem VJ(hu:A.units+1<cLine)(I:Inv X gV σ H s)(g:g9 H a y o)(ry:RelV y u)(h:∀ s',Inv X gV σ H s'->Q (.bool o.isSome) s') :
  wpAny (model X.prog X.w) A (compareOp .In u (.ref a)) Q E s:=by
 rcases g with⟨kvs,k,e,ey,l⟩ |⟨kvs,k,b,e,ey,eb,l⟩
 ·subst ey;obtain⟨z,hd,vs,rel,dd⟩:=kL I.hok e;refine wpAny_in_of (nc ry) hd dd.mapOf ?_;rw[<- (rel.val k).gI,<- l];exact h _ (I.tok _)
 ·subst ey
  cases(show u=Value.ref b from ry)
  obtain⟨z,hd,xs,rel,dd⟩:=tu I.hok e;refine wpAny_in_heap (tupleKind_room_in1 hu) (oQ I.hok eb) hd dd ?_;have q:=(rel.val k).gI;rw[Option.isSome_map]at q;rw[<- q,<- l];exact h _ (I.tok _)
theorem L5(hu:A.units+1<cLine)(I:Inv X gV σ H s)(g:g9 H a y o)(ry:RelV y u)(h:∀ s',Inv X gV σ H s'->Q (.bool (!o.isSome)) s') :
  wpAny (model X.prog X.w) A (compareOp .NotIn u (.ref a)) Q E s:=by
 rcases g with⟨kvs,k,e,ey,l⟩ |⟨kvs,k,b,e,ey,eb,l⟩
 ·subst ey;obtain⟨z,hd,vs,rel,dd⟩:=kL I.hok e;refine wpAny_notIn_of (nc ry) hd dd.mapOf ?_;rw[<- (rel.val k).gI,<- l];exact h _ (I.tok _)
 ·subst ey
  cases(show u=Value.ref b from ry)
  obtain⟨z,hd,xs,rel,dd⟩:=tu I.hok e;refine wpAny_notIn_heap (tupleKind_room_in1 hu) (oQ I.hok eb) hd dd ?_;have q:=(rel.val k).gI;rw[Option.isSome_map]at q;rw[<- q,<- l];exact h _ (I.tok _)
theorem w5{ob:HO}(I:Inv X gV σ H s)(mu:Mut (H a))(hs:Heap.SameBut a s.heap h')(he:∃ q,h'.get? a=some q)(new:aW X.prog X.w (upd H a ob) h' a ob) :
  Inv X gV σ (upd H a ob) { s with heap:=h',toks:=t' } :=
 I.write (x:=a) (e:=a) mu (.inl rfl) (fun b q hb z=>(hs.2 b hb).trans z) he new
theorem wZ{w:World}{vs:List (Key×Value)}(z:kvs.length<=sizeLine)(hd:(a==sysModules)=false)(rel:KV kvs vs)(dd:h'.DictOf (bp P w) a vs) :
  aW P w H' h' a (.dK kvs):=⟨z,hd,vs,rel,dd⟩
theorem D3{Q:Unit->Shared->Prop}(hu:A.units+1<cLine)(I:Inv X gV σ H s)(g:xA H a y v H')(ry:RelV y u)(rv:RelV v r)(h:∀ s',Inv X gV σ H' s'->Q () s') :
  wpAny (model X.prog X.w) A (setItem (.ref a) u r) Q E s:=by
 rcases g with⟨kvs,k,e,ey,l,eH⟩ |⟨kvs,k,b,e,ey,eb,l,eH⟩
 ·subst ey eH;obtain⟨z,hd,vs,rel,dd⟩:=Nl I.hok e;have hz:vs.length<=sizeLine:=by rw[<- rel.length];exact z
  have hl:(putK kvs k v).length<=sizeLine:=by have:=jB kvs k v;omega
  refine wpAny_setItem_pairs (hsz:=hz) (nc ry) dd fun h' dd' hs=>h _ ?_
  have he:∃ q,h'.get? a=some q:=let⟨q,_,_,hq,_⟩:=dd';⟨q,hq⟩
  exact w5 I (by rw[e];exact True.intro) hs he (wZ hl hd (rel.put k rv) dd')
 ·subst ey eH
  cases(show u=Value.ref b from ry)
  obtain⟨z,hd,xs,rel,dd⟩:=SN I.hok e;have hz:xs.length<=sizeLine:=by rw[<- Paired.length rel];exact z
  have hl:(putK kvs k v).length<=sizeLine:=by have:=jB kvs k v;omega
  refine wpAny_setItem_heap (hsz:=hz) (tupleKind_room_in1 hu) (oQ I.hok eb) dd fun h' dd' hs=>h _ ?_
  obtain⟨q,es,ep,hq,h2,h3,h4,_,h5⟩:=dd';refine w5 I (by rw[e];exact True.intro) hs ⟨q,hq⟩ ⟨hl,hd,_,(rel.put k eb rv).keeps fun c ys ec=>?_,q,es,ep,hq,h2,h3,h4,h5⟩
  rw[ai (i6 ec e (fun z=>nomatch z))]
  exact ec
end
section
variable{gV:List (Addr×Obj)}{σ:St}{s:Shared}{k:Key}{E:Value->Shared->Prop}
theorem SU(I:Inv X gV σ H s)(e:Rd H a (.dK kvs))(h:∀ t s',Inv X gV σ H s'->Q (.int kvs.length t) s'):wpAny (model X.prog X.w) A (call (.builtin "len") [.ref a]) Q E s:=by
 obtain⟨z,hd,vs,rel,dd⟩:=kL I.hok e;refine call_len_dict hd dd (by rw[<- rel.length];rw[sizeLine_eq]at z;omega) ?_
 rw[<- rel.length];exact h _ _ (I.tok _)
end
def To(i:Expr):Prop:=∀ ov iv,subscripted i false ov iv=operate [ov,iv] (getItem ov iv)
variable{prog:Program}{E:Value->Shared->Prop}{env:Env}{value:Expr}{id:String}
theorem JO{w:World}{s:Shared}{slice:Expr}{pos:Pos}{T:String}
  (hl:typeLookup (.type T) "__getitem__" = pure (some (.builtin id))) (hs:To slice)
  (h:wpAny (model prog w) A (eval value env) (fun o s₁=>wpAny (model prog w) A (eval slice env) (fun i s₂=>s₂.TypeIs o T/\wpAny (model prog w) A (getItem o i) Q E s₂) E s₁) E s) :
  wpAny (model prog w) A (eval (.Subscript value slice pos) env) Q E s:=by
 refine Subscript_ (wpAny_mono h (fun o s₁ h₁=>wpAny_mono h₁ (fun i s₂ h₂=>?_) fun _ _ x=>x) fun _ _ x=>x)
 obtain⟨hT,h₂⟩:=h₂;unfold subscriptTail;refine wpAny_bind ?_;rw[getitemInPython_of_ne hT.not_modules];refine wpAny_bind (wpAny_specialOf hT hl ?_);have fin:wpAny (model prog w) A (subscripted slice false o i) (fun r s₃=>wpAny (model prog w) A (letTemporaryGo value o r >>= fun _=>pure r) Q E s₃) E s₂:=by
  rw[hs o i];exact wpAny_operating (wpAny_mono h₂ (fun r s₃ h₃=>wpAny_bind (wpAny_letTemporaryGo (wpAny_pure h₃))) fun _ _ x=>x)
 first
  | exact wpAny_pure (wpAny_bind fin)
  | exact wpAny_bind (wpAny_pure (wpAny_bind fin))
  | exact wpAny_bind fin
variable{gV:List (Addr×Obj)}
theorem yC{σ:St}{s:Shared}{o:Option V}(I:Inv X gV σ H s)(g:g9 H a y o):s.TypeIs (.ref a) "dict":=by
 rcases g with⟨kvs,k,e,_,_⟩ |⟨kvs,k,b,e,_,_,_⟩
 ·obtain⟨_,_,vs,_,dd⟩:=kL I.hok e;exact dd.typeIs
 ·obtain⟨_,_,xs,_,dd⟩:=tu I.hok e;exact dd.typeIs
def QZ(td ty:TE):TE:=fun σ H Q=>td σ H fun x H1=>ty σ H1 fun y H2=>∃ a v,x = .ref a/\g9 H2 a y (some v)/\Q v H2
def Fu(td ty tv:TE):TS:=fun D σ H=>tv σ H fun v H1=>td σ H1 fun x H2=>ty σ H2 fun y H3=>∃ a H4,x = .ref a/\xA H3 a y v H4/\D.nx σ H4
section
variable{o i e:Expr}{pos pos' UU:Pos}{td ty tv:TE}
theorem iA(hu:X.A.units+1<cLine)(ho:PE X o td)(hi:PE X i ty)(hs:To i):PE X (.Subscript o i pos) (QZ td ty):=by
 intro gV s σ H Q I h;refine JO PySem.F.slot_dict_getitem.lookup hs (thn (ho gV s σ H _ I h) fun u s1 ⟨x,H1,I1,rx,q1⟩=>thn (hi gV s1 σ H1 _ I1 q1) fun iv s2 hPP=>?_)
 obtain⟨y,H2,I2,ry,a,v,ex,g,q2⟩:=hPP;subst ex;obtain rfl:u=Value.ref a:=rx;exact⟨yC I2 g,D4 hu I2 g ry fun w' s3 I3 rw'=>⟨v,H2,I3,rw',q2⟩⟩
theorem qR(hu:X.A.units+1<cLine)(ho:PE X o td)(hi:PE X i ty)(hv:PE X value tv)(hs:swapsWith value (some (.Subscript o i pos')) pos.line X.env=pure false) :
  PS X (.Assign [.Subscript o i pos'] value pos) (Fu td ty tv):=by
 intro gV s σ H D I h;refine wpAny_Assign_Subscript (thn (hv gV s σ H _ I h) fun r s1 ⟨v,H1,I1,rv,q1⟩=>thn (ho gV s1 σ H1 _ I1 q1) fun u s2 ⟨x,H2,I2,rx,q2⟩=>thn (hi gV s2 σ H2 _ I2 q2) fun iv s3 hPP=>?_) hs
 obtain⟨y,H3,I3,ry,a,H4,ex,g,q3⟩:=hPP;subst ex;obtain rfl:u=Value.ref a:=rx;exact D3 hu I3 g ry rv fun s4 I4=>⟨σ,H4,I4,q3⟩
end
theorem yB{w:World}(h:Heap)(hb:sysModules<h.objs.size):aW P w H (h.push { cls:=.type "dict",data:=.dict #[] }) h.objs.size (.dK []) :=
 ⟨Nat.zero_le _,beq_eq_false_iff_ne.mpr (Ne.symm (Nat.ne_of_lt hb)),[],.nil,Heap.DictOf.new h⟩
def EU:TE:=fun _ H Q=>∀ p,H p=none->Q (.ref p) (upd H p (.dK []))
section
variable{pos:Pos}
theorem Gy:PE X (.Dict [] [] pos) EU:=fun gV s σ H Q I h =>
 wpAny_Dict_empty ⟨.ref s.heap.objs.size,_,I.laid (a:=s.heap.objs.size) (o:=.dK []) (t':=s.toks) (fun _ _ q=>Heap.get?_push_of_some _ q) (Nat.le_refl _) (yB s.heap I.big),rfl,h _ (I.hok.fresh (Nat.le_refl _))⟩
end
def za:List (TE×TE)->St->Hp ->(List (V×V)->Hp->Prop)->Prop
 | [],_,H,Q=>Q [] H
 | (tk,tv)::r,σ,H,Q=>tk σ H fun x H1=>tv σ H1 fun y H2=>za r σ H2 fun ps H3=>Q ((x,y)::ps) H3
abbrev VV:List (V×V)->List (Value×Value)->Prop:=Paired fun p q=>RelV p.1 q.1/\RelV p.2 q.2
def PPs(X:Cx)(pos:Pos)(keys:List (Option Expr))(values:List Expr)(trs:List (TE×TE)):Prop :=
 ∀(gV:List (Addr×Obj))(s:Shared)(σ:St)(H:Hp)(Q:List (V×V)->Hp->Prop),Inv X gV σ H s->za trs σ H Q ->
  wpAny (model X.prog X.w) X.A (evalPairs (pairTrees keys values X.env pos)) (fun vs s'=>∃ ps H',Inv X gV σ H' s'/\VV ps vs/\Q ps H') X.xe s
theorem KQ{pos:Pos}:PPs X pos [] [] []:=fun gV s σ H Q I h=>pairTrees_nil_walk ⟨[],H,I,.nil,h⟩
variable{tk:TE}{tv:TE}
theorem sg{pos:Pos}{k v:Expr}{ks:List (Option Expr)}{vs:List Expr}{trs:List (TE×TE)}(hk:PE X k tk)(hv:PE X v tv)(hr:PPs X pos ks vs trs) :
  PPs X pos (some k::ks) (v::vs) ((tk,tv)::trs):=fun gV s σ H Q I h =>
 pairTrees_cons_walk (thn (hk gV s σ H _ I h) fun u s1 ⟨x,H1,I1,rx,q1⟩=>thn (hv gV s1 σ H1 _ I1 q1) fun w2 s2 ⟨y,H2,I2,ry,q2⟩ =>
  thn (hr gV s2 σ H2 _ I2 q2) fun ws s3 ⟨ps,H3,I3,rel,q3⟩=>⟨(x,y)::ps,H3,I3,.cons ⟨rx,ry⟩ rel,q3⟩)
def eC(kvs more:List (Key×V)):List (Key×V):=more.foldl (fun acc kv=>putK acc kv.1 kv.2) kvs
theorem KV.merge:∀{more:List (Key×V)}{rs:List (Key×Value)}{kvs:List (Key×V)}{vs:List (Key×Value)},KV more rs->KV kvs vs->KV (eC kvs more) (merged vs rs):=by
 intro more rs kvs vs r;unfold KV at r
 induction r generalizing kvs vs with
 | nil=>intro q;exact q
 | @cons p q ps qs h t ih =>
  intro r0;have e:KV (putK kvs p.1 p.2) (stored vs q.1 q.2):=by
   have:=r0.put p.1 h.2
   rw[<- h.1];exact this
  exact ih e
theorem gf:∀(more kvs:List (Key×V)),(eC kvs more).length<=kvs.length+more.length
 | [],kvs=>by show kvs.length<=kvs.length+0;omega
 | p::r,kvs=>by
  have h1:=gf r (putK kvs p.1 p.2);have h2:=jB kvs p.1 p.2;show(eC (putK kvs p.1 p.2) r).length<=_;rw[List.length_cons];omega
theorem tQ{P:Program}{w:World}:∀{kvs:List (Key×V)}{ws:List (Value×Value)},VV (kvs.map fun kv=>(kV kv.1,kv.2)) ws->∃ rs,Carries (bp P w) ws rs/\KV kvs rs
 | [],_,r=>by rw[List.map_nil]at r;cases r;exact⟨[],True.intro,.nil⟩
 | p::kvs,_,r=>by
  rw[List.map_cons]at r;cases r with
  | @cons a b as bs h t =>
   obtain⟨rs,c,q⟩:=tQ (P:=P) (w:=w) t;obtain⟨b1,b2⟩:=b;exact⟨(p.1,b2)::rs,⟨nc h.1,rfl,c⟩,.cons ⟨rfl,h.2⟩ q⟩
def QY(trs:List (TE×TE)):TE:=fun σ H Q=>∀ p,H p=none->za trs σ (upd H p (.dK [])) fun ps H2=>H2 p=some (.dK [])/\∃ kvs:List (Key×V),ps=kvs.map (fun kv=>(kV kv.1,kv.2))/\kvs.length<=15/\Q (.ref p) (upd H2 p (.dK (eC [] kvs)))
theorem K7{pos:Pos}{keys:List (Option Expr)}{values:List Expr}{trs:List (TE×TE)}(h:PPs X pos keys values trs)(PU:keys.all (·.isSome)=true)(hl:keys.length=values.length)(h0:keys ≠ [])
  (h15:keys.length<=15):PE X (.Dict keys values pos) (QY trs):=by
 intro gV s σ H Q I q;have hn:=I.hok.fresh (Nat.le_refl s.heap.objs.size);have I1:=I.laid (a:=s.heap.objs.size) (o:=.dK []) (h':=s.heap.push { cls:=.type "dict",data:=.dict #[] }) (t':=s.toks) (fun _ _ q=>Heap.get?_push_of_some _ q) (Nat.le_refl _) (yB s.heap I.big)
 refine wpAny_Dict_walk (knd:=bp X.prog X.w) PU hl h0 h15 (thn (h gV _ σ _ _ I1 (q _ hn)) fun ws s2 hPP=>?_)
 obtain⟨ps,H2,I2,rel,e,kvs,ep,lk,q2⟩:=hPP;subst ep;obtain⟨rs,c,rk⟩:=tQ (P:=X.prog) (w:=X.w) rel;obtain⟨z,hd,vs0,r0,dd⟩:=Nl I2.hok e;cases r0;refine⟨rs,c,dd,fun h' dd' hs=>⟨.ref s.heap.objs.size,_,?_,rfl,q2⟩⟩
 have hz:(eC [] kvs).length<=sizeLine:=by
  have h1:=gf kvs [];rw[List.length_nil]at h1;rw[sizeLine_eq];omega
 have he:∃ q,h'.get? s.heap.objs.size=some q:=let⟨q,_,_,hq,_⟩:=dd';⟨q,hq⟩
 exact w5 I2 (by rw[e];exact True.intro) hs he (wZ hz hd (rk.merge .nil) dd')
structure M2(X:Cx)(o:Expr)(m:Str)(apos:Pos)(e f:Expr)(bq:Pos):Prop where
 base:attributeBase o m X.env (eval o X.env)=eval o X.env
 few:((backTo bq (starEach [e,f] X.env)).all (fun x=>!x.1)&&(backToKw bq (keywordEach [] X.env)).all (fun x=>x.1.isSome)
  && decide (([e,f]:List Expr).length+([]:List Keyword).length+(if([]:List Keyword).isEmpty then 0 else 1)<30))=true
 line:(apos.endLine==bq.line)=true
 trees:backTo bq (starEach [e,f] X.env) = [(false,eval e X.env),(false,eval f X.env)]
def IsD(H:Hp)(a:Addr):Prop:=(∃ kvs,Rd H a (.dK kvs))\/∃ kvs,Rd H a (.dT kvs)
theorem Pu{σ:St}{s:Shared}(I:Inv X gV σ H s)(d:IsD H a) :
  s.TypeIs (.ref a) "dict" /\ (∀ b,Value.ref a = .ref b->∃ ob,s.heap.get? b=some ob/\ob.dict=none)/\(a==sysModules)=false:=by
 rcases d with⟨kvs,e⟩ |⟨kvs,e⟩
 ·obtain⟨_,hd,vs,_,dd⟩:=kL I.hok e;refine⟨dd.typeIs,fun b q=>?_,hd⟩
  cases q;obtain⟨ob,_,_,h1,h2,_⟩:=dd;exact⟨ob,h1,h2.2.1⟩
 ·obtain⟨_,hd,xs,_,dd⟩:=tu I.hok e;refine⟨dd.typeIs,fun b q=>?_,hd⟩
  cases q;obtain⟨ob,_,_,h1,h2,_⟩:=dd;exact⟨ob,h1,h2.2.1⟩
section
variable{σ:St}{s:Shared}{d:V}{r:Value}{o:Option V}
theorem P6(hu:A.units+1<cLine)(I:Inv X gV σ H s)(g:g9 H a y o)(ry:RelV y u)(rd:RelV d r)(h:∀ w' s',Inv X gV σ H s'->RelV (o.getD d) w'->Q w' s') :
  wpAny (model X.prog X.w) A (call (.builtin "dict.get") [.ref a,u,r]) Q E s:=by
 rcases g with⟨kvs,k,e,ey,l⟩ |⟨kvs,k,b,e,ey,eb,l⟩
 ·subst ey;obtain⟨z,hd,vs,rel,dd⟩:=kL I.hok e;refine call_meetsIn PySem.F.slot_dict_get dd.typeIs PySem.F.entry_dict_get (PySem.F.args_dict_get_3 _ _ _) (meets_dict_get_default (bp X.prog X.w) a (nc ry) hd r) ⟨_,dd.mapOf,h _ _ (I.tok _) ?_⟩;rw[l];exact(rel.val k).getD rd
 ·subst ey
  cases(show u=Value.ref b from ry)
  obtain⟨z,hd,xs,rel,dd⟩:=tu I.hok e;refine call_meetsIn PySem.F.slot_dict_get dd.typeIs PySem.F.entry_dict_get (PySem.F.args_dict_get_3 _ _ _) (meetsH_dict_get_default (tupleKind (bp X.prog X.w)) a b hd r) ⟨tupleKind_room_in1 hu,k,xs,oQ I.hok eb,dd,h _ _ (I.tok _) ?_⟩;rw[l];exact(rel.val k).getD rd
end
def EV(td ty tx:TE):TE:=fun σ H Q=>td σ H fun x H1=>∃ a,x = .ref a/\IsD H1 a/\ty σ H1 fun y H2=>tx σ H2 fun z H3=>∃ o,g9 H3 a y o/\Q (o.getD z) H3
section
variable{o e f:Expr}{apos bq:Pos}{td ty tx:TE}
theorem Gz(hu:X.A.units+1<cLine)(ho:PE X o td)(he:PE X e ty)(hf:PE X f tx)(m:M2 X o "get" apos e f bq):PE X (.Call (.Attribute o "get" apos) [e,f] [] bq) (EV td ty tx):=by
 intro gV s σ H Q I h;refine wpAny_Call_method m.base m.few m.line PySem.F.plainAttrs_dict PySem.F.slot_dict_get PySem.F.type_dict_get (thn (ho gV s σ H _ I h) fun u s1 hPP=>?_)
 obtain⟨x,H1,I1,rx,a,ex,d,q1⟩:=hPP;subst ex;obtain rfl:u=Value.ref a:=rx;obtain⟨t1,t2,_⟩:=Pu I1 d;refine⟨t1,t2,?_⟩;rw[m.trees];refine Calls.callWith_builtin rfl (Calls.evalArgs_plain (Calls.spliced_cons (thn (he gV s1 σ H1 _ I1 q1) fun iv s2 ⟨y,H2,I2,ry,q2⟩ =>
  Calls.spliced_cons (thn (hf gV s2 σ H2 _ I2 q2) fun fv s3 ⟨z,H3,I3,rz,ov,g,q3⟩=>Calls.spliced_nil ?_))))
 exact P6 hu I3 g ry rz fun w' s4 I4 rw'=>⟨_,H3,I4,rw',q3⟩
end
section
theorem Ee:cj X (.builtin "len") (fun xs H Q=>∃ a kvs,xs = [V.ref a]/\H a=some (.dK kvs)/\Q (.int kvs.length) H):=by
 intro gV s σ H xs us Q I r h;obtain⟨a,kvs,rfl,ha,q⟩:=h;obtain⟨u,rfl,ru⟩:=vals1 r;cases ru;exact SU I (.inl ha) fun t s' I'=>⟨.int kvs.length,H,I',⟨t,rfl⟩,q⟩
end
end L2
set_option maxHeartbeats 4000000
namespace L2
open PySem PySem.Spec PyProof.Rows
theorem sM{h:Heap}{a:Nat}{o:Obj}(e:h.get? a=some o):@LT.lt Nat _ a h.objs.size:=Heap.lt_size e
theorem CH{h:Heap}{a:Nat}{v:Option Value}(e:h.IsCell a v):@LT.lt Nat _ a h.objs.size:=e.lt
theorem m7{a b:Nat}(h:a<b):@Ne Addr a b:=Nat.ne_of_lt h
theorem R1{a b:Nat}(h:b<a):@Ne Addr a b:=Nat.ne_of_gt h
theorem jR{env:Env}{body:Str×NameKind->List (Str×Addr)->Sem (ForInStep (List (Str×Addr)))}
  (hb:∀ n k c,body (n,k) c=if(k==NameKind.free)=true then(cellOf env n >>= fun a=>pure (.yield ((n,a)::c)))else pure (.yield c)) :
  ∀(l:List (Str×NameKind))(cs:List (Str×Addr)),(∀ p∈l,p.2=NameKind.free->∃ c,env.cells.lookup p.1=some c) ->
   ∃ cl,forIn l cs body=pure cl/\(∀ x c,cl.lookup x=some c->env.cells.lookup x=some c\/cs.lookup x=some c)/\(∀ x,(x,NameKind.free)∈l->∃ c,cl.lookup x=some c)/\∀ x c,cs.lookup x=some c->∃ c',cl.lookup x=some c'
 | [],cs,_=>⟨cs,rfl,fun _ _ h=>.inr h,fun _ h=>(nomatch h),fun _ c h=>⟨c,h⟩⟩
 | (n,k)::r,cs,h=>by
  have hr:∀ p∈r,p.2=NameKind.free->∃ c,env.cells.lookup p.1=some c:=fun p hp=>h p (List.mem_cons_of_mem _ hp)
  rw[List.forIn_cons,hb];by_cases hk:(k==NameKind.free)=true
  ·rw[if_pos hk];have hk':k = .free:=by simpa using hk
   obtain⟨c,hc⟩:=h (n,k) List.mem_cons_self hk';have e1:cellOf env n=pure c:=by unfold cellOf;rw[hc]
   rw[e1];obtain⟨cl,e,h1,h2,h3⟩:=jR hb r ((n,c)::cs) hr;refine⟨cl,e,fun x c' hx=>?_,fun x hx=>?_,fun x c' hx=>?_⟩
   ·rcases h1 x c' hx with z|z
    ·exact .inl z
    ·by_cases e2:(x==n)=true
     ·have e3:x=n:=by simpa using e2
      subst e3;rw[List.lookup_cons,e2]at z;cases z;exact .inl hc
     ·rw[List.lookup_cons,Bool.eq_false_iff.mpr e2]at z;exact .inr z
   ·rcases List.mem_cons.mp hx with z|z
    ·have e2:x=n:=congrArg Prod.fst z;exact h3 x c (by rw[List.lookup_cons,e2,beq_self_eq_true])
    ·exact h2 x z
   ·by_cases e2:(x==n)=true
    ·exact h3 x c (by rw[List.lookup_cons,e2])
    ·exact h3 x c' (by rw[List.lookup_cons,Bool.eq_false_iff.mpr e2];exact hx)
  ·rw[if_neg hk];obtain⟨cl,e,h1,h2,h3⟩:=jR hb r cs hr;refine⟨cl,e,h1,fun x hx=>?_,h3⟩
   rcases List.mem_cons.mp hx with z|z
   ·cases z;exact absurd rfl hk
   ·exact h2 x z
variable{scope:Scope}{env:Env}
theorem AK(h:∀ p∈scope.names,p.2=NameKind.free->∃ c,env.cells.lookup p.1=some c) :
  ∃ cl:List (Str×Addr),closureFor scope env=pure cl/\(∀ x c,cl.lookup x=some c->env.cells.lookup x=some c)/\∀ x,(x,NameKind.free)∈scope.names->∃ c,cl.lookup x=some c:=by
 obtain⟨cl,e,h1,h2,_⟩:=jR (env:=env) (body:=fun x c=>if(x.2==NameKind.free)=true then(cellOf env x.1 >>= fun a=>pure (.yield ((x.1,a)::c)))else pure (.yield c)) (fun _ _ _=>rfl) scope.names [] h
 refine⟨cl,?_,fun x c hx=>(h1 x c hx).elim id fun z=>by simp at z,h2⟩
 have e2:closureFor scope env =(forIn scope.names ([]:List (Str×Addr)) (fun x c=>if(x.2==NameKind.free)=true then(cellOf env x.1 >>= fun a=>pure (.yield ((x.1,a)::c)))else pure (.yield c)) >>= fun r=>pure r):=by
  simp only[closureFor]
 rw[e2,e];rfl
theorem fV{env:Env}:∀{names:List (Str×NameKind)}{x:Str}{k:NameKind},
  (names.map fun(n,k)=>if(k==NameKind.free&&env.scope.kind == .function&&env.kindOf n==some .cell)then(n,NameKind.cell)else(n,k)).lookup x=some k ->
   names.lookup x=some k\/(names.lookup x=some .free/\k = .cell)
 | [],_,_,h=>by simp at h
 | (n,k0)::r,x,k,h=>by
  have ih:=@fV env r x k
  replace h:List.lookup x ((if(k0==NameKind.free&&env.scope.kind == .function&&env.kindOf n==some .cell)=true then(n,NameKind.cell)else(n,k0)) ::(r.map fun(n,k)=>if(k==NameKind.free&&env.scope.kind == .function&&env.kindOf n==some .cell)then(n,NameKind.cell)else(n,k)))=some k:=h
  cases hx:x==n with
  | true =>
   by_cases hc:(k0==NameKind.free&&env.scope.kind == .function&&env.kindOf n==some .cell)=true
   ·rw[if_pos hc]at h;simp only[List.lookup_cons,hx]at h;cases h
    have:k0 = .free:=by
     simp only[Bool.and_eq_true]at hc;simpa using hc.1.1
    subst this;exact .inr ⟨by simp only[List.lookup_cons,hx],rfl⟩
   ·rw[if_neg hc]at h;simp only[List.lookup_cons,hx]at h;exact .inl (by simp only[List.lookup_cons,hx];exact h)
  | false =>
   have h':(r.map fun(n,k)=>if(k==NameKind.free&&env.scope.kind == .function&&env.kindOf n==some .cell)then(n,NameKind.cell)else(n,k)).lookup x=some k:=by
    by_cases hc:(k0==NameKind.free&&env.scope.kind == .function&&env.kindOf n==some .cell)=true
    ·rw[if_pos hc]at h;simpa only[List.lookup_cons,hx]using h
    ·rw[if_neg hc]at h;simpa only[List.lookup_cons,hx]using h
   rcases ih h' with z|z
   ·exact .inl (by simp only[List.lookup_cons,hx];exact z)
   ·exact .inr (by simp only[List.lookup_cons,hx];exact z)
theorem mP{env:Env}:∀{names:List (Str×NameKind)}{x:Str},names.lookup x=some .free ->
  (names.map fun(n,k)=>if(k==NameKind.free&&env.scope.kind == .function&&env.kindOf n==some .cell)then(n,NameKind.cell)else(n,k)).lookup x=some .free \/
  (names.map fun(n,k)=>if(k==NameKind.free&&env.scope.kind == .function&&env.kindOf n==some .cell)then(n,NameKind.cell)else(n,k)).lookup x=some .cell
 | [],_,h=>by simp at h
 | (n,k0)::r,x,h=>by
  have ih:=@mP env r x;show List.lookup x ((if(k0==NameKind.free&&env.scope.kind == .function&&env.kindOf n==some .cell)=true then(n,NameKind.cell)else(n,k0))::_)=_\/List.lookup x ((if(k0==NameKind.free&&env.scope.kind == .function&&env.kindOf n==some .cell)=true then(n,NameKind.cell)else(n,k0))::_)=_
  cases hx:x==n with
  | true =>
   simp only[List.lookup_cons,hx]at h;cases h;by_cases hc:(NameKind.free==NameKind.free&&env.scope.kind == .function&&env.kindOf n==some .cell)=true
   ·rw[if_pos hc];simp only[List.lookup_cons,hx];exact .inr trivial
   ·rw[if_neg hc];simp only[List.lookup_cons,hx];exact .inl trivial
  | false =>
   simp only[List.lookup_cons,hx]at h;by_cases hc:(k0==NameKind.free&&env.scope.kind == .function&&env.kindOf n==some .cell)=true
   ·rw[if_pos hc];simp only[List.lookup_cons,hx];exact ih h
   ·rw[if_neg hc];simp only[List.lookup_cons,hx];exact ih h
inductive nU(X:Cx)(sc:Scope):List Str->List (Option Nat)->Prop
 | nil:nU X sc [] []
 | own{x:Str}{N:List Str}{c:List (Option Nat)}:sc.names.lookup x=some .local->nU X sc N c->nU X sc (x::N) (none::c)
 | got{x:Str}{i:Nat}{N:List Str}{c:List (Option Nat)}:X.N[i]? = some x->sc.names.lookup x=some .free ->(X.env.kindOf x=some .cell\/X.env.kindOf x=some .free)->nU X sc N c->nU X sc (x::N) (some i::c)
def nC(c:List (Option Nat))(σ:St):St:=c.map fun o=>o.bind fun(i:Nat)=>(σ[i]?).join
variable{X:Cx}{sc:Scope}{N:List Str}
theorem nU.len{c:List (Option Nat)}{σ:St}(h:nU X sc N c):(nC c σ).length=N.length:=by
 unfold nC;rw[List.length_map]
 induction h with
 | nil=>rfl
 | own _ _ ih=>simp[ih]
 | got _ _ _ _ ih=>simp[ih]
theorem nU.at{X:Cx}{sc:Scope}{N:List Str}{c:List (Option Nat)}{σ:St}(h:nU X sc N c):∀{j:Nat}{x:Str}{v:V},N[j]? = some x ->(nC c σ)[j]? = some (some v) ->
  ∃ i:Nat,X.N[i]? = some x/\σ[i]? = some (some v)/\sc.names.lookup x=some .free/\(X.env.kindOf x=some .cell\/X.env.kindOf x=some .free):=by
 induction h with
 | nil=>intro j x v h1;simp at h1
 | own _ _ ih =>
  intro j x v h1 h2;cases j with
  | zero=>simp[nC]at h2
  | succ j=>exact ih (by simpa using h1) (by simpa [nC]using h2)
 | @got y i N c g1 g2 g3 _ ih =>
  intro j x v h1 h2;cases j with
  | zero =>
   have e:y=x:=by simpa using h1
   subst e;refine⟨i,g1,?_,g2,g3⟩;have h2':(σ[i]?).join=some v:=by simpa [nC]using h2
   cases q:σ[i]? with
   | none=>rw[q]at h2';cases h2'
   | some o =>
    rw[q]at h2'
    have:o=some v:=h2'
    rw[this]
  | succ j=>exact ih (by simpa using h1) (by simpa [nC]using h2)
def blk(X:Cx)(N':List Str)(sc:Scope)(cl:List (Str×Addr))(C:Addr)(s₂:Shared)(H₂:Hp)(fp:List Addr):Cx :=
 { X with N:=N',s₀:=s₂,H₀:=H₂,env:=compEnvC sc cl C X.env,outer:=X.stack,ex:=fp,fn:=fun _=>false,pn:=[],xe:=fun _ _=>False }
def PTs(X:Cx)(ifs:List Expr)(t:TT):Prop :=
 ∀(gV:List (Addr×Obj))(s:Shared)(σ:St)(H:Hp)(Q:Bool->Hp->Prop),Inv X gV σ H s->t σ H Q ->
  wpAny (model X.prog X.w) X.A (forIn ifs true fun c r=>if r=true then do let ok <- isTrue c X.env (eval c X.env);pure (ForInStep.yield ok)else pure (ForInStep.yield r)) (TP X gV σ Q) X.xe s
def Bf:TT:=fun _ H Q=>Q true H
theorem BE:PTs X [] Bf:=fun _ _ _ H _ I h=>wpAny_tests_nil ⟨H,I,h⟩
theorem BD{c:Expr}{t:TT}(h:PT X c t):PTs X [c] t:=fun gV s σ H Q I q=>wpAny_tests_one (h gV s σ H Q I q)
def Nx(g:TG)(tst:TT)(te:TE)(σ0:St)(Q:VK)(J:It)(H1:Hp):Prop :=
 ∃ W:Nat->Nat->List V->St->Hp->Prop,(∃ m,W 0 m [] σ0 H1)/\∀ i m ys σ' H',W i m ys σ' H' ->
  (J.stop i H'/\ys.length<=sizeLine/\∀ D,H' D=none->Q (.ref D) (upd H' D (.lst ys))) \/
  (J.go i H'/\ys.length<sizeLine/\∃ N:List V->St->Hp->Prop,(∀ ys2 σ2 H2,N ys2 σ2 H2->∃ m',m'<m/\W (i+1) m' ys2 σ2 H2)/\∀ x H2,J.yld i H' x H2->g x σ' H2 fun σ2 H3=>tst σ2 H3 fun b H4 =>
   if b=true then te σ2 H4 fun y H5=>N (ys ++ [y]) σ2 H5 else N ys σ2 H4)
def uV(cap:List (Option Nat))(wi:TI)(g:TG)(tst:TT)(te:TE):TE:=fun σ H Q=>wi σ H (Nx g tst te (nC cap σ) Q)
variable{prog:Program}{A:Around}{R:Result->Shared->Prop}{elt:Expr}{iter:Expr}{ifs:List Expr}
theorem D7{w:World}{s:Shared}{target:Expr}{pos:Pos}{it acc:Value}(I:Nat->Shared->Prop)
  (turn:∀ n s,I n s->wpAny (model prog w) A (pyNext it) (fun r s₁=>match r with
   | none=>R (.ok .next) s₁
   | some v=>wpAny (model prog w) A (letOwnedTupleGo target it v) (fun _ s₁'=>wpAny (model prog w) A (assign target env v) (fun _ s₂ =>
     wpAny (model prog w) A (forIn ifs true fun c r=>if r=true then do let ok <- isTrue c env (eval c env);pure (ForInStep.yield ok)else pure (ForInStep.yield r)) (fun ok s₃ =>
      if ok=true then wpAny (model prog w) A (eval elt env) (fun x s₄ =>
       wpAny (model prog w) A (call (.builtin "list.append") [acc,x]) (fun _ s₅=>∃ m,m<n/\I m s₅) (fun _ _=>False) s₄) (fun _ _=>False) s₃
      else ∃ m,m<n/\I m s₃) (fun _ _=>False) s₂) (fun _ _=>False) s₁') (fun _ _=>False) s₁) (fun _ _=>False) s)
  (n:Nat) (h:I n s) :
  codeAny (model prog w) A (.compLoop (.ListComp elt [⟨target,iter,ifs,0⟩] scope pos) 0 it acc env) R s:=by
 refine codeAny_loop rfl I (fun n s hI=>?_) n h
 show wpAny _ A ((compTurn (.ListComp elt [⟨target,iter,ifs,0⟩] scope pos) 0 it acc env).onRaise (fun x=>do noteFrame x env;theTreesLotGoes x)) _ _ s
 refine wpAny_noted ?_;rw[compTurn_list];refine wpAny_bind (wpAny_standAt (wpAny_bind (wpAny_mono (turn n s hI) (fun r s₁ h₁=>?_) fun _ _ h'=>h'.elim)))
 cases r with
 | none=>exact wpAny_pure h₁
 | some v =>
  refine wpAny_bind (wpAny_mono h₁ (fun _ s₁' h₁'=>?_) fun _ _ h'=>h'.elim)
  refine wpAny_bind (wpAny_mono h₁' (fun _ s₂ h₂=>wpAny_bind (wpAny_mono h₂ (fun ok s₃ h₃=>?_) fun _ _ h'=>h'.elim)) fun _ _ h'=>h'.elim)
  cases ok with
  | false=>exact wpAny_pure ⟨rfl,h₃⟩
  | true =>
   exact wpAny_bind (wpAny_bind (wpAny_mono h₃ (fun x s₄ h₄=>wpAny_bind (wpAny_mono h₄ (fun _ s₅ h₅=>wpAny_pure (wpAny_pure ⟨rfl,h₅⟩)) fun _ _ h'=>h'.elim)) fun _ _ h'=>h'.elim))
variable{gV:List (Addr×Obj)}{H:Hp}{tg:Expr}{p:Pos}{N':List Str}{cap:List (Option Nat)}{tst:TT}{te:TE}
theorem yG{σ:St}{s:Shared}{Q:VK}{pos:Pos}{wi:TI}{g:TG}{use:Option (Value->Sem Unit)}{Q':Value->Shared->Prop}
  (hc:X.calm=true) (hi:PI X tg iter wi) (gJ:sc.kind = .function) (gK:∀ y∈sc.names,y.2 ≠ .cell) (iL:∀ y∈sc.names,y.2 = .local->sc.names.lookup y.1=some .local)
  (i8:∀ y∈sc.names,y.2 = .free->X.env.kindOf y.1=some .cell\/X.env.kindOf y.1=some .free) (uG:nU X sc N' cap)
  (hb:∀ cl C s₂ H₂ fp,PG (blk X N' sc cl C s₂ H₂ fp) tg g/\PTs (blk X N' sc cl C s₂ H₂ fp) ifs tst/\PE (blk X N' sc cl C s₂ H₂ fp) elt te)
  (I:Inv X gV σ H s) (h:uV cap wi g tst te σ H Q)
  (fin:∀ D C m H' s',Inv X gV σ H' s'->ud X gV H' C->s'.heap.Ns C m->Q (.ref D) H'->compPost (model X.prog X.w) X.A X.xe use Q' (.ref D) C (.ok .next) s')
  (hs:∀ x,foldedSetIterable iter X.env x=pure x) :
  wpAny (model X.prog X.w) X.A (comprehension (.ListComp elt [⟨tg,iter,ifs,0⟩] sc pos) sc X.env p (newList []) false (eval iter X.env) use) Q' X.xe s:=by
 obtain⟨cl,SA,yx,SD⟩:=AK (scope:=sc) (env:=X.env) fun q hq e=>I.ok.has q.1 (i8 q hq e)
 refine wpAny_comprehension_free rfl hs SA gJ iL (thn (hi gV s σ H _ I h) fun v s1 h1=>thn h1 fun itv s2 h2=>?_)
 obtain⟨it,fp,tn,J,H2,e,I2,T,st2,f2,W,⟨m0,w0⟩,turn⟩:=h2;subst e;refine wpAny_newObj_type (wpAny_newFunctionEnv gK (by intro y hy;simp at hy) (fun h₁ LM Hq=>?_) gJ)
 dsimp only at LM Hq ⊢
 generalize hHP:s2.heap.push { cls:=.type "list",dict:=none,data:=.seq ([]:List Value).toArray }=HP at LM Hq ⊢
 have hC:HP.objs.size=s2.heap.objs.size+1:=by rw[<- hHP,Heap.size_push]
 obtain⟨D,hDn⟩:∃ D:Nat,s2.heap.objs.size=D:=⟨_,rfl⟩
 obtain⟨C,hCn⟩:∃ C:Nat,HP.objs.size=C:=⟨_,rfl⟩
 rw[hDn]at hC;rw[hCn]at hC LM Hq ⊢;rw[hDn];have hDC:@Ne Addr D C:=m7 (by omega)
 have old:∀ b o,s2.heap.get? b=some o->h₁.get? b=some o:=fun b o e =>
  Hq.extBut b o (m7 (by have:=sM e;omega)) (Heap.get?_push_of_some _ (hHP▸Heap.get?_push_of_some _ e))
 have wO:h₁.get? D=some { cls:=.type "list",data:=.seq ([]:List Value).toArray 0 } :=
  Hq.extBut _ _ hDC (Heap.get?_push_of_some _ (by rw[<- hHP,<- hDn];exact Heap.get?_push_size _ rfl))
 have okB:(blk X N' sc cl C s2 H2 fp).Ok:=by
  refine⟨I.ok.mod,gJ,I.ok.glob,I.ok.blt,(by show s2.heap.objs.size<=C;omega),fun x y c h1 h2=>I.ok.inj x y c (yx x c h1) (yx y c h2),fun x hx=>?_,fun x c hx=>(nomatch hx),I.ok.hd,I.ok.frames,.inl rfl,fun b hb=>?_,
   fun b o e=>I2.bs b o e,Nat.le_trans I2.ok.bsz I2.sz,fun b o e hb=>?_,fun b hb=>?_,I2.stack,I2.j9⟩
  ·have hx':sc.names.lookup x=some .free:=by
    rcases hx with hx|hx
    ·rcases fV hx with z|z
     ·exact absurd rfl (gK _ (PySem.mem_of_lookup z))
     ·exact z.1
    ·rcases fV hx with z|z
     ·exact z
     ·exact z.1
   exact SD x (PySem.mem_of_lookup hx')
  ·obtain⟨o,ho,_⟩:=T.obj _ _ st2 b hb;refine⟨?_,fun x c e=>(f2 b hb).2.2.2.2.1 x c (yx x c e)⟩
   show @Ne Addr b C
   have:=sM ho
   exact m7 (by omega)
  ·obtain⟨_,_,_,z,_⟩:=f2 b hb;rcases z with z|z
   ·exact I2.ok.zT b o e z
   ·have:=sM (show X.base.get? b=some o from e)
    have:=I2.ok.bsz
    omega
  ·intro hb';rcases List.mem_cons.mp (I2.ox b hb')with z|z
   ·exact(f2 b hb).2.1 z
   ·exact(f2 b hb).2.2.1 z
 have nD:H2 D=none:=I2.hok.fresh (by rw[hDn];exact Nat.le_refl _)
 have hb0:=hb cl C s2 H2 fp
 generalize hXB:blk X N' sc cl C s2 H2 fp=XB at okB hb0
 have eP:XB.prog=X.prog:=by rw[<- hXB];rfl
 have eW:XB.w=X.w:=by rw[<- hXB];rfl
 have eK:XB.K=X.K:=by rw[<- hXB];rfl
 have eA:XB.A=X.A:=by rw[<- hXB];rfl
 have eE:XB.env=compEnvC sc cl C X.env:=by rw[<- hXB];rfl
 have eX:XB.xe=fun _ _=>False:=by rw[<- hXB];rfl
 have eFs:XB.fs=frs X.stack:=by rw[<- hXB];rfl
 have eEx:XB.ex=fp:=by rw[<- hXB];rfl
 have eS:XB.s₀=s2:=by rw[<- hXB];rfl
 have eH:XB.H₀=H2:=by rw[<- hXB];rfl
 have ePn:XB.pn = []:=by rw[<- hXB];rfl
 have eCa:XB.calm=true:=by rw[<- hXB];exact hc
 have eN:XB.N=N':=by rw[<- hXB];rfl
 have eL:XB.env.locals=C:=by rw[eE];rfl
 have eCl:XB.env.cells=cl:=by rw[eE];rfl
 have VN:∀(x:Str)(c:Nat),cl.lookup x=some c->c<D:=fun x c e=>by
  obtain⟨v,z⟩:=I2.cell x c (yx x c e)
  have:=CH z
  omega
 have nfs:∀(b:Nat),D<=b->b ∉ XB.fs:=fun b hb z=>by
  rw[eFs]at z;obtain⟨_,o,ho,_⟩:=I2.stack.mem z
  have:=sM ho
  omega
 have fpD:∀(b:Nat),b∈fp->b<D:=fun b hb=>by
  obtain⟨o,ho,_⟩:=T.obj _ _ st2 b hb
  have:=sM ho
  omega
 have loop:∀ s3:Shared,s3 ={ s2 with heap:=h₁,toks:=s2.toks+([]:List (Str×Value)).length } ->
   codeAny (model X.prog X.w) X.A (.compLoop (.ListComp elt [⟨tg,iter,ifs,0⟩] sc pos) 0 (.ref it) (.ref D) (compEnvC sc cl C X.env)) (compPost (model X.prog X.w) X.A X.xe use Q' (.ref D) C) s3:=by
  rintro s3 rfl
  refine D7 (fun n s'=>∃ i ys σ' H' its k,Inv XB [] σ' H' s'/\tn i s'.heap/\(∀ b∈fp,H' b=none)/\H' D=none/\s'.heap.get? D=some { cls:=.type "list",data:=.seq (its:List Value).toArray k }/\Vals ys its/\W i n ys σ' H') ?_ m0
   ⟨0,[],nC cap σ,H2,[],0,?_,T.keep _ _ _ st2 fun b hb o e=>old b o e,fun b hb=>(f2 b hb).1,nD,wO,.nil,w0⟩
  ·rintro n s4 ⟨i,ys,σ4,H4,its,k,I4,st4,fr4,d4,o4,v4,w4⟩
   have fpk:∀{H':Hp}{pl:List (Addr×Obj)},(∀ b∈fp,H' b=none) ->(∀ q∈pl,q.1 ∉ fp)->∀ b∈fp,ud XB pl H' b:=fun{H' pl} hn hpl b hb=>by
    refine⟨hn b hb,?_,?_,.inl (by rw[eEx];exact hb),fun x c e=>?_,fun q hq=>?_⟩
    ·rw[eL];have:=fpD b hb;exact m7 (by omega)
    ·rw[eFs];intro z;rcases List.mem_cons.mp (I2.ox b z)with z|z
     ·exact(f2 b hb).2.1 z
     ·exact(f2 b hb).2.2.1 z
    ·rw[eCl]at e;exact(f2 b hb).2.2.2.2.1 x c (yx x c e)
    ·rw[ePn]at hq;intro z;exact hpl q (by simpa using hq) (z▸hb)
   have pD:∀ q ∈ [(D,({ cls:=.type "list",data:=.seq its.toArray k }:Obj))],q.1 ∉ fp:=fun q hq=>by
    have e:q=_:=List.mem_singleton.mp hq;subst e;intro z
    have:=fpD _ z
    omega
   have I4':Inv XB [(D,{ cls:=.type "list",data:=.seq its.toArray k })] σ4 H4 s4:=I4.mW fun q hq=>by
    have e:q=_:=List.mem_singleton.mp hq;subst e;refine⟨o4,d4,?_,nfs _ (Nat.le_refl _),fun v=>by simp⟩
    rw[eL];exact hDC
   have V5:=I4';rw[<- eA,<- eP,<- eW];rcases turn i n ys σ4 H4 w4 with⟨stop,hz,qn⟩ |⟨go,hz,N,hN,step⟩
   ·rw[<- eP,<- eW,<- eK]at T;refine wpAny_mono (T.done XB rfl rfl rfl eCa i _ s4 σ4 H4 (fun _ _=>False) I4' (fpk fr4 pD) st4 stop) (fun r s5 ⟨hr,I5⟩=>?_) fun _ _ z=>z
    subst hr;rw[eP,eW,eA];obtain⟨o5,n5,_⟩:=I5.pin (D,{ cls:=.type "list",data:=.seq its.toArray k }) (List.mem_append_right _ (List.mem_singleton.mpr rfl));have u5:Un (frs X.stack) fp H2 H4 s2.heap s5.heap:=by
     have z:=I5.base;rw[eFs,eEx,eH,eS]at z;exact z
    have lt2:∀ b o,s2.heap.get? b=some o -> @Ne Addr b D:=fun b o e=>m7 (by have:=sM e;omega)
    have ne5:∀ b u,H4 b=some u->b≠D:=fun b u e z=>by rw[z,d4]at e;cases e
    have hk5:HOk X.prog X.w H4 s5.heap:=by
     have z:=I5.hok;rw[eP,eW]at z;exact z
    have VG:=fin D C;obtain⟨mC,hNs,_⟩:=id I5.loc;rw[eL]at hNs;have IX:Inv X gV σ (upd H4 D (.lst ys)) s5:=by
     refine I2.yL (s':=s5) (ch:=fp) ?_ ⟨u5.keep,u5.slot,fun b o e n hx=>?_,u5.there,fun b xs e=>?_,fun b o u e=>?_,fun b ps e=>?_⟩ ?_ I5.bare fun b hb=>⟨(f2 b hb).2.2.2.1,(f2 b hb).2.1,(f2 b hb).2.2.2.2.1,(f2 b hb).2.2.2.2.2⟩
     ·have z:=I5.os;rw[eS]at z;exact z
     ·rw[ai (lt2 b o e)];exact u5.free b o e n hx
     ·have z:=u5.mD b xs e;rw[ai (ne5 b _ z)];exact z
     ·have z:=u5.jP b o u e;rw[ai (ne5 b _ z)];exact z
     ·obtain⟨more,z⟩:=u5.mE b ps e;exact⟨more,by rw[ai (ne5 b _ z)];exact z⟩
     ·intro a o e;by_cases ha:a=D
      ·subst ha;rw[aj]at e;cases e;exact⟨hz,its,k,v4,o5⟩
      ·rw[ai ha]at e;exact(hk5 a o e).cN (fun _ _ _ q=>q) (fun b q=>by rw[ai (ne5 b _ q)];exact q) fun b xs q=>by rw[ai (ne5 b _ q)];exact q
    refine VG mC _ s5 IX ?_ hNs (qn D d4);have hCN:H4 C=none:=by
     have z:=I5.free;rw[eL]at z;exact z
    refine⟨by rw[ai (Ne.symm hDC)];exact hCN,?_,?_,.inr ?_,fun x c e=>?_,fun q hq=>?_⟩
    ·have:@LT.lt Nat _ X.env.locals s2.heap.objs.size:=I2.lt
     exact R1 (by omega)
    ·exact I2.R0 (by rw[hDn];omega)
    ·have:=I2.sz;omega
    ·obtain⟨v,z⟩:=I2.cell x c e
     have:=CH z
     exact m7 (by omega)
    ·have:=sM (I2.pin q hq).1
     exact m7 (by omega)
   ·have T':=T;rw[<- eP,<- eW,<- eK]at T';refine wpAny_mono (T'.item XB rfl rfl rfl eCa i _ s4 σ4 H4 (fun _ _=>False) I4' (fpk fr4 pD) st4 go) (fun r s5 ⟨u,hr,h5⟩=>?_) fun _ _ z=>z
    subst hr;refine thn h5 fun _ s6 hPP=>?_
    obtain⟨x,H6,I6,r6,y6,st6,fr6⟩:=hPP;have I6':=I6.pinned (fpk fr6 pD) (T.obj _ _ st6);obtain⟨hg0,ht0,he0⟩:=hb0;rw[<- eE];have hgo:=hg0 _ s6 σ4 H6 x u _ I6' r6 (step x H6 y6);rw[eX]at hgo;refine thn hgo fun _ s7 hPP=>?_
    obtain⟨σ7,H7,I7,q7⟩:=hPP;have hto:=ht0 _ s7 σ7 H7 _ I7 q7;rw[eX]at hto;refine thn hto fun b s8 hPP=>?_
    obtain⟨H8,I8,q8⟩:=hPP;have back:∀{σ9:St}{H9:Hp}{s9:Shared},Inv XB ([(D,{ cls:=.type "list",data:=.seq its.toArray k })]++sh fp s6.heap) σ9 H9 s9->tn (i+1) s9.heap/\(∀ b∈fp,H9 b=none)/\H9 D=none/\s9.heap.get? D=some { cls:=.type "list",data:=.seq its.toArray k }:=fun{σ9 H9 s9} I9=>by
     have z:=I9.pin (D,{ cls:=.type "list",data:=.seq its.toArray k }) (List.mem_append_right _ (List.mem_append_left _ (List.mem_singleton.mpr rfl)));refine⟨T.keep _ _ _ st6 fun b hb o e=>(I9.pin (b,o) (List.mem_append_right _ (List.mem_append_right _ (fA hb e)))).1,fun b hb=>?_,z.2.1,z.1⟩
     obtain⟨o,e,_⟩:=T.obj _ _ st6 b hb;exact(I9.pin (b,o) (List.mem_append_right _ (List.mem_append_right _ (fA hb e)))).2.1
    cases b with
    | false =>
     rw[if_neg Bool.false_ne_true]at q8 ⊢;obtain⟨m',hm,w8⟩:=hN _ _ _ q8;obtain⟨t1,t2,t3,t4⟩:=back I8;exact⟨m',hm,i+1,ys,σ7,H8,its,k,I8.mW (fun q hq=>nomatch hq),t1,t2,t3,t4,v4,w8⟩
    | true =>
     rw[if_pos rfl]at q8 ⊢;have heo:=he0 _ s8 σ7 H8 _ I8 q8;rw[eX]at heo;refine thn heo fun yv s9 hPP=>?_
     obtain⟨y,H9,I9,r9,n9⟩:=hPP;obtain⟨m',hm,w9⟩:=hN _ _ _ n9;obtain⟨t1,t2,t3,t4⟩:=back I9;have hsz:its.toArray.size<=sizeLine:=by
      have e:=v4.length;have e2:its.toArray.size=its.length:=by simp
      omega
     refine append_at (hsz:=hsz) t4 fun h' hs' hD'=>?_
     ·refine⟨m',hm,i+1,ys ++ [y],σ7,H9,its ++ [yv],k+1,?_,T.keep _ _ _ t1 fun b hb o e=>hs'.extBut b o (m7 (fpD b hb)) e,t2,t3,?_,v4.append (.cons r9 .nil),w9⟩
      ·refine(I9.mW (pins':=[]) (fun q hq=>nomatch hq)).turned (t':=s9.toks) (it:=D) (fun b o hb e=>hs'.extBut b o hb e) t3 ?_ (.inr ?_) (fun x c e=>?_) fun q hq=>?_
       ·rw[eL];exact hDC
       ·rw[eS];omega
       ·rw[eCl]at e;exact m7 (VN x c e)
       ·rw[ePn]at hq;exact nomatch hq
      ·rw[hD'];simp
  ·
   refine⟨okB,by rw[eS],I2.bare,by rw[eFs,eEx,eH,eS];exact Un.kept old,⟨_,by rw[eL];exact LM,fun j x v h1 h2 h3=>?_⟩,fun x c e=>?_,?_,fun x c e=>?_,fun q hq=>?_,by rw[eP,eW];exact I2.hok.kept old,by rw[eN];exact uG.len⟩
   ·rw[eN]at h1;obtain⟨i,g1,g2,g3,g4⟩:=uG.at h1 h2;obtain⟨m,hn,hl⟩:=I2.loc;have hv:Vis X.env.scope x:=by
     rcases g4 with z|z
     ·exact .inr (.inl z)
     ·exact .inr (.inr z)
    obtain⟨u,r,l⟩:=hl i x v g1 g2 hv;refine⟨u,r,.inr ⟨?_,?_⟩⟩
    ·rw[eE];exact(mP g3).symm
    ·rcases l with⟨hk,_⟩ |⟨_,c,e,z⟩
     ·rcases g4 with y|y
      ·rw[y]at hk;cases hk
      ·rw[y]at hk;cases hk
     ·obtain⟨c',e'⟩:=SD x (PySem.mem_of_lookup g3)
      have:=yx x c' e'
      rw[e]at this;cases this;obtain⟨o,ho,hd⟩:=z;exact⟨c,by rw[eCl];exact e',o,old c o ho,hd⟩
   ·rw[eCl]at e;obtain⟨v,o,ho,hd⟩:=I2.cell x c (yx x c e);exact⟨v,o,old c o ho,hd⟩
   ·rw[eL];exact I2.hok.fresh (by rw[hDn];omega)
   ·rw[eCl]at e;exact I2.cV x c (yx x c e)
   ·rw[ePn]at hq;exact nomatch hq
 exact codeAny_compStart_list (loop _ rfl) (T.self X.A 0 _ _ _ (T.keep _ _ _ st2 fun b hb o e=>old b o e) (loop _ rfl))
theorem Cn(h:(sc.names.all fun y=>y.2 != .free ||(X.env.kindOf y.1==some .cell||X.env.kindOf y.1==some .free))=true) :
  ∀ y∈sc.names,y.2 = .free->X.env.kindOf y.1=some .cell\/X.env.kindOf y.1=some .free:=fun y hy e=>by
 have z:=List.all_eq_true.mp h y hy;rw[e]at z;simpa using z
theorem BO{pos:Pos}{wi:TI}{g:TG}
  (hc:X.calm=true) (hi:PI X tg iter wi) (uG:nU X sc N' cap)
  (hb:∀ cl C s₂ H₂ fp,PG (blk X N' sc cl C s₂ H₂ fp) tg g/\PTs (blk X N' sc cl C s₂ H₂ fp) ifs tst/\PE (blk X N' sc cl C s₂ H₂ fp) elt te)
  (gJ:sc.kind = .function:=by rfl) (gK:∀ y∈sc.names,y.2 ≠ .cell:=by decide) (iL:∀ y∈sc.names,y.2 = .local->sc.names.lookup y.1=some .local:=by decide)
  (i8:(sc.names.all fun y=>y.2 != .free ||(X.env.kindOf y.1==some .cell||X.env.kindOf y.1==some .free))=true:=by rfl)
  (hs:∀ x,foldedSetIterable iter X.env x=pure x:=by intro _;rfl):PE X (.ListComp elt [⟨tg,iter,ifs,0⟩] sc pos) (uV cap wi g tst te):=by
 intro gV s σ H Q I h;rw[eval_ListComp];refine yG (use:=none) hc hi gJ gK iL (Cn i8) uG hb I h (fun D C m H' s' I' f' hn q=>?_) hs
 refine⟨m,hn,fun h' hs'=>⟨.ref D,H',?_,rfl,q⟩⟩
 exact I'.turned (t':=s'.toks) (it:=C) (fun b o hb e=>hs'.extBut b o hb e) f'.1 f'.2.1.symm.symm f'.2.2.2.1 f'.2.2.2.2.1 f'.2.2.2.2.2
variable{rG:Pos}
theorem BH{i:Nat}{y:Str}{pos py:Pos}{wi:TI}{g:TG}
  (hN:X.N.Nodup) (hi':X.N[i]? = some y) (hy:Loc X.env.scope y)
  (hc:X.calm=true) (hi:PI X tg iter wi) (uG:nU X sc N' cap)
  (hb:∀ cl C s₂ H₂ fp,PG (blk X N' sc cl C s₂ H₂ fp) tg g/\PTs (blk X N' sc cl C s₂ H₂ fp) ifs tst/\PE (blk X N' sc cl C s₂ H₂ fp) elt te)
  (hsw:swapsWith (.ListComp elt [⟨tg,iter,ifs,0⟩] sc pos) (some (.Name y py)) rG.line X.env=pure true:=by rfl)
  (hf:X.fn y=true\/X.env.scope.names.lookup y=some .local:=by first|exact .inl rfl|exact .inr rfl|assumption)
  (gJ:sc.kind = .function:=by rfl) (gK:∀ y∈sc.names,y.2 ≠ .cell:=by decide) (iL:∀ y∈sc.names,y.2 = .local->sc.names.lookup y.1=some .local:=by decide)
  (i8:(sc.names.all fun y=>y.2 != .free ||(X.env.kindOf y.1==some .cell||X.env.kindOf y.1==some .free))=true:=by rfl)
  (hs:∀ x,foldedSetIterable iter X.env x=pure x:=by intro _;rfl):PS X (.Assign [.Name y py] (.ListComp elt [⟨tg,iter,ifs,0⟩] sc pos) rG) (jd (uV cap wi g tst te) (fG i)):=by
 intro gV s σ H Dn I h;rw[exec_Assign_Name_used _ _ _ _ hsw];refine wpAny_bind (wpAny_standAt (wpAny_bind ?_));show wpAny _ X.A (do let _ <- comprehension (.ListComp elt [⟨tg,iter,ifs,0⟩] sc pos) sc X.env _ (newList []) false (eval iter X.env) (some (assign (.Name y py) X.env))) _ _ s
 refine wpAny_bind (wpAny_mono (yG (use:=some (assign (.Name y py) X.env)) (Q:=fun x H1=>Dn.nx (σ.set i (some x)) H1) (Q':=fun _ s'=>SP X gV Dn .next s') hc hi gJ gK iL (Cn i8) uG hb I h (fun D C m H' s' I' f' hn q=>?_) hs)
  (fun _ s' hq=>wpAny_pure (wpAny_pure hq)) fun _ _ e=>e)
 obtain⟨o,es,ep,ho,hd,hr⟩:=id hn;have I2:=I'.pinned (fp:=[C]) (fun b hb=>by rw[List.mem_singleton.mp hb];exact f') fun b hb=>by
  rw[List.mem_singleton.mp hb];exact⟨o,ho,fun v=>by rw[hd];simp⟩
 refine wpAny_assign_Name (mH I2 hN hi' hy (v:=.ref D) rfl (fun s2 I3=>?_) hf)
 have z:=(I3.pin (C,o) (List.mem_append_right _ (List.mem_append_right _ (fA (List.mem_singleton.mpr rfl) ho)))).1;refine⟨m,⟨o,es,ep,z,hd,hr⟩,fun h' hs'=>⟨_,H',?_,q⟩⟩
 exact I3.mz.turned (t':=s2.toks) (it:=C) (fun b o hb e=>hs'.extBut b o hb e) f'.1 f'.2.1 f'.2.2.2.1 f'.2.2.2.2.1 f'.2.2.2.2.2
variable{a:Addr}{xs:List V}
section
theorem vp{K:W.Frag}{g:TG}{σ:St}{Q:VK}(Pv:Nat->List V->St->Hp->Prop)(h0:Pv 0 [] σ H)
  (hl:∀ i ys σ H,i<=xs.length->Pv i ys σ H->SqL K H a xs/\ys.length<sizeLine)
  (hs:∀ i x ys σ H,xs[i]? = some x->Pv i ys σ H->g x σ H fun σ2 H3=>tst σ2 H3 fun b H4=>if b=true then te σ2 H4 fun y H5=>Pv (i+1) (ys ++ [y]) σ2 H5 else Pv (i+1) ys σ2 H4)
  (hd:∀ ys σ H,Pv xs.length ys σ H->∀ D,H D=none->Q (.ref D) (upd H D (.lst ys))) :
  Nx g tst te σ Q (Itl K a) H:=by
 refine⟨fun i m ys σ H=>m=xs.length - i/\i<=xs.length/\Pv i ys σ H,⟨xs.length,by simp,Nat.zero_le _,h0⟩,?_⟩
 rintro i m ys σ H ⟨rfl,hi,p⟩
 obtain⟨q,hz⟩:=hl i ys σ H hi p;by_cases hlt:i<xs.length
 ·refine .inr ⟨⟨xs,xs[i],q,by simp[hlt]⟩,hz,Pv (i+1),fun ys' σ' H' p'=>⟨xs.length - (i+1),by omega,rfl,hlt,p'⟩,fun x H' y=>?_⟩
  obtain⟨e,y⟩:=y;subst e;exact hs i x ys σ _ (y xs q) p
 ·have e:i=xs.length:=by omega
  subst e;exact .inl ⟨⟨xs,q,Nat.le_refl _⟩,Nat.le_of_lt hz,hd ys σ H p⟩
def Rf:V->Option Int->Option Int->Hp->VK->Prop:=fun x lo hi H Q=>∃ z,x = .str z/\z.length<=sizeLine/\Q (.str (Txt.slice z lo hi)) H
theorem NW:SlR X Rf:=by
 intro gV s σ H x v vl vu lo hi sl Q I rx hs pl pu h;obtain⟨z,rfl,hz,q⟩:=h;obtain⟨t,rfl⟩:=rx;refine⟨"str",_,PySem.F.slot_str_getitem.lookup,typeIs_str s z t,?_⟩;obtain⟨o,h1,h2,h3⟩:=hs;have fin:∀(y:Str)(t' k:Nat),y=Txt.slice z lo hi->EP X gV σ Q (.str y t') { s with toks:=k }:=fun y t' k e=>by subst e;exact⟨.str _,H,I.tok k,⟨_,rfl⟩,q⟩
 cases pl with
 | none =>
  cases pu with
  | none=>exact wpAny_getItem_str_slice (l:=none) (u:=none) (st:=none) ⟨o,h1,h2,h3⟩ rfl (post_val_or_str ⟨Nat.le_trans (Txt.slice_le z _ _) hz,fun t' k=>fin _ t' k rfl⟩)
  | int j uj=>exact wpAny_getItem_str_slice (l:=none) (u:=some (j,uj)) (st:=none) ⟨o,h1,h2,h3⟩ rfl (post_val_or_str ⟨Nat.le_trans (Txt.slice_le z _ _) hz,fun t' k=>fin _ t' k rfl⟩)
 | int i ui =>
  cases pu with
  | none=>exact wpAny_getItem_str_slice (l:=some (i,ui)) (u:=none) (st:=none) ⟨o,h1,h2,h3⟩ rfl (post_val_or_str ⟨Nat.le_trans (Txt.slice_le z _ _) hz,fun t' k=>fin _ t' k rfl⟩)
  | int j uj=>exact wpAny_getItem_str_slice (l:=some (i,ui)) (u:=some (j,uj)) (st:=none) ⟨o,h1,h2,h3⟩ rfl (post_val_or_str ⟨Nat.le_trans (Txt.slice_le z _ _) hz,fun t' k=>fin _ t' k rfl⟩)
theorem ze{ys:List Str}:∀{us:List Value},Vals (ys.map V.str) us->StrsAre us ys:=by
 induction ys with
 | nil=>intro us r;rw[List.map_nil]at r;cases r;exact .nil
 | cons n ns ih =>
  intro us r;rw[List.map_cons]at r;cases r with
  | cons r1 r2 =>
   obtain⟨t,e⟩:=r1;subst e;exact .cons n t (ih r2)
def rJoin(K:W.Frag):V->List V->Hp->VK->Prop:=fun x xs H Q=>∃ sep l ys,x = .str sep/\xs = [.ref l]/\SqL K H l (ys.map V.str)/\(ys.map (·.length)).sum+ys.length*sep.length<=16777216/\Q (.str (Txt.join sep ys)) H
theorem Ls:MtR X "str.join" (rJoin X.K):=by
 intro gV s σ H x xs v us Q I rx rs h;obtain⟨sep,l,ys,rfl,rfl,hl,hw,q⟩:=h;obtain⟨t,rfl⟩:=rx;obtain⟨u,rfl,ru⟩:=Vals.one rs;cases ru;obtain⟨its,r,pl,hz⟩:=I.list hl;exact join_list pl.isList (by simpa using ze r) hw fun t' k=>⟨.str _,H,I.tok k,⟨_,rfl⟩,q⟩
theorem JI{bs:List Bool}:∀{us:List Value}{i:Nat}{v:Value},Vals (bs.map V.bl) us->us[i]? = some v->∃ b,bs[i]? = some b/\v = .bool b:=by
 induction bs with
 | nil=>intro us i v r h;rw[List.map_nil]at r;cases r;simp at h
 | cons b bs ih =>
  intro us i v r h;rw[List.map_cons]at r;cases r with
  | cons r1 r2 =>
   cases i with
   | zero =>
    simp only[List.getElem?_cons_zero,Option.some.injEq]at h;subst h;exact⟨b,by simp,r1⟩
   | succ i =>
    obtain⟨c,h1,h2⟩:=ih r2 (by simpa using h)
    exact⟨c,by simpa using h1,h2⟩
theorem Ig:cj X (.builtin "isinstance") (fun xs H Q=>∃ x T t b,xs = [x,.ty T]/\kD X.K H x t/\W.kitOne X.K t (.type T)=some b/\Q (.bl b) H):=by
 intro gV s σ H xs us Q I r h;obtain⟨x,T,t,b,rfl,ty,e,q⟩:=h;obtain⟨u,w',rfl,ru,rw'⟩:=vals2 r;cases rw';exact DP I ru ty e fun tk=>⟨.bl b,H,I.tok tk,rfl,q⟩
end
variable{I:Addr}{fp:List Addr}{wr:List Addr}{n:Nat}
section
variable{w:World}{E:Value->Shared->Prop}{s:Shared}
theorem DD:typeLookup (.type "list_reverseiterator") "__len__" = pure none:=by rw[typeLookup_type,builtinLookup_eq_fast];kernel_rfl
theorem Hr:typeLookup (.type "list_reverseiterator") "__length_hint__" = pure (some (.builtin "list_reverseiterator.__length_hint__")):=by rw[typeLookup_type,builtinLookup_eq_fast];kernel_rfl
theorem AF{R:Result->Shared->Prop}{P:Nat->Value->Prop}{St:Nat->Heap->Prop}(W:Walks prog w A.in1 I fp wr n P St)(hT:∀ i (s:Shared),St i s.heap->s.TypeIs (.ref I) "list_reverseiterator")(S:Addr)(res:Value)(c₀:Nat)(hst:St 0 s.heap)(hSf:S ∉ fp)(hI:I∈fp)
  (hS:s.heap.get? S=some { cls:=.type "list",data:=.seq #[] c₀ })
  (hR:∀ s' jX c',Moved (S::wr) (fun g g'=>g'=g) s s'->s'.heap.get? S=some { cls:=.type "list",dict:=none,data:=.seq jX c',slots:=#[] }->ItemsOf P jX n->R (.ok (.ret res)) s') (hn:n<=sizeLine) :
  wpAny (model prog w) A.in1 (Builtin.List.listExtendWith (.ref S) (.ref I) res)
   (fun fin s'=>match fin with | .done f=>R (.ok f) s' | .again c'=>c'.quiet=true/\codeAny (model prog w) A c' R s') (fun e s'=>R (.error e) s') s:=by
 have hSI:S≠I:=fun e=>hSf (e▸hI)
 have h1:Builtin.List.listSameRef (.ref S) (.ref I)=false:=by simp[Builtin.List.listSameRef,hSI]
 unfold Builtin.List.listExtendWith;refine wpAny_bind (wpAny_typeOf (hT 0 _ hst) ?_);rw[if_neg (by rw[h1];decide)]
 refine wpAny_bind (W.self 0 _ _ _ hst ?_);refine wpAny_bind (wpAny_holding ?_);unfold Builtin.List.listLengthHint;refine wpAny_bind (wpAny_specialOf (hT 0 _ hst) DD ?_);show wpAny _ A.in1 (specialOf (Value.ref I) (Str.ofString "__length_hint__") >>= _) _ _ _;refine wpAny_bind (wpAny_specialOf (hT 0 _ hst) Hr ?_)
 generalize hid:("list_reverseiterator.__length_hint__":String)=id0
 wp_delta
 rw[show splitId id0=some ("list_reverseiterator","__length_hint__")from by subst hid;decide +kernel]
 subst hid;refine wpAny_bind (wpAny_isInstance (b:=true) (hT 0 _ hst) (by rw[isSubtype_type];kernel_rfl) ?_)
 refine wpAny_pure ?_;rw[if_neg (by decide)]
 exact wpAny_pure ⟨plainId_quiet F.plain_extend_loop _,codeAny_extend_loopS W.toS hn _ hSf _ n 0 _ _ _ rfl (Nat.zero_le _) hst hS (ItemsOf.nil P) fun s' jX c' hm hS' wO=>hR s' jX c' hm hS' wO⟩
theorem Hk{R:Result->Shared->Prop}{P:Nat->Value->Prop}{St:Nat->Heap->Prop}(W:Walks prog w A.in1 I fp wr n P St)(hT:∀ i (s:Shared),St i s.heap->s.TypeIs (.ref I) "list_reverseiterator")(S:Addr)(hst:St 0 s.heap)(hSf:S ∉ fp)(hI:I∈fp)
  (hS:s.heap.get? S=some { cls:=.type "list",data:=.seq #[] })
  (hR:∀ s' jX c',Moved (S::wr) (fun g g'=>g'=g) s s'->s'.heap.get? S=some { cls:=.type "list",dict:=none,data:=.seq jX c',slots:=#[] }->ItemsOf P jX n->R (.ok (.ret .none)) s') (hn:n<=sizeLine) :
  wpAny (model prog w) A.in1 (Builtin.«list.__init__» ⟨[.ref S,.ref I],[]⟩)
   (fun fin s'=>match fin with | .done f=>R (.ok f) s' | .again c'=>c'.quiet=true/\codeAny (model prog w) A c' R s') (fun e s'=>R (.error e) s') s:=by
 show wpAny _ A.in1 (do let old <- Builtin.List.listItems (.ref S);Builtin.List.listUpdate (.ref S) (fun _=>#[]);letGo old.toList.reverse;Builtin.List.listExtendWith (.ref S) (.ref I) .none) _ _ s
 refine wpAny_bind ?_;unfold Builtin.List.listItems;refine wpAny_bind (wpAny_seqItems hS rfl (wpAny_pure ?_));show wpAny _ A.in1 (updateSeq S (fun _=>#[]) >>= fun _=>letGo (#[]:Array Value).toList.reverse >>= fun _=>Builtin.List.listExtendWith (.ref S) (.ref I) .none) _ _ s
 refine wpAny_bind (wpAny_updateSeq hS rfl ?_);have hS₂:=Heap.get?_update_self (Obj.mapSeq (fun _=>(#[]:Array Value))) hS rfl
 have oth:∀ b o,b≠S->s.heap.get? b=some o ->(s.heap.update S (Obj.mapSeq (fun _=>(#[]:Array Value)))).get? b=some o :=
  fun b o hb e=>(Heap.get?_update_other _ _ (Ne.symm hb)).trans e
 refine wpAny_bind (wpAny_letGo ?_);refine AF (hn:=hn) W hT S .none _ (W.frame 0 s.heap _ hst fun b hb o e=>oth b o (fun h=>hSf (h▸hb)) e) hSf hI hS₂ fun s' jX c' hm hS' wO=>?_
 exact hR s' jX c' (Moved.trans (fun _ _ _ h1 h2=>h2.trans h1) ((Moved.refl (wr:=S::wr) (G:=fun g g'=>g'=g) (fun _=>rfl)).then_heap (Nat.le_refl _) fun b o hb e=>oth b o (fun h=>hb (by rw[h];exact List.mem_cons_self)) e) hm) hS' wO
theorem uM{Q:Value->Shared->Prop}{P:Nat->Value->Prop}{St:Nat->Heap->Prop}(W:Walks prog w A.in1.in1 I fp wr n P St)(hT:∀ i (s:Shared),St i s.heap->s.TypeIs (.ref I) "list_reverseiterator")(hst:St 0 s.heap)(hfp:∀ b∈fp,b<s.heap.objs.size)(hI:I∈fp)
  (hQ:∀ s' jX c',Moved (s.heap.objs.size::wr) (fun g g'=>g'=g) { s with heap:=s.heap.push { cls:=.type "list",data:=.seq #[] } } s' ->
   s'.heap.get? s.heap.objs.size=some { cls:=.type "list",dict:=none,data:=.seq jX c',slots:=#[] }->ItemsOf P jX n->Q (.ref s.heap.objs.size) s') (hn:n<=sizeLine) :
  wpAny (model prog w) A (call (.type "list") [.ref I]) Q E s:=by
 have hSf:s.heap.objs.size ∉ fp:=fun hm=>Nat.lt_irrefl _ (hfp _ hm)
 refine callType_codes (Q₁:=fun obj s₁=>obj = .ref s.heap.objs.size/\s₁ ={ s with heap:=s.heap.push { cls:=.type "list",data:=.seq #[] } }) F.called_list (F.typeCall_list_1 _) F.entry_list_init
  (code_list_new _ ⟨rfl,rfl⟩) fun obj s₁ h₁=>?_
 obtain⟨rfl,rfl⟩:=h₁;have hS:(s.heap.push { cls:=.type "list",data:=.seq #[] }).get? s.heap.objs.size=some { cls:=.type "list",data:=.seq #[] }:=Heap.get?_push_size _ rfl;refine⟨⟨_,hS,rfl⟩,F.args_list_init_2 _ _,Hk (hn:=hn) W hT _ (W.frame 0 s.heap _ hst fun b _ o e=>Heap.get?_push_of_some _ e) hSf hI hS fun s' jX c' hm hS' wO=>?_⟩
 exact⟨rfl,hQ s' jX c' hm hS' wO⟩
end
def rE(K:W.Frag)(te:TE):TE:=fun σ H Q=>te σ H fun x H1=>∃ l ys,x = .ref l/\SqL K H1 l ys/\∀ q,H1 q=none->Q (.ref q) (upd H1 q (.lst ys.reverse))
variable{ys:List V}
theorem EI{its:Array Value}{acc:Array Value}(r:Vals ys its.toList)(h:ItemsOf (fun i v=>its[its.size - 1 - i]? = some v) acc its.size):Vals ys.reverse acc.toList:=by
 have e:acc.toList=its.toList.reverse:=by
  apply List.ext_getElem?
  intro i;by_cases hi:i<its.size
  ·have h1:i<acc.size:=by rw[h.1];exact hi
   have h2:=h.2 i acc[i] (by simp[h1])
   rw[List.getElem?_reverse (by simpa using hi)]
   simp only[Array.length_toList,Array.getElem?_toList];rw[h2];simp[h1]
  ·have h1:¬ i<acc.size:=by rw[h.1];exact hi
   rw[List.getElem?_eq_none (by simpa using h1),List.getElem?_eq_none (by simpa using hi)]
 rw[e];exact Vals.reverse r
variable{e:Expr}
theorem sj{p1 p2 lN pos:Pos}(hc:X.calm=true)(hg1:Gl X "list")(hm1:X.mg "list" = none)(hg2:Gl X "reversed")(hm2:X.mg "reversed" = none)(he:PE X e te)
  (hs1:starEach [e] X.env = [(false,eval e X.env)]:=by rfl) (hs2:starEach [.Call (.Name "reversed" p2) [e] [] lN] X.env = [(false,eval (.Call (.Name "reversed" p2) [e] [] lN) X.env)]:=by rfl) :
  PE X (.Call (.Name "list" p1) [.Call (.Name "reversed" p2) [e] [] lN] [] pos) (rE X.K te):=by
 intro gV s σ H Q I h;refine wpAny_Call_Name_kw (jC I hg1 hm1 boot_list ?_);refine PyProof.Rows.callWith_type1 ?_ hs2 rfl;rw[hs2];show wpAny _ _ (spliced ((false,eval (.Call (.Name "reversed" p2) [e] [] lN) X.env)::backTo pos (starEach [] X.env))) _ _ s;refine Calls.spliced_cons ?_;refine wpAny_Call_Name_kw (jC I hg2 hm2 boot_reversed ?_);refine PyProof.Rows.callWith_type1 ?_ hs1 rfl;rw[hs1];show wpAny _ _ (spliced ((false,eval e X.env)::backTo lN (starEach [] X.env))) _ _ s;refine Calls.spliced_cons (thn (he gV s σ H _ I h) fun u s1 hPP=>?_)
 obtain⟨x,H1,I1,r1,l,ys,ex,hl,q⟩:=hPP;subst ex;cases r1;refine Calls.spliced_nil ?_;obtain⟨its,rv,pl,hz⟩:=I1.list hl;have hlt:l<s1.heap.objs.size:=by obtain⟨_,e,_⟩:=pl.isList;exact Heap.lt_size e
 refine call_reversed_list pl.isList (Calls.spliced_nil ?_);have W:=Walks.listRev (prog:=X.prog) (w:=X.w) (A:=X.A.in1.in1) (show X.A.in1.in1.handled=none from I.ok.hd hc) s1.heap.objs.size l (Nat.ne_of_lt hlt) its.toArray;refine uM (s:={ s1 with heap:=s1.heap.push (revObj l ((its.toArray.size:Int) - 1)) }) W (fun i s' st=>st.2.1.typeIs) ⟨Nat.zero_le _,⟨_,Heap.get?_push_size _ rfl,rfl,by simp[revObj]⟩,pl.isList.push _⟩ (fun b hb=>?_) (by simp) (fun s' jX c' hm hS' wO=>?_) ?_
 ·show b<(s1.heap.push _).objs.size;rw[Heap.size_push];rcases List.mem_cons.mp hb with z|z
  ·rw[z];exact Nat.lt_succ_self _
  ·rw[List.mem_singleton.mp z];exact Nat.lt_succ_of_lt hlt
 ·rw[Moved.eq_with hm];have kp:∀ b o,s1.heap.get? b=some o->s'.heap.get? b=some o:=fun b o e=>hm.heap b o (fun z=>by
   have hb:@LT.lt Nat _ b s1.heap.objs.size:=Heap.lt_size e;rcases List.mem_cons.mp z with z|z
   ·rw[z]at hb;simp only[Heap.size_push]at hb;omega
   ·rw[List.mem_singleton.mp z]at hb;omega) (Heap.get?_push_of_some _ (Heap.get?_push_of_some _ e))
  have hv:Vals ys.reverse jX.toList:=EI (its:=its.toArray) (by simpa using rv) wO
  have hf:H1 ((s1.heap.push (revObj l ((its.toArray.size:Int) - 1))).objs.size)=none:=I1.hok.fresh (by rw[Heap.size_push];omega)
  refine⟨.ref _,_,I1.laid (t':=s'.toks) (h':=s'.heap) (o:=.lst ys.reverse) kp (by rw[Heap.size_push];omega) ⟨by rw[List.length_reverse];exact hz,jX.toList,c',hv,by simpa using hS'⟩,rfl,q _ hf⟩
 ·have e:=rv.length;rw[List.size_toArray];omega
variable{x:Str}
section
theorem Gx{y:Addr}{pos:Pos}(hg:Gl X x)(hm:X.mg x=some (.ref y))(hd:(x ==("__debug__":Str))=false:=by decide):PE X (.Name x pos) (tC (.ref y)):=K3 hg hm rfl hd
def IL(_ j:Int):Prop:=0<j/\j<18446744073709551616
theorem yd:OpR X (binaryOp .FloorDiv) (rI IL fun i j=>.int (i / j)):=opI fun i j _ _ _ _ _ hc q=>by
 obtain⟨h1,h2⟩:=hc;have e:i.fdiv j=i / j:=Int.fdiv_eq_ediv_of_nonneg _ (by omega)
 refine floordiv_int (by omega) (by rw[e];exact q) (.inl (PyProof.noPylong_of_log2 ?_))
 have h3:j.natAbs<2 ^ 64:=by omega
 have h4:j.natAbs≠0:=by omega
 exact Nat.lt_trans ((Nat.log2_lt h4).mpr h3) (by decide)
end
def dk(s n:Int)(l:Addr):List (Key×V):=[(.inr "seed",.int s),(.inr "number",.int n),(.inr "left",.ref l)]
variable{l:Addr}
theorem LY{s n:Int}:d9 (dk s n l) (.inr "seed":Key)=some (.int s):=by kernel_rfl
theorem DX{s n:Int}:d9 (dk s n l) (.inr "number":Key)=some (.int n):=by kernel_rfl
theorem Cr{s n:Int}:d9 (dk s n l) (.inr "left":Key)=some (.ref l):=by kernel_rfl
variable{m:Int}
theorem zA{s n:Int}:putK (dk s n l) (.inr "number":Key) (.int m)=dk s m l:=by kernel_rfl
theorem Gd{s n:Int}:putK (dk s n l) (.inr "seed":Key) (.int m)=dk m n l:=by kernel_rfl
structure cy(H:Hp)(d l:Addr)(s n:Int)(ls:List Int):Prop where
 hd:H d=some (.dK (dk s n l))
 hl:H l=some (.lst (ls.map V.int))
 s0:0<=s
 s1:s<2147483647
 n0:0<=n
 l0:∀ x∈ls,0<=x
def nS(H:Hp)(d l:Addr):Prop:=∃ s n ls,cy H d l s n ls
def Kp(d l:Addr)(H H':Hp):Prop:=∀ b o,H b=some o->b≠d->b≠l->H' b=some o
variable{d:Addr}
theorem Kp.refl:Kp d l H H:=fun _ _ h _ _=>h
variable{ls:List Int}
theorem cy.ne{s n:Int}(D:cy H d l s n ls):d≠l:=i6 D.hd D.hl (by intro z;cases z)
theorem cy.num{s n:Int}(D:cy H d l s n ls)(h:0<=m):cy (upd H d (.dK (putK (dk s n l) (.inr "number":Key) (.int m)))) d l s m ls :=
 ⟨by rw[aj,zA],by rw[ai D.ne.symm];exact D.hl,D.s0,D.s1,h,D.l0⟩
theorem cy.UZ{s n:Int}(D:cy H d l s n ls)(h:0<=m)(h2:m<2147483647):cy (upd H d (.dK (putK (dk s n l) (.inr "seed":Key) (.int m)))) d l m n ls :=
 ⟨by rw[aj,Gd],by rw[ai D.ne.symm];exact D.hl,h,h2,D.n0,D.l0⟩
theorem cy.list{s n:Int}{ls':List Int}(D:cy H d l s n ls)(h:∀ x∈ls',0<=x):cy (upd H l (.lst (ls'.map V.int))) d l s n ls' :=
 ⟨by rw[ai D.ne];exact D.hd,aj,D.s0,D.s1,D.n0,h⟩
variable{H1:Hp}{o:HO}
theorem Kp.Nz(a:Kp d l H H1):Kp d l H (upd H1 d o):=fun c u h h1 h2=>by rw[ai h1];exact a c u h h1 h2
theorem Kp.UQ(a:Kp d l H H1):Kp d l H (upd H1 l o):=fun c u h h1 h2=>by rw[ai h2];exact a c u h h1 h2
theorem mj.new{p:Addr}(a:mj H H1)(hp:H1 p=none):mj H (upd H1 p o):=fun c u h=>by
 have z:=a c u h;rw[ai (aI z hp)];exact z
theorem nS.new{p:Addr}(D:nS H d l)(hp:H p=none):nS (upd H p o) d l:=by
 obtain⟨s,n,ls,D⟩:=D;exact⟨s,n,ls,by rw[ai (aI D.hd hp)];exact D.hd,by rw[ai (aI D.hl hp)];exact D.hl,D.s0,D.s1,D.n0,D.l0⟩
def EY:Sp:=fun vs H Q _=>∃(d l:Addr)(m:Int),vs = [.ref d,.int m]/\nS H d l/\0<m/\m<18446744073709551616 /\
 ∀(r:Int)(H':Hp),0<=r->r<m->nS H' d l->Kp d l H H'->Q (.int r) H'
def NU(K:W.Frag):Sp:=fun vs H Q _=>∃(a:Addr)(ns:List Int)(b:Int),vs = [.ref a,.int b]/\SqL K H a (ns.map V.int)/\ns.length<=63/\0<=b/\b<=63 /\
 ∀(d l:Addr)(H':Hp),H d=none->H l=none->nS H' d l->mj H H'->Q (.ref d) H'
variable{D:Ends}
theorem C4{c:TT}{tb:TS}{σ:St}(I:Nat->St->Hp->Prop){m:Nat}(h0:I m σ H)(DT:∀ m σ H,I m σ H->D.nx σ H)
  (hs:∀ m σ H,I m σ H->D.nx σ H->c σ H fun b H1=>if b=true then ∃ N:St->Hp->Prop,(∀ σ' H',N σ' H'->∃ m',m'<m/\I m' σ' H')/\tb { D with nx:=N,ct:=N,bk:=D.nx } σ H1 else D.nx σ H1):y8 c tb D σ H :=
 ⟨I,⟨m,h0⟩,fun m σ H h=>hs m σ H h (DT m σ H h)⟩
theorem cy.Hx{s n:Int}(D:cy H d l s n ls):g9 H d (.str "seed") (some (.int s)):=by
 have z:=g9.k (k:=(Sum.inr "seed":Key)) D.hd;rw[LY]at z;exact z
theorem cy.SK{s n:Int}(D:cy H d l s n ls):g9 H d (.str "number") (some (.int n)):=by
 have z:=g9.k (k:=(Sum.inr "number":Key)) D.hd;rw[DX]at z;exact z
theorem cy.Nj{s n:Int}(D:cy H d l s n ls):g9 H d (.str "left") (some (.ref l)):=by
 have z:=g9.k (k:=(Sum.inr "left":Key)) D.hd;rw[Cr]at z;exact z
theorem cy.RH{s n:Int}(D:cy H d l s n ls):xA H d (.str "number") (.int m) (upd H d (.dK (putK (dk s n l) (.inr "number":Key) (.int m)))) :=
 xA.k (k:=(Sum.inr "number":Key)) D.hd (aA (by show 3<=1000;decide))
theorem cy.RG{s n:Int}(D:cy H d l s n ls):xA H d (.str "seed") (.int m) (upd H d (.dK (putK (dk s n l) (.inr "seed":Key) (.int m)))) :=
 xA.k (k:=(Sum.inr "seed":Key)) D.hd (aA (by show 3<=1000;decide))
theorem mod_lt{x:Int}(h:0<m):0<=x % m/\x % m<m:=⟨Int.emod_nonneg _ (by omega),Int.emod_lt_of_pos _ h⟩
end L2
namespace L2
theorem HW(ns:List Int)(lo hi:Option Int):∃ cs:List Int,md (ns.map V.int) lo hi=cs.map V.int/\cs.length<=ns.length:=by
 refine⟨(ns.drop (HT.sIx ns.length 0 lo)).take (HT.sIx ns.length ns.length hi - HT.sIx ns.length 0 lo),?_,?_⟩
 ·unfold md;rw[List.length_map,<- List.map_drop,<- List.map_take]
 ·rw[List.length_take,List.length_drop];exact Nat.le_trans (Nat.min_le_right _ _) (Nat.sub_le _ _)
theorem int_at{ns:List Int}{i:Nat}{x:V}(h:(ns.map V.int)[i]? = some x):∃ z,x = .int z:=by
 rw[List.getElem?_map]at h;cases e:ns[i]? with
 | none=>rw[e]at h;cases h
 | some z=>rw[e]at h;exact⟨z,(Option.some.inj h).symm⟩
theorem LG{ns:List Int}{i:Nat}{x:V}(h:(ns.map V.int)[i]? = some x):∃ z,x = .int z/\z∈ns:=by
 rw[List.getElem?_map]at h;cases e:ns[i]? with
 | none=>rw[e]at h;cases h
 | some z=>rw[e]at h;exact⟨z,(Option.some.inj h).symm,List.mem_of_getElem? e⟩
end L2
namespace L2
open PySem
theorem Qe{α:Type}{xs:List α}{i:Int}(h0:0<=i)(h1:i<xs.length):∃ v,atI xs i=some v/\v∈xs:=by
 obtain⟨n,rfl⟩:∃ n:Nat,i=n:=⟨i.toNat,by omega⟩
 have h2:n<xs.length:=by omega
 refine⟨xs[n],?_,List.getElem_mem h2⟩;unfold atI ixN;rw[if_pos h0,if_pos h1];simp[h2]
variable{n:Nat}
theorem bf(h:n<=10000):n<=sizeLine:=by
 have:(10000:Nat)<=sizeLine:=by decide
 omega
end L2
namespace L2
end L2
namespace L2
open PySem PySem.Spec PyProof.Rows
def strsOf:List Expr->Option (List Str)
 | []=>some []
 | .Constant (.str x) _ _::r=>(strsOf r).map (x :: ·)
 | _=>none
theorem BR{X:Cx}:∀{es:List Expr}{ws:List Str},strsOf es=some ws->PA X es (fun _ H Q=>Q (ws.map V.str) H)
 | [],ws,h=>by
  cases h;exact eB
 | e::es,ws,h=>by
  unfold strsOf at h
  split at h
  ·rename_i h1;cases h1
  ·rename_i x j pos r h1;cases h1;cases e1:strsOf es with
   | none=>rw[e1]at h;cases h
   | some ws' =>
    rw[e1]at h;cases h;exact bw cS (BR e1)
  ·cases h
end L2
namespace L2
variable{H:Hp}
theorem LR{i:Nat}{x:V}{σ:St}{A B:St->Hp->Prop}(h:A (σ.set i (some x)) H):fG i x σ H fun σ2 H3=>Bf σ2 H3 fun b H4=>if b=true then A σ2 H4 else B σ2 H4:=by
 show if true=true then A (σ.set i (some x)) H else B (σ.set i (some x)) H
 rw[if_pos rfl];exact h
end L2
namespace L2
end L2
namespace L2
open PySem PySem.Spec PyProof.Rows
section
variable{X:Cx}
def jr(z:Str)(n:Nat):Str:=⟨(List.replicate n z.cps).foldl (· ++ ·) #[]⟩
theorem xO(c:Array Nat):∀(n:Nat)(acc:Array Nat),((List.replicate n c).foldl (· ++ ·) acc).size=acc.size+n*c.size
 | 0,acc=>by simp
 | n+1,acc=>by
  rw[List.replicate_succ,List.foldl_cons,xO c n,Array.size_append,Nat.add_mul];omega
theorem gG(z:Str)(n:Nat):(jr z n).length=n*z.length:=by
 have h:=xO z.cps n #[];simpa [jr,Str.length]using h
theorem zN:OpR X (binaryOp .Mult) (fun x y H Q=>∃ z n,x = .str z/\y = .int n/\0<=n/\n<=1000/\z.length<=1000/\Q (.str (jr z n.toNat)) H):=by
 intro gV s σ H x y v u Q I rx ry h;obtain⟨z,n,rfl,rfl,n0,n1,hz,q⟩:=h;obtain⟨t,rfl⟩:=rx;obtain⟨t',rfl⟩:=ry;have fin:∀(y:Str)(t' k:Nat),y=jr z n.toNat->EP X gV σ Q (.str y t') { s with toks:=k }:=fun y t' k e=>by subst e;exact⟨.str _,H,I.tok k,⟨_,rfl⟩,q⟩
 have hp:((z.length:Int)*n)<=1000000:=by
  have h1:(z.length:Int)*n<=1000*n:=Int.mul_le_mul_of_nonneg_right (by omega) n0
  omega
 refine P.mul_str ?_ (fun h1 _=>?_) (fun h1 _=>?_) ?_
 ·rw[decide_eq_false (by omega),decide_eq_false (by omega)];rfl
 ·have h2:(1000:Int) <=(2 ^ 63 - 1) / n:=by
   rw[Int.le_ediv_iff_mul_le (by omega)]
   omega
  omega
 ·unfold Builtin.Str.tooLong;have h2:z.length*n.toNat<=1000000:=by
   have e:((z.length*n.toNat:Nat):Int) =(z.length:Int)*n:=by rw[Int.natCast_mul,Int.toNat_of_nonneg n0]
   omega
  have:sizeLine=16777216:=sizeLine_eq
  exact decide_eq_false (by omega)
 ·by_cases h1:n<1
  ·rw[if_pos h1];have e:n.toNat=0:=by omega
   exact⟨by decide,fin _ _ _ (by rw[e];rfl)⟩
  ·rw[if_neg h1];by_cases h2:(n==1||z.length==0)=true
   ·rw[if_pos h2];refine fin z t s.toks ?_;have h3:n=1\/z.length=0:=by simpa using h2
    rcases h3 with h3|h3
    ·subst h3;show z =⟨#[]++z.cps⟩;simp
    ·have e1:z.cps = #[]:=by simpa [Str.length]using h3
     have e2:=gG z n.toNat;rw[h3]at e2;have e3:(jr z n.toNat).cps = #[]:=by simpa [Str.length]using e2
     exact Str.ext' (by rw[e1,e3])
   ·rw[if_neg h2];refine⟨?_,fin _ _ _ rfl⟩;have e:=gG z n.toNat;have h3:n.toNat*z.length<=1000000:=by
     have e:((n.toNat*z.length:Nat):Int) =(z.length:Int)*n:=by rw[Int.natCast_mul,Int.toNat_of_nonneg n0,Int.mul_comm]
     omega
    have:sizeLine=16777216:=sizeLine_eq
    show(jr z n.toNat).length<=sizeLine;omega
end
end L2
namespace L2
open PySem
def qz(n:Nat):Nat:=97+n % 26
def dn(c1 c2:Str)(turn k:Nat):Str:=c1++⟨#[qz (turn+7*k)]⟩++c2++jr "x" (k % 2)++jr "y" (k / 26)
theorem tU(c1 c2:Str)(turn k:Nat):(dn c1 c2 turn k).cps.toList=c1.cps.toList++qz (turn+7*k) ::(c2.cps.toList++(jr "x" (k % 2)).cps.toList++(jr "y" (k / 26)).cps.toList):=by
 simp[dn,Str.cps_append]
theorem ku(c1 c2:Str)(turn k:Nat):(dn c1 c2 turn k).length=c1.length+1+c2.length+k % 2+k / 26:=by
 unfold dn;rw[Str.length_append,Str.length_append,Str.length_append,Str.length_append,gG,gG,show(⟨#[qz (turn+7*k)]⟩:Str).length=1 from rfl,show(Str.ofString "x").length=1 from by decide +kernel,show(Str.ofString "y").length=1 from by decide +kernel]
 omega
theorem S4{a:List Nat}{x y:Nat}{b c:List Nat}(h:a++x::b=a++y::c):x=y:=by
 have:=List.append_cancel_left h
 exact(List.cons.inj this).1
variable{turn:Nat}{j:Nat}
theorem DL{k:Nat}(hk:k<52)(hj:j<52)(h:qz (turn+7*k)=qz (turn+7*j)):k % 26=j % 26:=by
 unfold qz at h;omega
theorem Bt:(jr "y" 1).cps.toList = [121]:=by decide +kernel
theorem xN(z:Str):(jr z 0).cps.toList = []:=by simp[jr]
variable{c1:Str}{c2:Str}
theorem vL{k:Nat}(hk:k<52)(hj:j<52)(hne:k≠j){e f:Str}(he:e=Str.empty\/e = "q")(hf:f=Str.empty\/f = "q"):dn c1 c2 turn k++e≠dn c1 c2 turn j++f:=by
 intro h;have hc:(dn c1 c2 turn k).cps.toList++e.cps.toList =(dn c1 c2 turn j).cps.toList++f.cps.toList:=by
  have:=congrArg (fun z:Str=>z.cps.toList) h
  simpa [Str.cps_append]using this
 have hl:(dn c1 c2 turn k).length+e.length =(dn c1 c2 turn j).length+f.length:=by
  rw[<- Str.length_append,h,Str.length_append]
 rw[tU,tU]at hc;simp only[List.append_assoc,List.cons_append]at hc;have hm:=DL hk hj (S4 hc);have h1:k % 2=j % 2:=by rw[<- Nat.mod_mod_of_dvd k (by decide:2∣26),hm,Nat.mod_mod_of_dvd j (by decide:2∣26)]
 have hd:(k / 26=0/\j / 26=1)\/(k / 26=1/\j / 26=0):=by omega
 rw[ku,ku]at hl;have l0:Str.empty.length=0:=rfl;have lq:(Str.ofString "q").length=1:=by decide +kernel
 have tail:=(List.cons.inj (List.append_cancel_left hc)).2;rw[h1]at tail;have kF:=List.append_cancel_left (List.append_cancel_left tail);have eq:(Str.ofString "q").cps.toList = [113]:=by decide +kernel
 have ee:Str.empty.cps.toList = []:=rfl;rcases hd with⟨d1,d2⟩ |⟨d1,d2⟩
 ·rw[d1,d2,xN,Bt]at kF;rcases he with rfl|rfl
  ·rw[ee]at kF;simp at kF
  ·rw[eq]at kF
   have:=congrArg List.head? kF
   simp at this
 ·rw[d1,d2,xN,Bt]at kF;rcases hf with rfl|rfl
  ·rw[ee]at kF;simp at kF
  ·rw[eq]at kF
   have:=congrArg List.head? kF
   simp at this
theorem nodup_range{f:Nat->Str}{n:Nat}(h:∀ i j,i<n->j<n->i≠j->f i≠f j):((List.range n).map f).Nodup:=by
 rw[List.nodup_iff_pairwise_ne,List.pairwise_map];refine List.Pairwise.imp_of_mem ?_ (List.nodup_iff_pairwise_ne.mp List.nodup_range);intro i j hi hj hne;exact h i j (List.mem_range.mp hi) (List.mem_range.mp hj) hne
variable{ws:List Str}
theorem DE{i:Nat}{w:Str}(h:ws.Nodup)(hw:w ∉ ws):(ws.set i w).Nodup:=by
 induction ws generalizing i with
 | nil=>simp
 | cons a r ih =>
  obtain⟨h1,h2⟩:=List.nodup_cons.mp h;have hw1:w≠a:=fun z=>hw (by simp[z])
  have hw2:w ∉ r:=fun z=>hw (List.mem_cons_of_mem _ z)
  cases i with
  | zero=>exact List.nodup_cons.mpr ⟨hw2,h2⟩
  | succ i =>
   refine List.nodup_cons.mpr ⟨fun z=>?_,ih h2 hw2⟩
   rcases List.mem_or_eq_of_mem_set z with z|z
   ·exact h1 z
   ·exact hw1 z.symm
end L2
namespace L2
open PySem
variable{ws:List Str}
theorem Ca{w:Str}(h:inV (.str w) (ws.map V.str)=false):w ∉ ws:=fun hm=>by
 unfold inV at h;rw[List.any_eq_false]at h;exact h (.str w) (List.mem_map.mpr ⟨w,hm,rfl⟩) (show(w==w)=true from beq_self_eq_true w)
def wordOf(kept:List Str)(c1 c2:Str)(turn k:Nat):Str:=dn c1 c2 turn k++(if inV (.str (dn c1 c2 turn k)) (kept.map V.str)=true then("q":Str)else Str.empty)
variable{c1:Str}{c2:Str}{turn:Nat}{j:Nat}
theorem C3{kept:List Str}{k:Nat}(hk:k<52)(hj:j<52)(hne:k≠j):wordOf kept c1 c2 turn k≠wordOf kept c1 c2 turn j:=by
 unfold wordOf;refine vL hk hj hne ?_ ?_
 ·split
  ·exact .inr rfl
  ·exact .inl rfl
 ·split
  ·exact .inr rfl
  ·exact .inl rfl
theorem y3{kept:List Str}{k:Nat}(h1:c1.length<=5)(h2:c2.length<=5)(hk:k<52):1 <=(wordOf kept c1 c2 turn k).length/\(wordOf kept c1 c2 turn k).length<=20:=by
 unfold wordOf;rw[Str.length_append,ku];have l0:Str.empty.length=0:=rfl;have lq:(Str.ofString "q").length=1:=by decide +kernel
 split <;> omega
end L2
namespace L2
open PySem PySem.Spec PyProof.Rows
abbrev Mk1:=Str×List Str
abbrev Kd:=Str×List Mk1
def G0(ks:List Kd)(k:Str):List Mk1:=match ks.find? (fun x=>decide (x.1=k))with
 | some x=>x.2
 | none=>[]
variable{it:Addr}{items:Array Value}{Q:Value->Shared->Prop}{h':Heap}{tp:Bool}{l:Addr}{l1:Addr}{l2:Addr}{t1:Bool}{t2:Bool}
section
variable{prog:Program}{w:World}{A:Around}{E:Value->Shared->Prop}{s:Shared}
theorem uz{t:Addr}{i:Nat}{x:Value}(hit:s.heap.IsTupleIter it t i)(ht:s.heap.IsTuple t items)(hx:items[i]? = some x)
  (hQ:∀ h',h'.IsTupleIter it t (i+1)->Heap.SameBut it s.heap h'->Q x { s with heap:=h' }):wpAny (model prog w) A (Builtin.SmallTypes.nextOf (.ref it)) Q E s:=by
 obtain⟨o,ho,hc,hd⟩:=id hit;obtain⟨ol,hol,_,nl,hdl⟩:=ht;unfold Builtin.SmallTypes.nextOf;refine wpAny_bind (wpAny_callSpecial?_slot (name:=Str.ofString "__next__") hit.typeIs F.slot_tuple_iterator_next
  (wpAny_call_entry F.slot_tuple_iterator_next hit.typeIs F.entry_tuple_iterator_next ?_ (F.args_tuple_iterator_next_1 _)))
 show wpAny _ _ (field (.ref it) 0 >>= _) _ _ s;refine wpAny_bind (wpAny_field ho hd (x:=.ref t) rfl ?_);show wpAny _ _ (if(Value.ref t==Value.none)=true then _ else _) _ _ s
 rw[if_neg (show ¬((Value.ref t==Value.none)=true)from Bool.false_ne_true)];show wpAny _ _ (field (.ref it) 1 >>= _) _ _ s;refine wpAny_bind (wpAny_field ho hd (x:=.int i 0) rfl ?_);show wpAny _ _ (seqItems? (.ref t) >>= _) _ _ s;refine wpAny_bind (wpAny_seqItems hol hdl ?_);simp only[Int.toNat_natCast,hx];refine wpAny_bind (wpAny_setField ho hd (by simp) (wpAny_pure ⟨x,rfl,wpAny_pure (hQ _ ?_ (Heap.SameBut.update ..))⟩))
 exact⟨_,Heap.get?_update_self _ ho (Obj.isFreed_of_fields (Obj.data_mapFields hd _)),(Obj.cls_mapFields ..).trans hc,by
  rw[Obj.data_mapFields hd];simp[rawInt]⟩
theorem wB{t:Addr}{i:Nat}(hh:A.handled=none)(hit:s.heap.IsTupleIter it t i)(ht:s.heap.IsTuple t items)(hx:items[i]? = none)
  (hE:∀ h' e,Heap.ExtBut it s.heap h' ->(∃ o,h'.get? e=some o/\o.cls = .type "StopIteration")->E (.ref e) { s with heap:=h' }):wpAny (model prog w) A (Builtin.SmallTypes.nextOf (.ref it)) Q E s:=by
 obtain⟨o,ho,hc,hd⟩:=id hit;obtain⟨ol,hol,_,nl,hdl⟩:=ht;unfold Builtin.SmallTypes.nextOf;refine wpAny_bind (wpAny_callSpecial?_slot (name:=Str.ofString "__next__") hit.typeIs F.slot_tuple_iterator_next
  (wpAny_call_entry F.slot_tuple_iterator_next hit.typeIs F.entry_tuple_iterator_next ?_ (F.args_tuple_iterator_next_1 _)))
 show wpAny _ _ (field (.ref it) 0 >>= _) _ _ s;refine wpAny_bind (wpAny_field ho hd (x:=.ref t) rfl ?_);show wpAny _ _ (if(Value.ref t==Value.none)=true then _ else _) _ _ s
 rw[if_neg (show ¬((Value.ref t==Value.none)=true)from Bool.false_ne_true)];show wpAny _ _ (field (.ref it) 1 >>= _) _ _ s;refine wpAny_bind (wpAny_field ho hd (x:=.int i 0) rfl ?_);show wpAny _ _ (seqItems? (.ref t) >>= _) _ _ s;refine wpAny_bind (wpAny_seqItems hol hdl ?_);simp only[Int.toNat_natCast,hx];refine wpAny_bind (wpAny_rule (wpAny_bind (wpAny_setField ho hd (by simp) ?_)))
 show wpAny _ _ (newExc (.type "StopIteration") [] >>= _) _ _ _;refine wpAny_bind ?_;simp only[newExc,newTuple];refine wpAny_bind (wpAny_newObj_type ?_ (by size_fits))
 refine wpAny_bind (m:=firstArgMember _ _) (wpAny_of_eq (a:=Value.none) (by first|rfl |(simp only[firstArgMember];rfl)) ?_)
 refine wpAny_newObj_type ?_ (by size_fits)
 simp only[raiseNew];refine wpAny_bind (wpAny_handled ?_)
 first|rw[show A.in1.handled=none from hh]|rw[hh]
 refine wpAny_bind (wpAny_pure (wpAny_throw ?_));exact hE _ _ (((Heap.SameBut.update ..).extBut.push _).push _) ⟨_,Heap.get?_push_size _ rfl,rfl⟩
def aZ(h:Heap)(tp:Bool)(it l:Addr)(k:Nat):Prop:=if tp=true then h.IsTupleIter it l k else h.IsListIter it l k
def bH(h:Heap)(tp:Bool)(l:Addr)(items:Array Value):Prop:=if tp=true then h.IsTuple l items else h.IsList l items
theorem aZ.at{h:Heap}{k:Nat}(x:aZ h tp it l k)(e:∀ o,h.get? it=some o->h'.get? it=some o):aZ h' tp it l k:=by
 cases tp with
 | true=>obtain⟨o,ho,r⟩:=(show h.IsTupleIter it l k from x);exact(show h'.IsTupleIter it l k from⟨o,e o ho,r⟩)
 | false=>obtain⟨o,ho,r⟩:=(show h.IsListIter it l k from x);exact(show h'.IsListIter it l k from⟨o,e o ho,r⟩)
theorem bH.at{h:Heap}(x:bH h tp l items)(e:∀ o,h.get? l=some o->h'.get? l=some o):bH h' tp l items:=by
 cases tp with
 | true=>obtain⟨o,ho,r⟩:=(show h.IsTuple l items from x);exact(show h'.IsTuple l items from⟨o,e o ho,r⟩)
 | false=>obtain⟨o,ho,r⟩:=(show h.IsList l items from x);exact(show h'.IsList l items from⟨o,e o ho,r⟩)
theorem aZ.obj{h:Heap}{k:Nat}(x:aZ h tp it l k):∃ o,h.get? it=some o/\∀ v,o.data ≠ .cell v:=by
 cases tp with
 | true=>obtain⟨o,ho,_,hd⟩:=(show h.IsTupleIter it l k from x);exact⟨o,ho,fun v=>by rw[hd];simp⟩
 | false=>obtain⟨o,ho,_,hd⟩:=(show h.IsListIter it l k from x);exact⟨o,ho,fun v=>by rw[hd];simp⟩
theorem next_item{i:Nat}{x:Value}(hit:aZ s.heap tp it l i)(hl:bH s.heap tp l items)(hx:items[i]? = some x)
  (hQ:∀ h',aZ h' tp it l (i+1)->Heap.SameBut it s.heap h'->Q x { s with heap:=h' }):wpAny (model prog w) A (Builtin.SmallTypes.nextOf (.ref it)) Q E s:=by
 cases tp with
 | true=>exact uz hit hl hx hQ
 | false=>exact wpAny_nextOf_list_item hit hl hx hQ
theorem next_end{i:Nat}(hh:A.handled=none)(hit:aZ s.heap tp it l i)(hl:bH s.heap tp l items)(hx:items[i]? = none)
  (hE:∀ h' e,Heap.ExtBut it s.heap h' ->(∃ o,h'.get? e=some o/\o.cls = .type "StopIteration")->E (.ref e) { s with heap:=h' }):wpAny (model prog w) A (Builtin.SmallTypes.nextOf (.ref it)) Q E s:=by
 cases tp with
 | true=>exact wB hh hit hl hx hE
 | false=>exact wpAny_nextOf_list_end hh hit hl hx hE
theorem Eu{z TI TO i1 i2:Addr}{k1 k2:Nat}{xs ys:Array Value}{x y a b:Value}{Q:Option Value->Shared->Prop}(D:ZipApart z TI TO i1 i2 l1 l2)
  (hz:IsZip s.heap z TI TO .none) (hTI:IsPair s.heap TI (.ref i1) (.ref i2)) (hTO:IsPair s.heap TO a b)
  (h1:aZ s.heap t1 i1 l1 k1) (h2:aZ s.heap t2 i2 l2 k2) (hl1:bH s.heap t1 l1 xs) (hl2:bH s.heap t2 l2 ys) (hx:xs[k1]? = some x) (hy:ys[k2]? = some y)
  (hQ:∀ h',IsZip h' z TI TO (rawInt s.heap.objs.size)->IsPair h' TO x y->aZ h' t1 i1 l1 (k1+1)->aZ h' t2 i2 l2 (k2+1)->IsPair h' s.heap.objs.size x y->h'.objs.size=s.heap.objs.size+1 ->
   (∀ c o,c≠z->c≠TO->c≠i1->c≠i2->s.heap.get? c=some o->h'.get? c=some o)->Q (some (.ref s.heap.objs.size)) { s with heap:=h' }) :
  wpAny (model prog w) A (pyNext (.ref z)) Q E s:=by
 have hT:s.TypeIs (.ref z) "zip":=⟨_,hz,rfl⟩;unfold pyNext;refine wpAny_bind (wpAny_attempt (wpAny_callSpecial?_slot (name:=Str.ofString "__next__") hT F.slot_zip_next
  (wpAny_call_entry F.slot_zip_next hT F.entry_zip_next ?_ (F.args_zip_next_1 _))))
 show wpAny _ _ (field (.ref z) 2 >>= _) _ _ _;refine wpAny_bind (wpAny_field hz rfl (x:=.bool false) rfl ?_);show wpAny _ _ (field (.ref z) 3 >>= _) _ _ _;refine wpAny_bind (wpAny_field hz rfl (x:=.ref TI) rfl ?_);refine wpAny_bind (wpAny_seqItems hTI rfl ?_);show wpAny _ _ (Builtin.SmallTypes.ownedTupleIsFree (.ref z) >>= _) _ _ _;refine wpAny_bind ?_;unfold Builtin.SmallTypes.ownedTupleIsFree;refine wpAny_bind (wpAny_field hz rfl (x:=.none) rfl (wpAny_pure ?_));simp only[if_true];refine wpAny_bind (wpAny_rule ?_);refine wpAny_bind (wpAny_field hz rfl (x:=.ref TO) rfl ?_);refine wpAny_bind (wpAny_setField_rec hz (by simp) fun h₁ hz₁ hs₁=>?_)
 replace hz₁:IsZip h₁ z TI TO .ellipsis:=hz₁
 refine wpAny_bind ?_;simp only[List.zipIdx_cons,List.zipIdx_nil,List.forIn_cons,List.forIn_nil];refine wpAny_bind (wpAny_bind (wpAny_onRaise ?_));show wpAny _ _ (Builtin.SmallTypes.nextOf (.ref i1) >>= _) _ _ _;refine wpAny_bind (next_item (h1.at fun o e=>hs₁.extBut _ o D.i1z e) (hl1.at fun o e=>hs₁.extBut _ o D.l1z e) hx fun h₂ h1₂ hs₂=>wpAny_pure ?_)
 have Hv:IsPair h₂ TO a b:=hs₂.extBut _ _ D.TOi1 (hs₁.extBut _ _ D.TOz hTO);refine wpAny_bind (wpAny_seqItems Hv rfl ?_);refine wpAny_bind (wpAny_updateSeq_pair Hv fun h₃ LQ hs₃=>?_)
 replace LQ:IsPair h₃ TO x b:=LQ
 refine wpAny_bind (wpAny_letGo (wpAny_pure ?_));refine wpAny_bind (wpAny_bind (wpAny_onRaise ?_));show wpAny _ _ (Builtin.SmallTypes.nextOf (.ref i2) >>= _) _ _ _;refine wpAny_bind (next_item (h2.at fun o e=>hs₃.extBut _ o D.TOi2.symm (hs₂.extBut _ o D.i12.symm (hs₁.extBut _ o D.i2z e)))
  (hl2.at fun o e=>hs₃.extBut _ o D.l2TO (hs₂.extBut _ o D.l2i1 (hs₁.extBut _ o D.l2z e))) hy fun h₄ h2₄ hs₄=>wpAny_pure ?_)
 have SG:IsPair h₄ TO x b:=hs₄.extBut _ _ D.TOi2 LQ;refine wpAny_bind (wpAny_seqItems SG rfl ?_);refine wpAny_bind (wpAny_updateSeq_pair SG fun h₅ LP hs₅=>?_)
 replace LP:IsPair h₅ TO x y:=LP
 refine wpAny_bind (wpAny_letGo (wpAny_pure (wpAny_pure ?_)));refine wpAny_bind (wpAny_seqItems LP rfl ?_);refine wpAny_bind (wpAny_newTuple ?_);have hsz:h₅.objs.size=s.heap.objs.size:=by rw[hs₅.1,hs₄.1,hs₃.1,hs₂.1,hs₁.1]
 have hz₅:IsZip h₅ z TI TO .ellipsis:=hs₅.extBut _ _ D.TOz.symm (hs₄.extBut _ _ D.i2z.symm (hs₃.extBut _ _ D.TOz.symm (hs₂.extBut _ _ D.i1z.symm hz₁)));have hk₅:∀ c o,c≠z->c≠TO->c≠i1->c≠i2->s.heap.get? c=some o->h₅.get? c=some o:=fun c o c1 c2 c3 c4 e =>
  hs₅.extBut _ _ c2 (hs₄.extBut _ _ c4 (hs₃.extBut _ _ c2 (hs₂.extBut _ _ c3 (hs₁.extBut _ _ c1 e))))
 have h1₅:aZ h₅ t1 i1 l1 (k1+1):=h1₂.at fun o e=>hs₅.extBut _ o D.TOi1.symm (hs₄.extBut _ o D.i12 (hs₃.extBut _ o D.TOi1.symm e))
 have h2₅:aZ h₅ t2 i2 l2 (k2+1):=h2₄.at fun o e=>hs₅.extBut _ o D.TOi2.symm e
 have Sm:z<h₅.objs.size:=Heap.lt_size hz₅;show wpAny _ _ (Builtin.SmallTypes.ownedTupleHandOut (.ref z) (.ref h₅.objs.size) >>= _) _ _ _;refine wpAny_bind ?_;unfold Builtin.SmallTypes.ownedTupleHandOut;have hz₆:IsZip (h₅.push { cls:=.type "tuple",data:=.seq #[x,y] }) z TI TO .ellipsis:=Heap.get?_push_of_some _ hz₅;refine wpAny_bind (wpAny_setField_rec hz₆ (by simp) fun h₇ hz₇ hs₇=>?_)
 replace hz₇:IsZip h₇ z TI TO (rawInt h₅.objs.size):=hz₇
 refine wpAny_setField_rec hz₇ (by simp) fun h₈ hz₈ hs₈=>?_
 replace hz₈:IsZip h₈ z TI TO (rawInt h₅.objs.size):=hz₈
 have up:∀ c o,c≠z->h₅.get? c=some o->h₈.get? c=some o:=fun c o c1 e=>hs₈.extBut _ _ c1 (hs₇.extBut _ _ c1 (Heap.get?_push_of_some _ e))
 have hT₈:IsPair h₈ h₅.objs.size x y:=hs₈.extBut _ _ (Nat.ne_of_gt Sm) (hs₇.extBut _ _ (Nat.ne_of_gt Sm) (Heap.get?_push_size _ rfl));have hz8:h₈.objs.size=h₅.objs.size+1:=by rw[hs₈.1,hs₇.1,Heap.size_push]
 rw[hsz]at hz₈ hT₈ hz8;refine wpAny_pure ⟨_,rfl,wpAny_pure ?_⟩;show Q (some (.ref h₅.objs.size)) _;rw[hsz];exact hQ h₈ hz₈ (up _ _ D.TOz LP) (h1₅.at fun o e=>up _ o D.i1z e) (h2₅.at fun o e=>up _ o D.i2z e) hT₈ hz8 fun c o c1 c2 c3 c4 e=>up c o c1 (hk₅ c o c1 c2 c3 c4 e)
theorem JF{z TI TO i1 i2:Addr}{k1 k2:Nat}{xs ys:Array Value}{a b:Value}{Q:Option Value->Shared->Prop}(hh:A.handled=none)(D:ZipApart z TI TO i1 i2 l1 l2)
  (hz:IsZip s.heap z TI TO .none) (hTI:IsPair s.heap TI (.ref i1) (.ref i2)) (hTO:IsPair s.heap TO a b)
  (h1:aZ s.heap t1 i1 l1 k1) (h2:aZ s.heap t2 i2 l2 k2) (hl1:bH s.heap t1 l1 xs) (hl2:bH s.heap t2 l2 ys) (DT:xs[k1]? = none\/ys[k2]? = none)
  (hQ:∀ h',(∀ c o,c≠z->c≠TO->c≠i1->c≠i2->s.heap.get? c=some o->h'.get? c=some o)->Q none { s with heap:=h' }):wpAny (model prog w) A (pyNext (.ref z)) Q E s:=by
 have hT:s.TypeIs (.ref z) "zip":=⟨_,hz,rfl⟩;have fin:∀ h' e,(∀ c o,c≠z->c≠TO->c≠i1->c≠i2->s.heap.get? c=some o->h'.get? c=some o) ->(∃ o,h'.get? e=some o/\o.cls = .type "StopIteration") ->
   wpAny (model prog w) A (do if <- isInstance (.ref e) (.type "StopIteration")then pure none else throw (.ref e)) Q E { s with heap:=h' }:=fun h' e hk he=>by
  obtain⟨o,ho,hc⟩:=he;refine wpAny_bind (wpAny_isInstance (T:="StopIteration") (b:=true) ⟨o,ho,hc⟩ isSubtype_stop ?_);exact wpAny_pure (hQ _ hk)
 unfold pyNext;refine wpAny_bind (wpAny_attempt (wpAny_callSpecial?_slot (name:=Str.ofString "__next__") hT F.slot_zip_next
  (wpAny_call_entry F.slot_zip_next hT F.entry_zip_next ?_ (F.args_zip_next_1 _))))
 show wpAny _ _ (field (.ref z) 2 >>= _) _ _ _;refine wpAny_bind (wpAny_field hz rfl (x:=.bool false) rfl ?_);show wpAny _ _ (field (.ref z) 3 >>= _) _ _ _;refine wpAny_bind (wpAny_field hz rfl (x:=.ref TI) rfl ?_);refine wpAny_bind (wpAny_seqItems hTI rfl ?_);show wpAny _ _ (Builtin.SmallTypes.ownedTupleIsFree (.ref z) >>= _) _ _ _;refine wpAny_bind ?_;unfold Builtin.SmallTypes.ownedTupleIsFree;refine wpAny_bind (wpAny_field hz rfl (x:=.none) rfl (wpAny_pure ?_));simp only[if_true];refine wpAny_bind (wpAny_rule ?_);refine wpAny_bind (wpAny_field hz rfl (x:=.ref TO) rfl ?_);refine wpAny_bind (wpAny_setField_rec hz (by simp) fun h₁ hz₁ hs₁=>?_)
 replace hz₁:IsZip h₁ z TI TO .ellipsis:=hz₁
 refine wpAny_bind ?_;simp only[List.zipIdx_cons,List.zipIdx_nil,List.forIn_cons,List.forIn_nil];refine wpAny_bind (wpAny_bind (wpAny_onRaise ?_));show wpAny _ _ (Builtin.SmallTypes.nextOf (.ref i1) >>= _) _ _ _;cases hx:xs[k1]? with
 | none =>
  refine wpAny_bind (next_end hh (h1.at fun o e=>hs₁.extBut _ o D.i1z e) (hl1.at fun o e=>hs₁.extBut _ o D.l1z e) hx fun h₂ e hs₂ he=>?_)
  obtain⟨oe,hoe,hce⟩:=he;have hz₂:IsZip h₂ z TI TO .ellipsis:=hs₂ _ _ D.i1z.symm hz₁;have hez:e≠z:=fun x=>by subst x;rw[hz₂]at hoe;cases hoe;simp at hce
  refine wpAny_setField_rec hz₂ (by simp) fun h₃ _ hs₃=>fin h₃ e (fun c o c1 _ c3 _ x=>hs₃.extBut _ _ c1 (hs₂ _ _ c3 (hs₁.extBut _ _ c1 x))) ⟨oe,hs₃.extBut _ _ hez hoe,hce⟩
 | some x =>
  have hy:ys[k2]? = none:=by rcases DT with h|h;rw[hx]at h;cases h;exact h
  refine wpAny_bind (next_item (h1.at fun o e=>hs₁.extBut _ o D.i1z e) (hl1.at fun o e=>hs₁.extBut _ o D.l1z e) hx fun h₂ h1₂ hs₂=>wpAny_pure ?_)
  have Hv:IsPair h₂ TO a b:=hs₂.extBut _ _ D.TOi1 (hs₁.extBut _ _ D.TOz hTO);refine wpAny_bind (wpAny_seqItems Hv rfl ?_);refine wpAny_bind (wpAny_updateSeq_pair Hv fun h₃ LQ hs₃=>?_)
  refine wpAny_bind (wpAny_letGo (wpAny_pure ?_));refine wpAny_bind (wpAny_bind (wpAny_onRaise ?_));show wpAny _ _ (Builtin.SmallTypes.nextOf (.ref i2) >>= _) _ _ _;refine wpAny_bind (next_end hh (h2.at fun o e=>hs₃.extBut _ o D.TOi2.symm (hs₂.extBut _ o D.i12.symm (hs₁.extBut _ o D.i2z e)))
   (hl2.at fun o e=>hs₃.extBut _ o D.l2TO (hs₂.extBut _ o D.l2i1 (hs₁.extBut _ o D.l2z e))) hy fun h₄ e hs₄ he=>?_)
  obtain⟨oe,hoe,hce⟩:=he;have hz₄:IsZip h₄ z TI TO .ellipsis:=hs₄ _ _ D.i2z.symm (hs₃.extBut _ _ D.TOz.symm (hs₂.extBut _ _ D.i1z.symm hz₁));have hez:e≠z:=fun x=>by subst x;rw[hz₄]at hoe;cases hoe;simp at hce
  refine wpAny_setField_rec hz₄ (by simp) fun h₅ _ hs₅=>fin h₅ e (fun c o c1 c2 c3 c4 x=>hs₅.extBut _ _ c1 (hs₄ _ _ c4 (hs₃.extBut _ _ c2 (hs₂.extBut _ _ c3 (hs₁.extBut _ _ c1 x))))) ⟨oe,hs₅.extBut _ _ hez hoe,hce⟩
end
def kindOf(ks:List Kd)(m:Str):V:=match ks.find? (fun x=>decide (m∈x.2.map (·.1)))with
 | some x=>.str x.1
 | none=>.non
variable{ws:List Str}
theorem LH{w:Str}:inV (.str w) (ws.map V.str)=true ↔ w∈ws:=by
 constructor
 ·intro h;by_cases hm:w∈ws
  ·exact hm
  ·exfalso
   unfold inV at h;rw[List.any_eq_true]at h;obtain⟨x,hx,e⟩:=h;obtain⟨z,hz,rfl⟩:=List.mem_map.mp hx
   have:z=w:=eq_of_beq (show(z==w)=true from e)
   exact hm (this▸hz)
 ·intro h;unfold inV;rw[List.any_eq_true];exact⟨.str w,List.mem_map.mpr ⟨w,h,rfl⟩,show(w==w)=true from beq_self_eq_true w⟩
def marks(rs:List Str):List (Key×V):=rs.map fun s=>(.inr s,.bl true)
variable{X:Cx}{gV:List (Addr×Obj)}{H:Hp}{t':Nat}{fp:List Addr}
theorem Inv.qJ{σ:St}{s:Shared}(I:Inv X gV σ H s)(k:∀ b o,b ∉ fp->s.heap.get? b=some o->h'.get? b=some o)(hf:∀ b∈fp,ud X gV H b) :
  Inv X gV σ H { s with heap:=h',toks:=t' }:=by
 have nit:∀ b u,H b=some u->b ∉ fp:=fun b u e z=>by
  have:=(hf b z).1
  rw[e]at this;cases this
 refine I.step (g':=s.gens) (d':=s.drawn) (ch:=fp) (fun b hb=>?_) (fun b o _ _ hc e _=>k b o hc e) (fun b o _ _ hc e _=>⟨o.slots,k b o hc e⟩) (fun _ _ _ _ n=>n)
  (fun b o hc e=>⟨o,k b o hc e⟩) (fun _ _ e=>e) (fun _ _ _ e=>e) (fun b ps e=>⟨#[],by rw[e];simp⟩) (fun m hm=>?_) (fun b u e=>?_) I.bare
 ·obtain⟨f0,f1,f2,f3,f4,f5⟩:=hf b hb;exact⟨f3,f1,f4,f5⟩
 ·obtain⟨o,es,ep,ho,r⟩:=hm;exact⟨o,es,ep,k _ o (fun z=>(hf _ z).2.1 rfl) ho,r⟩
 ·refine(I.hok b u e).cN (fun c v hc q=>k c v ?_ q) (fun _ q=>q) fun _ _ q=>q
  rcases hc with z|z
  ·rw[z];exact nit b u e
  ·exact nit c _ z
def SqB(K:W.Frag)(tp:Bool)(H:Hp)(a:Addr)(xs:List V):Prop:=if tp=true then SqT K H a xs else SqL K H a xs
variable{a:Addr}{xs:List V}
theorem Inv.vR{σ:St}{s:Shared}(I:Inv X gV σ H s)(h:SqB X.K tp H a xs):∃ its:List Value,Vals xs its/\bH s.heap tp a its.toArray/\xs.length<=sizeLine:=by
 cases tp with
 | true =>
  obtain⟨its,r,p,z⟩:=I.tuple (show SqT X.K H a xs from h);exact⟨its,r,(show s.heap.IsTuple a its.toArray from p),z⟩
 | false =>
  obtain⟨its,r,p,z⟩:=I.list (show SqL X.K H a xs from h);exact⟨its,r,p.isList,z⟩
variable{ys:List V}
theorem Inv.rQ{σ:St}{s:Shared}(I:Inv X gV σ H s)(h:SqB X.K tp H a xs)(h2:SqB X.K tp H a ys):xs=ys:=by
 cases tp with
 | true=>exact I.uU (show SqT X.K H a xs from h) (show SqT X.K H a ys from h2)
 | false=>exact I.yk (show SqL X.K H a xs from h) (show SqL X.K H a ys from h2)
def Itz(K:W.Frag)(t1 t2:Bool)(l1 l2:Addr):It :=
 ⟨fun i H=>∃ xs ys x y,SqB K t1 H l1 xs/\SqB K t2 H l2 ys/\xs[i]? = some x/\ys[i]? = some y,
   fun i H v H'=>∃(p:Addr)(x y:V),H p=none/\v = .ref p/\H'=upd H p (.tup [x,y])/\(∀ xs,SqB K t1 H l1 xs->xs[i]? = some x)/\∀ ys,SqB K t2 H l2 ys->ys[i]? = some y,
   fun i H=>∃ xs ys,SqB K t1 H l1 xs/\SqB K t2 H l2 ys/\(xs.length<=i\/ys.length<=i)⟩
variable{P:Program}{elts:List Expr}
theorem EM{w:World}{K:W.Frag}{x1}{pos:Pos}(z TI TO i1 i2 l1 l2:Addr)(D:ZipApart z TI TO i1 i2 l1 l2) :
  Turn P w K (.Tuple elts x1 pos) (Itz K t1 t2 l1 l2) [z,TI,TO,i1,i2] z (fun i h=>IsZip h z TI TO .none/\IsPair h TI (.ref i1) (.ref i2)/\(∃ a b,IsPair h TO a b)/\aZ h t1 i1 l1 i/\aZ h t2 i2 l2 i) where
 mem:=by simp
 obj:=by
  rintro i h ⟨h1,h2,⟨a,b,h3⟩,h4,h5⟩ c hc
  simp only[List.mem_cons,List.not_mem_nil,or_false]at hc;rcases hc with rfl|rfl|rfl|rfl|rfl
  ·exact⟨_,h1,fun v e=>by cases e⟩
  ·exact⟨_,h2,fun v e=>by cases e⟩
  ·exact⟨_,h3,fun v e=>by cases e⟩
  ·exact h4.obj
  ·exact h5.obj
 keep:=by
  rintro i h h' ⟨h1,h2,⟨a,b,h3⟩,h4,h5⟩ k
  exact⟨k z (by simp) _ h1,k TI (by simp) _ h2,⟨a,b,k TO (by simp) _ h3⟩,h4.at fun o e=>k i1 (by simp) o e,h5.at fun o e=>k i2 (by simp) o e⟩
 item:=by
  intro X hP hw hK hc i gV s σ H E I hf st hg;subst hP hw hK;obtain⟨h1,h2,⟨a,b,h3⟩,h4,h5⟩:=st;obtain⟨xs,ys,x,y,q1,q2,e1,e2⟩:=hg;obtain⟨Sh,rv1,o1,z1⟩:=I.vR q1;obtain⟨cc,rv2,o2,z2⟩:=I.vR q2;obtain⟨u1,hu1,ru1⟩:=rv1.get e1;obtain⟨u2,hu2,ru2⟩:=rv2.get e2;refine Eu D h1 h2 h3 h4 h5 o1 o2 (x:=u1) (y:=u2) (by simpa using hu1) (by simpa using hu2) fun h' hz' VD Vz Vy hp' Vo hk'=>⟨_,rfl,?_⟩
  refine wpAny_letOwnedTupleGo_zip hz' fun h'' Vn PJ=>?_
  have hn:=I.hok.fresh (Nat.le_refl s.heap.objs.size);have lz:z<s.heap.objs.size:=Heap.lt_size h1;have lTI:TI<s.heap.objs.size:=Heap.lt_size h2;have lTO:TO<s.heap.objs.size:=Heap.lt_size h3;obtain⟨oi1,VF,_⟩:=h4.obj;obtain⟨oi2,VE,_⟩:=h5.obj;have li1:i1<s.heap.objs.size:=Heap.lt_size VF;have li2:i2<s.heap.objs.size:=Heap.lt_size VE;have Pd:∀ b ∈ [z,TI,TO,i1,i2],b≠s.heap.objs.size:=fun b hb=>by
   simp only[List.mem_cons,List.not_mem_nil,or_false]at hb;rcases hb with rfl|rfl|rfl|rfl|rfl
   ·exact Nat.ne_of_lt lz
   ·exact Nat.ne_of_lt lTI
   ·exact Nat.ne_of_lt lTO
   ·exact Nat.ne_of_lt li1
   ·exact Nat.ne_of_lt li2
  have up:∀ c o,c≠z->h'.get? c=some o->h''.get? c=some o:=fun c o hc e=>PJ.extBut _ _ hc e
  have I1:Inv X gV σ (upd H s.heap.objs.size (.tup [x,y])) { s with heap:=s.heap.push { cls:=.type "tuple",data:=.seq #[u1,u2] } } :=
   I.laid (t':=s.toks) (fun b u e=>Heap.get?_push_of_some _ e) (Nat.le_refl _) ⟨by show 2<=sizeLine;decide,[u1,u2],.cons ru1 (.cons ru2 .nil),⟨⟨_,Heap.get?_push_size _ rfl,rfl,_,rfl⟩,_,Heap.get?_push_size _ rfl,rfl⟩⟩
  have hf':∀ b ∈ [z,TI,TO,i1,i2],ud X gV (upd H s.heap.objs.size (.tup [x,y])) b:=fun b hb=>by
   obtain⟨f0,r⟩:=hf b hb;exact⟨by rw[ai (Pd b hb)];exact f0,r⟩
  have I2:Inv X gV σ (upd H s.heap.objs.size (.tup [x,y])) { s with heap:=h'' }:=by
   refine I1.qJ (h':=h'') (t':=s.toks) (fun b o hb e=>?_) hf'
   simp only[List.mem_cons,List.not_mem_nil,or_false,not_or]at hb;obtain⟨b1,b2,b3,b4,b5⟩:=hb;rcases Heap.get?_push_cases e with⟨rfl,rfl⟩|e'
   ·exact up _ _ b1 hp'
   ·exact up _ _ b1 (hk' b o b1 b3 b4 b5 e')
  refine⟨.ref s.heap.objs.size,upd H s.heap.objs.size (.tup [x,y]),I2,rfl,⟨_,x,y,hn,rfl,rfl,fun zs hz=>by rw[I.rQ hz q1];exact e1,fun zs hz=>by rw[I.rQ hz q2];exact e2⟩,?_,fun b hb=>(hf' b hb).1⟩
  exact⟨Vn,up _ _ D.TIz (hk' TI _ D.TIz D.TITO D.TIi1 D.TIi2 h2),⟨_,_,up _ _ D.TOz VD⟩,Vz.at fun o e=>up _ _ D.i1z e,Vy.at fun o e=>up _ _ D.i2z e⟩
 done:=by
  intro X hP hw hK hc i gV s σ H E I hf st hg;subst hP hw hK;obtain⟨h1,h2,⟨a,b,h3⟩,h4,h5⟩:=st;obtain⟨xs,ys,q1,q2,DT⟩:=hg;obtain⟨Sh,rv1,o1,z1⟩:=I.vR q1;obtain⟨cc,rv2,o2,z2⟩:=I.vR q2;have g1:=rv1.length;have g2:=rv2.length;refine JF (I.ok.hd hc) D h1 h2 h3 h4 h5 o1 o2 ?_ fun h' k=>⟨rfl,I.qJ (t':=s.toks) (fun b o hb e=>?_) hf⟩
  ·rcases DT with e|e
   ·left;simp;omega
   ·right;simp;omega
  ·simp only[List.mem_cons,List.not_mem_nil,or_false,not_or]at hb;exact k b o hb.1 hb.2.2.1 hb.2.2.2.1 hb.2.2.2.2 e
 self:=fun _ _ _ _ _ st h=>wpAny_pyIter_zip st.1 h
def itc(tp:Bool):String:=if tp=true then "tuple_iterator" else "list_iterator"
variable{prog:Program}{A:Around}{E:Value->Shared->Prop}
theorem jL{w:World}{s:Shared}{xs:Array Value}(h:bH s.heap tp l xs)
  (hQ:Q (.ref s.heap.objs.size) { s with heap:=s.heap.push { cls:=.type (itc tp),data:=.fields #[.ref l,.int 0 0] } }):wpAny (model prog w) A (pyIter (.ref l)) Q E s:=by
 cases tp with
 | true=>exact wpAny_pyIter_tuple (show s.heap.IsTuple l xs from h) hQ
 | false=>exact wpAny_pyIter_list (show s.heap.IsList l xs from h) hQ
abbrev zH1(t1:Bool)(h:Heap)(l1:Addr):Heap:=h.push { cls:=.type (itc t1),data:=.fields #[.ref l1,.int 0 0] }
abbrev zH2(t1 t2:Bool)(h:Heap)(l1 l2:Addr):Heap:=(zH1 t1 h l1).push { cls:=.type (itc t2),data:=.fields #[.ref l2,.int 0 0] }
abbrev zH3(t1 t2:Bool)(h:Heap)(l1 l2:Addr):Heap:=(zH2 t1 t2 h l1 l2).push { cls:=.type "tuple",data:=.seq #[.ref h.objs.size,.ref (zH1 t1 h l1).objs.size] }
abbrev zH4(t1 t2:Bool)(h:Heap)(l1 l2:Addr):Heap:=(zH3 t1 t2 h l1 l2).push { cls:=.type "tuple",data:=.seq #[.none,.none] }
abbrev zH5(t1 t2:Bool)(h:Heap)(l1 l2:Addr):Heap:=(zH4 t1 t2 h l1 l2).push { cls:=.type "zip",data:=.fields #[.none,.bool false,.bool false,.ref (zH2 t1 t2 h l1 l2).objs.size,.ref (zH3 t1 t2 h l1 l2).objs.size] }
theorem uC(t1 t2:Bool)(l1 l2:Addr)(xs ys:Array Value) :
  Meets (Builtin.«zip.__new__» ⟨[.type "zip",.ref l1,.ref l2],[]⟩) (fun _ R s=>bH s.heap t1 l1 xs/\bH s.heap t2 l2 ys /\
   R (.ok (.ret (.ref (zH4 t1 t2 s.heap l1 l2).objs.size))) { s with heap:=zH5 t1 t2 s.heap l1 l2 }) :=
 .of_wp fun prog w A R s h=>by
  obtain⟨hp,g,d,tk,os⟩:=s;obtain⟨hl1,hl2,h⟩:=h;have Vp:=sub_zip;have hL1:bH (Shared.heap ⟨hp,g,d,tk,os⟩) t1 l1 xs:=hl1;have hL2:bH (Shared.heap ⟨hp.push { cls:=.type (itc t1),data:=.fields #[.ref l1,.int 0 0] },g,d,tk,os⟩) t2 l2 ys:=hl2.at fun o e=>Heap.get?_push_of_some _ e
  wp_walk using jL hL1,jL hL2
  exact⟨_,rfl,h⟩
theorem jl{h:Heap}(e:h.get? it=some { cls:=.type (itc tp),data:=.fields #[.ref l,.int 0 0] }):aZ h tp it l 0:=by
 cases tp with
 | true=>exact(show h.IsTupleIter it l 0 from⟨_,e,rfl,rfl⟩)
 | false=>exact(show h.IsListIter it l 0 from⟨_,e,rfl,rfl⟩)
theorem xg{prog:Program}{w:World}{A:Around}{E:Value->Shared->Prop}{s:Shared}{xs ys:Array Value}(hl1:bH s.heap t1 l1 xs)(hl2:bH s.heap t2 l2 ys)
  (h:∀ h',IsZip h' (s.heap.objs.size+4) (s.heap.objs.size+2) (s.heap.objs.size+3) .none->IsPair h' (s.heap.objs.size+2) (.ref s.heap.objs.size) (.ref (s.heap.objs.size+1)) ->
   IsPair h' (s.heap.objs.size+3) .none .none->aZ h' t1 s.heap.objs.size l1 0->aZ h' t2 (s.heap.objs.size+1) l2 0 ->
   (∀ c o,s.heap.get? c=some o->h'.get? c=some o)->Q (.ref (s.heap.objs.size+4)) { s with heap:=h' }) :
  wpAny (model prog w) A (call (.type "zip") [.ref l1,.ref l2]) Q E s:=by
 refine callType_new F.called_zip (by decide) (F.typeCall_zip_2 _ _) (F.newCall_zip_2 _ _) (fun obj=>F.args_object_init_3 obj _ _) F.entry_zip_new
  (uC t1 t2 l1 l2 xs ys) ⟨hl1,hl2,?_⟩
 have z1:(zH1 t1 s.heap l1).objs.size=s.heap.objs.size+1:=Heap.size_push ..;have z2:(zH2 t1 t2 s.heap l1 l2).objs.size=s.heap.objs.size+2:=by rw[Heap.size_push,z1]
 have z3:(zH3 t1 t2 s.heap l1 l2).objs.size=s.heap.objs.size+3:=by rw[Heap.size_push,z2]
 have z4:(zH4 t1 t2 s.heap l1 l2).objs.size=s.heap.objs.size+4:=by rw[Heap.size_push,z3]
 have g5:(zH5 t1 t2 s.heap l1 l2).get? (zH4 t1 t2 s.heap l1 l2).objs.size=some _:=Heap.get?_push_size _ rfl;have g4:(zH5 t1 t2 s.heap l1 l2).get? (zH3 t1 t2 s.heap l1 l2).objs.size=some _:=Heap.get?_push_of_some _ (Heap.get?_push_size _ rfl);have g3:(zH5 t1 t2 s.heap l1 l2).get? (zH2 t1 t2 s.heap l1 l2).objs.size=some _:=Heap.get?_push_of_some _ (Heap.get?_push_of_some _ (Heap.get?_push_size _ rfl));have g2:(zH5 t1 t2 s.heap l1 l2).get? (zH1 t1 s.heap l1).objs.size=some _:=Heap.get?_push_of_some _ (Heap.get?_push_of_some _ (Heap.get?_push_of_some _ (Heap.get?_push_size _ rfl)));have g1:(zH5 t1 t2 s.heap l1 l2).get? s.heap.objs.size=some _:=Heap.get?_push_of_some _ (Heap.get?_push_of_some _ (Heap.get?_push_of_some _ (Heap.get?_push_of_some _ (Heap.get?_push_size _ rfl))));show _/\_;rw[z2,z3,z4]at g5;rw[z1,z2]at g3;rw[z3]at g4;rw[z1]at g2;rw[z4];exact⟨⟨_,g5,rfl⟩,h _ g5 g3 g4 (jl g1) (jl g2) fun c o x =>
  Heap.get?_push_of_some _ (Heap.get?_push_of_some _ (Heap.get?_push_of_some _ (Heap.get?_push_of_some _ (Heap.get?_push_of_some _ x))))⟩
def LI(K:W.Frag)(t1 t2:Bool)(ta:TA):TI:=fun σ H R=>ta σ H fun vs H1=>∃ l1 l2,vs = [.ref l1,.ref l2]/\(∃ xs,SqB K t1 H1 l1 xs)/\(∃ ys,SqB K t2 H1 l2 ys)/\R (Itz K t1 t2 l1 l2) H1
theorem bH.obj{h:Heap}{xs:Array Value}(x:bH h tp l xs):∃ o,h.get? l=some o:=by
 cases tp with
 | true=>obtain⟨o,ho,_⟩:=(show h.IsTuple l xs from x);exact⟨o,ho⟩
 | false=>obtain⟨o,ho,_⟩:=(show h.IsList l xs from x);exact⟨o,ho⟩
variable{n:Nat}
theorem xC{l1 l2:Nat}(h1:l1<n)(h2:l2<n):ZipApart (n+4) (n+2) (n+3) n (n+1) l1 l2:=by
 constructor <;>(intro z;refine absurd (show @Eq Nat _ _ from z) ?_;omega)
variable{pos':Pos}{b:Expr}{p:Pos}
theorem OE{x1}{a:Expr}{ta:TA}{pos:Pos}(hg:Gl X "zip")(hm:X.mg "zip" = none)(d6:bootBuiltins "zip" = some (.type "zip"))(ha:PA X [a,b] ta)(hs:starEach [a,b] X.env = [(false,eval a X.env),(false,eval b X.env)]:=by rfl)(hs2:starEach [b] X.env = [(false,eval b X.env)]:=by rfl) :
  PI X (.Tuple elts x1 pos') (.Call (.Name "zip" p) [a,b] [] pos) (LI X.K t1 t2 ta):=by
 intro gV s σ H R I h;refine Call_ (jC I hg hm d6 (PyProof.Rows.callWith_type1 (thn (ha pos gV s σ H _ I h) fun us s1 ⟨vs,H1,I1,r1,q1⟩=>?_) (by rw[hs,hs2]) (by rw[hs2];rfl)))
 obtain⟨l1,l2,e,⟨xs,q2⟩,⟨ys,q3⟩,q⟩:=q1;subst e;obtain⟨u1,u2,rfl,ru1,ru2⟩:=vals2 r1;cases ru1;cases ru2;obtain⟨Sh,rv1,o1,z1⟩:=I1.vR q2;obtain⟨cc,rv2,o2,z2⟩:=I1.vR q3;obtain⟨ob1,e1⟩:=o1.obj;obtain⟨ob2,e2⟩:=o2.obj;have g1:l1<s1.heap.objs.size:=Heap.lt_size e1;have g2:l2<s1.heap.objs.size:=Heap.lt_size e2;refine xg o1 o2 fun h' hz hTI hTO hi1 hi2 hk=>wpAny_pyIter_zip hz ?_
 refine⟨_,[s1.heap.objs.size+4,s1.heap.objs.size+2,s1.heap.objs.size+3,s1.heap.objs.size,s1.heap.objs.size+1],_,_,H1,rfl,I1.kept (t':=s1.toks) hk,EM _ _ _ _ _ l1 l2 ?_,⟨hz,hTI,⟨_,_,hTO⟩,hi1,hi2⟩,fun c hc=>?_,q⟩
 ·exact xC g1 g2
 ·have hc':s1.heap.objs.size<=c:=by
   simp only[List.mem_cons,List.not_mem_nil,or_false]at hc;rcases hc with rfl|rfl|rfl|rfl|rfl <;> first|exact Nat.le_add_right _ _|exact Nat.le_refl _
  exact I1.HA hc' (I1.hok.fresh hc')
theorem Dj{t:Nat}(h:ws.Nodup):(ws.drop t++ws.take t).Nodup :=
 (List.perm_append_comm (l₁:=ws.take t) (l₂:=ws.drop t)).nodup_iff.mp (by rw[List.take_append_drop];exact h)
variable{d:Addr}{o:HO}
theorem nS.other{q:Addr}(D:nS H d l)(h1:q≠d)(h2:q≠l):nS (upd H q o) d l:=by
 obtain⟨s,n,ls,D⟩:=D;exact⟨s,n,ls,by rw[ai h1.symm];exact D.hd,by rw[ai h2.symm];exact D.hl,D.s0,D.s1,D.n0,D.l0⟩
def names(ks:List Kd):List Str:=ks.flatMap fun k=>k.2.map (·.1)
variable{x:Str}
theorem take_one{xs:List Str}{i:Nat}(h:xs[i]? = some x):xs.take i ++ [x]=xs.take (i+1):=by rw[List.take_add_one,h];rfl
variable{es:List Expr}
theorem qV{K:W.Frag}{k:Nat}{pos:Pos}{t:TGs}(hK:X.K=K)(hc:X.calm=true)(h:PGs X es t)
  (hn:(assignEach es X.env).length=n:=by rfl) (hst:(assignEach es X.env).findIdx? (·.1)=none:=by rfl):PG X (.Tuple es k pos) (LU K n t):=hK▸OI hc h hn hst
section
variable{w:World}{s:Shared}
theorem DW{e:Addr}{i:Nat}{x old:Value}{Q:Option Value->Shared->Prop}
  (he:IsEnum s.heap e it i old) (hit:aZ s.heap tp it l i) (hl:bH s.heap tp l items) (hx:items[i]? = some x) (hne:e≠it)
  (hQ:∀ h',IsEnumOut h' e it ((i:Int)+1) x s.heap.objs.size->aZ h' tp it l (i+1)->h'.get? s.heap.objs.size=some { cls:=.type "tuple",data:=.seq #[.int i s.toks,x] }->h'.objs.size=s.heap.objs.size+1 ->
   (∀ b o,b≠e->b≠it->s.heap.get? b=some o->h'.get? b=some o)->Q (some (.ref s.heap.objs.size)) { s with heap:=h',toks:=s.toks+1 }):wpAny (model prog w) A (pyNext (.ref e)) Q E s:=by
 have hT:s.TypeIs (.ref e) "enumerate":=⟨_,he,rfl⟩;obtain⟨hp,g,d,tk,os⟩:=s;unfold pyNext;refine wpAny_bind (wpAny_attempt (wpAny_callSpecial?_slot (name:=Str.ofString "__next__") hT F.slot_enumerate_next (wpAny_call_entry F.slot_enumerate_next hT F.entry_enumerate_next ?_ (F.args_enumerate_next_1 _))));show wpAny _ _ (field (.ref e) 2 >>= _) _ _ _;refine wpAny_bind (wpAny_field he rfl (x:=.ref it) rfl ?_);refine wpAny_bind (next_item hit hl hx fun h1 Vw hs1=>?_)
 have he1:IsEnum h1 e it i old:=(hs1.2 e hne).trans he;show wpAny _ _ (field (.ref e) 3 >>= _) _ _ ⟨h1,g,d,tk,os⟩;refine wpAny_bind (wpAny_field he1 rfl (x:=rawInt i) rfl ?_);show wpAny _ _ (field (.ref e) 4 >>= _) _ _ ⟨h1,g,d,tk,os⟩;refine wpAny_bind (wpAny_field he1 rfl (x:=.none) rfl ?_);show wpAny _ _ (mkInt i >>= _) _ _ ⟨h1,g,d,tk,os⟩;refine wpAny_bind (wpAny_mkInt ?_);show wpAny _ _ (setField (.ref e) 3 (rawInt ((i:Int)+1)) >>= _) _ _ ⟨h1,g,d,tk+1,os⟩;refine wpAny_bind (wpAny_setField_rec he1 (by simp) fun h2 he2 hs2=>?_)
 replace hs2:Heap.SameBut e h1 h2:=hs2
 replace he2:IsEnum h2 e it ((i:Int)+1) old:=he2
 show wpAny _ _ (setField (.ref e) 4 .none >>= _) _ _ ⟨h2,g,d,tk+1,os⟩;refine wpAny_bind (wpAny_setField_rec he2 (by simp) fun h3 he3 hs3=>?_)
 replace hs3:Heap.SameBut e h2 h3:=hs3
 replace he3:IsEnum h3 e it ((i:Int)+1) old:=he3
 show wpAny _ _ (newTuple [.int i tk,x] >>= _) _ _ ⟨h3,g,d,tk+1,os⟩;refine wpAny_bind (wpAny_newTuple ?_);have he4:IsEnum (h3.push { cls:=.type "tuple",data:=.seq #[.int i tk,x] }) e it ((i:Int)+1) old:=Heap.get?_push_of_some _ he3;have hsz:h3.objs.size=hp.objs.size:=by rw[hs3.1,hs2.1,hs1.1]
 have hel:e<hp.objs.size:=Heap.lt_size he;have ht4:(h3.push { cls:=.type "tuple",data:=.seq #[.int i tk,x] }).get? hp.objs.size=some { cls:=.type "tuple",data:=.seq #[.int i tk,x] }:=by rw[<- hsz];exact Heap.get?_push_size _ rfl
 have hz4:(h3.push { cls:=.type "tuple",data:=.seq #[.int i tk,x] }).objs.size=hp.objs.size+1:=by rw[Heap.size_push,hsz]
 have hk4:∀ b o,b≠e->b≠it->hp.get? b=some o ->(h3.push { cls:=.type "tuple",data:=.seq #[.int i tk,x] }).get? b=some o:=fun b o hbe hbi hb=>Heap.get?_push_of_some _ (hs3.extBut b o hbe (hs2.extBut b o hbe (hs1.extBut b o hbi hb)))
 have Sv:aZ (h3.push { cls:=.type "tuple",data:=.seq #[.int i tk,x] }) tp it l (i+1):=Vw.at fun o eo=>Heap.get?_push_of_some _ (hs3.extBut _ o hne.symm (hs2.extBut _ o hne.symm eo))
 generalize h3.push { cls:=.type "tuple",data:=.seq #[.int i tk,x] }=h4 at he4 ht4 hz4 hk4 Sv
 show wpAny _ _ (Builtin.SmallTypes.ownedTupleIsFree (.ref e) >>= _) _ _ ⟨h4,g,d,tk+1,os⟩;rw[hsz];refine wpAny_bind ?_;unfold Builtin.SmallTypes.ownedTupleIsFree;refine wpAny_bind (wpAny_field he4 rfl (x:=.none) rfl (wpAny_pure ?_));simp only[if_true];refine wpAny_bind (wpAny_rule ?_);refine wpAny_bind (wpAny_field he4 rfl (x:=old) rfl ?_);refine wpAny_bind (wpAny_setField_rec he4 (by simp) fun h5 he5 hs5=>?_)
 replace hs5:Heap.SameBut e h4 h5:=hs5
 replace he5:IsEnum h5 e it ((i:Int)+1) x:=he5
 show wpAny _ _ (Builtin.SmallTypes.ownedTupleHandOut (.ref e) (.ref hp.objs.size) >>= _) _ _ ⟨h5,g,d,tk+1,os⟩;refine wpAny_bind ?_;unfold Builtin.SmallTypes.ownedTupleHandOut;refine wpAny_bind (wpAny_setField_rec he5 (by simp) fun h6 he6 hs6=>?_)
 replace hs6:Heap.SameBut e h5 h6:=hs6
 replace he6:IsEnumOut h6 e it ((i:Int)+1) x hp.objs.size:=he6
 refine wpAny_setField_rec he6 (by simp) fun h7 he7 hs7=>?_
 replace hs7:Heap.SameBut e h6 h7:=hs7
 replace he7:IsEnumOut h7 e it ((i:Int)+1) x hp.objs.size:=he7
 have up:∀ c o,c≠e->h4.get? c=some o->h7.get? c=some o:=fun c o hc z=>hs7.extBut _ _ hc (hs6.extBut _ _ hc (hs5.extBut _ _ hc z))
 refine wpAny_bind (wpAny_letGo (wpAny_pure ⟨_,rfl,wpAny_pure (hQ h7 he7 (Sv.at fun o eo=>up _ o hne.symm eo) (up _ _ (Nat.ne_of_gt hel) ht4) ?_ fun b o hbe hbi hb=>up b o hbe (hk4 b o hbe hbi hb))⟩))
 rw[hs7.1,hs6.1,hs5.1,hz4]
theorem HI{e:Addr}{i:Nat}{old:Value}{Q:Option Value->Shared->Prop}(hh:A.handled=none)
  (he:IsEnum s.heap e it i old) (hit:aZ s.heap tp it l i) (hl:bH s.heap tp l items) (hx:items[i]? = none) (hQ:∀ h',Heap.ExtBut it s.heap h'->Q none { s with heap:=h' }):wpAny (model prog w) A (pyNext (.ref e)) Q E s:=by
 have hT:s.TypeIs (.ref e) "enumerate":=⟨_,he,rfl⟩;unfold pyNext;refine wpAny_bind (wpAny_attempt (wpAny_callSpecial?_slot (name:=Str.ofString "__next__") hT F.slot_enumerate_next (wpAny_call_entry F.slot_enumerate_next hT F.entry_enumerate_next ?_ (F.args_enumerate_next_1 _))));show wpAny _ _ (field (.ref e) 2 >>= _) _ _ _;refine wpAny_bind (wpAny_field he rfl (x:=.ref it) rfl ?_);refine wpAny_bind (next_end hh hit hl hx fun h' x he' hx'=>?_)
 obtain⟨o,ho,hc⟩:=hx';refine wpAny_bind (wpAny_isInstance (T:="StopIteration") (b:=true) ⟨o,ho,hc⟩ isSubtype_stop ?_);exact wpAny_pure (hQ _ he')
abbrev eH1(tp:Bool)(h:Heap)(l:Addr):Heap:=h.push { cls:=.type (itc tp),data:=.fields #[.ref l,.int 0 0] }
abbrev eH2(tp:Bool)(h:Heap)(l:Addr):Heap:=(eH1 tp h l).push { cls:=.type "enumerate",data:=.fields #[.none,.bool false,.ref h.objs.size,rawInt 0,.none,.none] }
theorem sL(tp:Bool)(l:Addr)(xs:Array Value) :
  Meets (Builtin.«enumerate.__new__» ⟨[.type "enumerate",.ref l],[]⟩) (fun _ R s=>bH s.heap tp l xs/\R (.ok (.ret (.ref (eH1 tp s.heap l).objs.size))) { s with heap:=eH2 tp s.heap l }) :=
 .of_wp fun prog w A R s h=>by
  obtain⟨hp,g,d,tk,os⟩:=s;obtain⟨hl,h⟩:=h;have Vp:=sub_enumerate;have hL:bH (Shared.heap ⟨hp,g,d,tk,os⟩) tp l xs:=hl
  wp_walk
  refine wpAny_stack_any fun st=>wpAny_pure ?_
  split
  ·rename_i c _ _ _ _ _
   cases(c==Value.type "enumerate")
   ·wp_walk using jL hL
    exact⟨_,rfl,h⟩
   ·wp_walk using jL hL
    exact⟨_,rfl,h⟩
  ·wp_walk using jL hL
   exact⟨_,rfl,h⟩
theorem uO{xs:Array Value}(hl:bH s.heap tp l xs)
  (h:∀ h',IsEnum h' (s.heap.objs.size+1) s.heap.objs.size 0 .none->aZ h' tp s.heap.objs.size l 0 ->(∀ b o,s.heap.get? b=some o->h'.get? b=some o)->Q (.ref (s.heap.objs.size+1)) { s with heap:=h' }) :
  wpAny (model prog w) A (call (.type "enumerate") [.ref l]) Q E s:=by
 refine callType_new F.called_enumerate (by decide) (F.typeCall_enumerate_1 _) (F.newCall_enumerate_1 _) (fun obj=>F.args_object_init_2 obj _) F.entry_enumerate_new (sL tp l xs) ⟨hl,?_⟩
 have z1:(eH1 tp s.heap l).objs.size=s.heap.objs.size+1:=Heap.size_push ..;have g2:(eH2 tp s.heap l).get? (eH1 tp s.heap l).objs.size=some _:=Heap.get?_push_size _ rfl;have g1:(eH2 tp s.heap l).get? s.heap.objs.size=some _:=Heap.get?_push_of_some _ (Heap.get?_push_size _ rfl);show _/\_;rw[z1]at g2 ⊢;exact⟨⟨_,g2,rfl⟩,h _ g2 (jl g1) fun c o x=>Heap.get?_push_of_some _ (Heap.get?_push_of_some _ x)⟩
end
def Ite(K:W.Frag)(tp:Bool)(l:Addr):It :=
 ⟨fun i H=>∃ xs x,SqB K tp H l xs/\xs[i]? = some x,
   fun i H v H'=>∃(p:Addr)(x:V),H p=none/\v = .ref p/\H'=upd H p (.tup [.int i,x])/\∀ xs,SqB K tp H l xs->xs[i]? = some x,
   fun i H=>∃ xs,SqB K tp H l xs/\xs.length<=i⟩
theorem C8{w:World}{K:W.Frag}{x1}{pos:Pos}(e it l:Addr)(hne:e≠it) :
  Turn P w K (.Tuple elts x1 pos) (Ite K tp l) [e,it] e (fun i h=>(∃ old,IsEnum h e it i old)/\aZ h tp it l i) where
 mem:=by simp
 obj:=by
  rintro i h ⟨⟨old,h1⟩,h2⟩ c hc
  simp only[List.mem_cons,List.not_mem_nil,or_false]at hc;rcases hc with rfl|rfl
  ·exact⟨_,h1,fun v e=>by cases e⟩
  ·exact h2.obj
 keep:=by
  rintro i h h' ⟨⟨old,h1⟩,h2⟩ k
  exact⟨⟨old,k e (by simp) _ h1⟩,h2.at fun o z=>k it (by simp) o z⟩
 item:=by
  intro X hP hw hK hc i gV s σ H E I hf st hg;subst hP hw hK;obtain⟨⟨old,h1⟩,h2⟩:=st;obtain⟨xs,x,q1,e1⟩:=hg;obtain⟨its,rv,o1,z1⟩:=I.vR q1;obtain⟨u1,hu1,ru1⟩:=rv.get e1;refine DW h1 h2 o1 (x:=u1) (by simpa using hu1) hne fun h' ho' hi' hT' Vo hk'=>⟨_,rfl,?_⟩
  refine wpAny_letOwnedTupleGo_enum ho' fun h'' VB PJ=>?_
  have hn:=I.hok.fresh (Nat.le_refl s.heap.objs.size);have le:e<s.heap.objs.size:=Heap.lt_size h1;obtain⟨oi,goi,_⟩:=h2.obj;have li:it<s.heap.objs.size:=Heap.lt_size goi;have Pd:∀ b ∈ [e,it],b≠s.heap.objs.size:=fun b hb=>by
   simp only[List.mem_cons,List.not_mem_nil,or_false]at hb;rcases hb with rfl|rfl
   ·exact Nat.ne_of_lt le
   ·exact Nat.ne_of_lt li
  have up:∀ c o,c≠e->h'.get? c=some o->h''.get? c=some o:=fun c o hc z=>PJ.extBut _ _ hc z
  have I1:Inv X gV σ (upd H s.heap.objs.size (.tup [.int i,x])) { s with heap:=s.heap.push { cls:=.type "tuple",data:=.seq #[.int i s.toks,u1] },toks:=s.toks+1 } :=
   I.laid (t':=s.toks+1) (fun b u z=>Heap.get?_push_of_some _ z) (Nat.le_refl _) ⟨by show 2<=sizeLine;decide,[.int i s.toks,u1],.cons ⟨_,rfl⟩ (.cons ru1 .nil),⟨⟨_,Heap.get?_push_size _ rfl,rfl,_,rfl⟩,_,Heap.get?_push_size _ rfl,rfl⟩⟩
  have hf':∀ b ∈ [e,it],ud X gV (upd H s.heap.objs.size (.tup [.int i,x])) b:=fun b hb=>by
   obtain⟨f0,r⟩:=hf b hb;exact⟨by rw[ai (Pd b hb)];exact f0,r⟩
  have I2:Inv X gV σ (upd H s.heap.objs.size (.tup [.int i,x])) { s with heap:=h'',toks:=s.toks+1 }:=by
   refine I1.qJ (h':=h'') (t':=s.toks+1) (fun b o hb z=>?_) hf'
   simp only[List.mem_cons,List.not_mem_nil,or_false,not_or]at hb;obtain⟨b1,b2⟩:=hb;rcases Heap.get?_push_cases z with⟨rfl,rfl⟩|z'
   ·exact up _ _ b1 hT'
   ·exact up _ _ b1 (hk' b o b1 b2 z')
  refine⟨.ref s.heap.objs.size,upd H s.heap.objs.size (.tup [.int i,x]),I2,rfl,⟨_,x,hn,rfl,rfl,fun zs hz=>by rw[I.rQ hz q1];exact e1⟩,?_,fun b hb=>(hf' b hb).1⟩
  exact⟨⟨_,by simpa using VB⟩,hi'.at fun o z=>up _ _ hne.symm z⟩
 done:=by
  intro X hP hw hK hc i gV s σ H E I hf st hg;subst hP hw hK;obtain⟨⟨old,h1⟩,h2⟩:=st;obtain⟨xs,q1,DT⟩:=hg;obtain⟨its,rv,o1,z1⟩:=I.vR q1;have g1:=rv.length;refine HI (I.ok.hd hc) h1 h2 o1 (by simp;omega) fun h' k=>⟨rfl,I.qJ (t':=s.toks) (fun b o hb z=>?_) hf⟩
  simp only[List.mem_cons,List.not_mem_nil,or_false,not_or]at hb;exact k b o hb.2 z
 self:=fun _ _ _ _ _ st h=>let⟨⟨_,z⟩,_⟩:=st;wpAny_pyIter_enum z h
def yr(K:W.Frag)(tp:Bool)(ta:TA):TI:=fun σ H R=>ta σ H fun vs H1=>∃ l,vs = [.ref l]/\(∃ xs,SqB K tp H1 l xs)/\R (Ite K tp l) H1
theorem KZ{x1}{a:Expr}{ta:TA}{pos:Pos}(hg:Gl X "enumerate")(hm:X.mg "enumerate" = none)(d6:bootBuiltins "enumerate" = some (.type "enumerate"))(ha:PA X [a] ta)(hs:starEach [a] X.env = [(false,eval a X.env)]:=by rfl) :
  PI X (.Tuple elts x1 pos') (.Call (.Name "enumerate" p) [a] [] pos) (yr X.K tp ta):=by
 intro gV s σ H R I h;refine Call_ (jC I hg hm d6 (PyProof.Rows.callWith_type1 (thn (ha pos gV s σ H _ I h) fun us s1 ⟨vs,H1,I1,r1,q1⟩=>?_) hs rfl))
 obtain⟨l,e,⟨xs,q2⟩,q⟩:=q1;subst e;obtain⟨u1,rfl,ru1⟩:=vals1 r1;cases ru1;obtain⟨its,rv,o1,z1⟩:=I1.vR q2;refine uO o1 fun h' he hi hk=>wpAny_pyIter_enum he ?_
 refine⟨_,[s1.heap.objs.size+1,s1.heap.objs.size],_,_,H1,rfl,I1.kept (t':=s1.toks) hk,C8 _ _ l (fun z=>absurd (show @Eq Nat _ _ from z) (by omega)),⟨⟨_,he⟩,hi⟩,fun c hc=>?_,q⟩
 have hc':s1.heap.objs.size<=c:=by
  simp only[List.mem_cons,List.not_mem_nil,or_false]at hc;rcases hc with rfl|rfl <;> first|exact Nat.le_add_right _ _|exact Nat.le_refl _
 exact I1.HA hc' (I1.hok.fresh hc')
end L2
namespace PySem
open Sem (wp)
end PySem
namespace L2
open PySem PySem.Spec PyProof.Rows
variable{kvs:List (Key×V)}
section
variable{X:Cx}{gV:List (Addr×Obj)}{σ:St}{H:Hp}{s:Shared}{a:Addr}{u u':HO}
theorem Inv.Fz(I:Inv X gV σ H s)(ha:H a=some u)(h1:∀ xs,u ≠ .tup xs)(h2:∀ c,u ≠ .own c)(h3:∀ ps,u ≠ .tbl ps)(hz:∀ o v,X.H₀ a≠some (.frz o v))(new:aW X.prog X.w (upd H a u') s.heap a u'):Inv X gV σ (upd H a u') s:=by
 have ne:∀{b:Addr},H b=none->b≠a:=fun{b} e z=>by rw[z,ha]at e;cases e
 refine⟨I.ok,I.os,I.bare,⟨I.base.keep,I.base.slot,fun b o e n hx=>?_,I.base.there,fun b xs e=>?_,fun b o v e=>?_,fun b ps e=>?_⟩,I.loc,I.cell,?_,fun x c e=>?_,fun p hp=>?_,fun b o e=>?_,I.len⟩
 ·have:=I.base.free b o e n hx
  rw[ai (ne this)];exact this
 ·have:=I.base.mD b xs e
  rw[ai fun z=>by rw[z,ha]at this;exact h1 xs (Option.some.inj this)]
  exact this
 ·have:=I.base.jP b o v e
  rw[ai fun z=>by rw[z]at e;exact hz o v e]
  exact this
 ·obtain⟨more,this⟩:=I.base.mE b ps e;refine⟨more,?_⟩;rw[ai fun z=>by rw[z,ha]at this;exact h3 _ (Option.some.inj this)]
  exact this
 ·rw[ai (ne I.free)];exact I.free
 ·rw[ai (ne (I.cV x c e))];exact I.cV x c e
 ·obtain⟨p1,p2,p3⟩:=I.pin p hp;exact⟨p1,by rw[ai (ne p2)];exact p2,p3⟩
 ·by_cases hb:b=a
  ·subst hb;rw[aj]at e;cases e;exact new
  ·rw[ai hb]at e;refine(I.hok b o e).cN (fun _ _ _ q=>q) (fun c q=>?_) fun c xs q=>?_
   ·rw[ai fun z=>by rw[z,ha]at q;exact h2 _ (Option.some.inj q)];exact q
   ·rw[ai fun z=>by rw[z,ha]at q;exact h1 _ (Option.some.inj q)];exact q
theorem Inv.freeze(I:Inv X gV σ H s)(ha:H a=some (.dK kvs)):(∀ o v,X.H₀ a≠some (.frz o v))/\∃ o,Inv X gV σ (upd H a (.frz o (.dK kvs))) s:=by
 have hz:∀ o v,X.H₀ a≠some (.frz o v):=fun o v e=>by
  have:=I.base.jP a o v e
  rw[ha]at this;cases this
 obtain⟨z,hs,vs,r,o,es,ep,e,c⟩:=(show aW X.prog X.w H s.heap a (.dK kvs)from I.hok a _ ha);exact⟨hz,o,I.Fz ha (fun _ z=>nomatch z) (fun _ z=>nomatch z) (fun _ z=>nomatch z) hz ⟨e,z,hs,vs,r,o,es,ep,e,c⟩⟩
end
end L2
namespace PySem
open Sem (wp)
section
variable{prog:Program}{w:World}{A:Around}{E:Value->Shared->Prop}{h:Heap}{g:Array GenState}{d:Drawn}{t:Nat}{os:OsState}
variable{nm q:Str}{C N:Addr}{bs bm bmB:List Value}{lU:Bool}{sn:List Str}{sub:List Value}{ab:Bool}{col:Option Bool}{dd:Option Addr}{k0 k1 k2 k3 k5:Option Value}{B newId Hl:String}
theorem qg(F:ExcBaseFacts B newId Hl bmB)(T:OwnTail h bmB bm){mN:Str->Option Value}{rest:List Value}{fI:Addr}{oI:Obj}{Q:Fin->Shared->Prop}
  (hC:h.get? C=some (excClassObj nm q C N bs bm lU sn sub ab col dd k0 k1 k2 k3 k5 newId)) (hn:h.Ns N mN) (hi:mN "__init__" = some (.ref fI)) (hfI:h.get? fI=some oI) (hfc:oI.cls = .type "function")
  (hq:∀ h' e,Heap.MadeExcOf h h' e (.ref C) rest->wpAny (model prog w) A (call (.ref fI) (.ref e::rest)) (fun r s'=>r = .none/\Q (.done (.ret (.ref e))) s') E ⟨h',g,d,t,os⟩) (sY:rest.length<=sizeLine) :
  wpAny (model prog w) A (Builtin.«type.__call__» ⟨.ref C::rest,[]⟩) Q E ⟨h,g,d,t,os⟩:=by
 repeat (first|with_reducible refine wpAny_loadPart_at hC ?_|with_reducible refine wpAny_madeBy_exc hC ?_|wp_step)
 refine codeAny_call_builtin_code (Code.quiet_builtin _ F.quiet) (wpAny_check_new_subT F T hC ?_);refine codeAny_exc_new_subT F T hC ?_ sY;show wpAny _ _ _ _ _ _;have hC1:=Heap.get?_push_of_some { cls:=.ref C,data:=.fields #[.ref h.objs.size,.none,.none,.none,.bool false,.none] } (Heap.get?_push_of_some { cls:=.type "tuple",data:=.seq rest.toArray } hC);have VA:=Heap.get?_push_of_some { cls:=.ref C,data:=.fields #[.ref h.objs.size,.none,.none,.none,.bool false,.none] } (Heap.get?_push_of_some { cls:=.type "tuple",data:=.seq rest.toArray } hfI);have hn1:((h.push { cls:=.type "tuple",data:=.seq rest.toArray }).push { cls:=.ref C,data:=.fields #[.ref h.objs.size,.none,.none,.none,.bool false,.none] }).Ns N mN :=
  let⟨o,es,ep,e,r⟩:=hn;⟨o,es,ep,Heap.get?_push_of_some _ (Heap.get?_push_of_some _ e),r⟩
 have Sw:((h.push { cls:=.type "tuple",data:=.seq rest.toArray }).push { cls:=.ref C,data:=.fields #[.ref h.objs.size,.none,.none,.none,.bool false,.none] }).get? (h.objs.size+1)=some { cls:=.ref C,data:=.fields #[.ref h.objs.size,.none,.none,.none,.bool false,.none] }:=by heap_get
 have hcC:(Value.ref C::bm).contains (.ref C)=true:=by simp
 have T1:=T.keeps (h':=(h.push { cls:=.type "tuple",data:=.seq rest.toArray }).push { cls:=.ref C,data:=.fields #[.ref h.objs.size,.none,.none,.none,.bool false,.none] }) fun b o e=>Heap.get?_push_of_some _ (Heap.get?_push_of_some _ e)
 unfold isInstance
 repeat (first|with_reducible refine wpAny_loadPart_at Sw ?_ |(with_reducible refine wpAny_isSubtype_exc hC1 ?_;rw[hcC])|wp_step)
 show wpAny _ _ (typeLookup (.ref C) _) _ _ _;refine wpAny_typeLookup_tail hC1 hn1 T1 F.mroIs F.init.lookup ?_;rw[hi];refine wpAny_holding (wpAny_bind ?_);unfold bindSpecial;refine wpAny_bind (wpAny_typeOf (T:="function") ⟨_,VA,hfc⟩ ?_);rw[if_pos (by decide)]
 refine wpAny_pure (wpAny_bind (wpAny_mono (hq _ (h.objs.size+1) ⟨fun b o hb=>Heap.get?_push_of_some _ (Heap.get?_push_of_some _ hb),Heap.get?_none_of_le (Nat.le_succ _),h.objs.size,Sw,Heap.get?_none_of_le (Nat.le_refl _),?_⟩) (fun r s' hr=>?_) fun _ _ x=>x))
 ·exact Heap.get?_push_of_some _ (Heap.get?_push_at rfl rfl)
 ·obtain⟨rfl,hQ⟩:=hr
  wp_walk
  exact hQ
theorem AQ(F:ExcBaseFacts B newId Hl bmB)(T:OwnTail h bmB bm){mN:Str->Option Value}{rest:List Value}{fI:Addr}{oI:Obj}{Q:Value->Shared->Prop}
  (hC:h.get? C=some (excClassObj nm q C N bs bm lU sn sub ab col dd k0 k1 k2 k3 k5 newId)) (hn:h.Ns N mN) (hi:mN "__init__" = some (.ref fI)) (hfI:h.get? fI=some oI) (hfc:oI.cls = .type "function")
  (hq:∀ h' e,Heap.MadeExcOf h h' e (.ref C) rest->wpAny (model prog w) (A.under (.builtin "type.__call__" ⟨.ref C::rest,[]⟩)) (call (.ref fI) (.ref e::rest)) (fun r s'=>r = .none/\Q (.ref e) s') E ⟨h',g,d,t,os⟩) (sY:rest.length<=sizeLine) :
  wpAny (model prog w) A (call (.ref C) rest) Q E ⟨h,g,d,t,os⟩:=by
 have f1:=tc_lookup;have f2:=tc_bind (.ref C);have hT:(⟨h,g,d,t,os⟩:Shared).TypeIs (.ref C) "type":=⟨_,hC,rfl⟩;refine wpAny_call (codeAny_of_tree ?_);show wpAny _ _ (callAny (.ref C) _) _ _ _
 repeat (any_goals (first|assumption|with_reducible refine wpAny_loadPart_at hC ?_|wp_step))
 refine⟨rfl,?_⟩;refine codeAny_call_builtin_at (Code.quiet_builtin _ (by decide +kernel)) entry_typeCall (wpAny_check_type_call_sub hC (qg F T hC hn hi hfI hfc (fun h' e hm=>?_) sY))
 exact hq h' e hm
end
end PySem
namespace PySem
open Sem (wp)
open Builtin Builtin.ObjectAttr
inductive b9(h:Heap)(S:List Str)(bmB:List Value):List Value->Prop
 | base:b9 h S bmB bmB
 | own{A:Addr}{c0:Value}{dd:Option Addr}{cd:ClassData}{sl:Array (Option Value)}{mA:Str->Option Value}{tl:List Value} :
   h.get? A=some { cls:=c0,dict:=dd,data:=.cls cd,slots:=sl }->h.Ns cd.ns mA ->(∀ n∈S,mA n=none)->b9 h S bmB tl->b9 h S bmB (.ref A::tl)
theorem b9.tail{h:Heap}{S:List Str}{bmB tl:List Value}(hS:("__init__":Str)∈S)(T:b9 h S bmB tl):OwnTail h bmB tl:=by
 induction T with
 | base=>exact .base
 | own hA hN hn _ ih=>exact .own hA hN (hn _ hS) ih
theorem b9.hasType{h:Heap}{S:List Str}{bmB tl:List Value}(T:b9 h S bmB tl){X:String}{b:Bool}(hb:bmB.contains (.type X)=b):tl.contains (.type X)=b:=by
 induction T with
 | base=>exact hb
 | own _ _ _ _ ih=>rw[List.contains_cons,ih];rfl
theorem b9.refuse{h:Heap}{S:List Str}{bmB tl:List Value}(T:b9 h S bmB tl)(self:Value)(QP:Str):refuseLoop self QP tl=refuseLoop self QP bmB:=by
 induction T with
 | base=>rfl
 | own _ _ _ _ ih=>rw[refuseLoop_ref,ih]
section
variable{M:Model}{prog:Program}{w:World}{A:Around}{E:Value->Shared->Prop}{h:Heap}{g:Array GenState}{d:Drawn}{t:Nat}{os:OsState}
variable{nm q:Str}{C N x:Addr}{bs bm bmB:List Value}{sn:List Str}{sub:List Value}{ab lU:Bool}{col:Option Bool}{dd:Option Addr}{k0 k1 k2 k3 k5:Option Value}{B newId sa owner:String}
 {mN mA:Str->Option Value} {name:Str} {v:Value} {S:List Str}
theorem yN{y:Option Value}{Q:Option Value->Shared->Prop}(hs:name∈S)(T:b9 h S bmB bm)(sY:lookupAlong bmB name=pure y)(hq:Q y ⟨h,g,d,t,os⟩):wpAny M A (lookupAlong bm name) Q E ⟨h,g,d,t,os⟩:=by
 induction T with
 | base=>rw[sY];exact wpAny_pure hq
 | own hA hN hn _ ih =>
  rw[lookupAlong_cons];refine wpAny_bind (wpAny_classOwn_cls hA hN ?_);rw[hn _ hs];exact ih
theorem bW{y:Option Value}{Q:Option Value->Shared->Prop}(hs:name∈S)(hC:h.get? C=some (excClassObj nm q C N bs bm lU sn sub ab col dd k0 k1 k2 k3 k5 newId))(hn:h.Ns N mN)(T:b9 h S bmB bm)(hbm:mroOf (.type B)=pure bmB)
  (hB:typeLookup (.type B) name=pure y) (hq:Q (match mN name with|some v=>some v|none=>y) ⟨h,g,d,t,os⟩):wpAny M A (typeLookup (.ref C) name) Q E ⟨h,g,d,t,os⟩:=by
 have sY:lookupAlong bmB name=pure y:=by rw[typeLookup_eq,hbm]at hB;exact hB
 rw[typeLookup_eq];refine wpAny_bind (wpAny_mroOf_exc hC ?_);rw[lookupAlong_cons];refine wpAny_bind (wpAny_classOwn_exc hC hn ?_);cases hv:mN name with
 | some v=>rw[hv]at hq;exact wpAny_pure hq
 | none=>rw[hv]at hq;exact yN hs T sY hq
theorem Ea{o:Obj}{sH:Value}{Q:Unit->Shared->Prop}(SF:StoreFacts B bmB sa owner)(T:b9 h S bmB bm)
  (hC:h.get? C=some (excClassObj nm q C N bs bm true sn sub ab col dd k0 k1 k2 k3 k5 newId)) (hx:h.get? x=some o) (hc:o.cls = .ref C) (hq:Q () ⟨h,g,d,t,os⟩):wpAny M A (checkBuiltinCall sa ⟨[.ref x,sH,v],[]⟩) Q E ⟨h,g,d,t,os⟩:=by
 have hcB:(Value.ref C::bm).contains (.type owner)=true:=by rw[List.contains_cons,T.hasType SF.hasOwner,Bool.or_true]
 have ha:=SF.args (.ref x) sH v;simp only[checkBuiltinCall,SF.kind,SF.split];refine wpAny_bind ?_;unfold isInstance
 repeat (first |(with_reducible refine wpAny_loadPart_at hx ?_;rw[hc]) |(with_reducible refine wpAny_isSubtype_exc hC ?_;rw[hcB])|wp_step)
 cases Vr:Manifest.signature? sa with
 | none=>exact wpAny_pure hq
 | some sig =>
  simp only[argsOk,Vr]at ha;have h2:Bind.checkArgs sa sig ⟨[.ref x,sH,v],[]⟩=pure ():=ha;show wpAny M A (Bind.checkArgs sa sig ⟨[.ref x,sH,v],[]⟩) Q E _;rw[h2];exact wpAny_pure hq
theorem vM{tk:Tok}{Q:Fin->Shared->Prop}{ns:List Str}(SF:StoreFacts B bmB sa owner)(T:b9 h S bmB bm)(hs:name∈S)
  (hC:h.get? C=some (excClassObj nm q C N bs bm true sn sub ab col dd k0 k1 k2 k3 k5 newId)) (hn:h.Ns N mN) (hna:mN name=none) (hB:typeLookup (.type B) name=pure none) (hxC:x≠C) (I:h.Inst x C mA)
  (hq:∀ h' tk',h'.Inst x C (fun y=>if y=name then some v else mA y) ->(∀ b o,b≠x ->(∀ o₀ dx,h.get? x=some o₀->o₀.dict=some dx->b≠dx)->h.get? b=some o->h'.get? b=some o) ->
   (∀ o₀,h.get? x=some o₀->∃ o₁,h'.get? x=some o₁/\o₁.cls=o₀.cls/\o₁.data=o₀.data/\o₁.slots=o₀.slots/\(∀ dx,o₀.dict=some dx->o₁.dict=some dx)/\(o₀.dict=none->o₁.dict=some h.objs.size))->Q (.done (.ret .none)) ⟨h',g,d,tk',os⟩) (hw:Within mA ns) (hsz:ns.length+1<=sizeLine) :
  wpAny (model prog w) A (Builtin.«object.__setattr__» ⟨[.ref x,.str name tk,v],[]⟩) Q E ⟨h,g,d,t,os⟩:=by
 obtain⟨o,hx,hc,hnc,hd⟩:=I;have Sr:=(T.refuse (.ref x) "__setattr__").trans (SF.passes (.ref x));unfold Builtin.«object.__setattr__»
 repeat (first|rw[refuse_eq] |(rw[refuseLoop_ref,Sr]) |(with_reducible refine wpAny_loadPart_at hx ?_;rw[hc])|with_reducible refine wpAny_mroOf_exc hC ?_ |(with_reducible refine bW hs hC hn T SF.mro hB ?_;rw[hna])|wp_step)
 rcases hd with⟨hdn,hmA⟩ |⟨dx,hdx,hne,hns⟩
 ·rw[hdn,if_neg (by simp[typeHasDict])]
  split
  ·rename_i hcd;cases hcd
  split
  ·rename_i c hcd;exact absurd hcd (hnc c)
  ·have hx1:(h.push { cls:=.type "dict",data:=.dict #[] }).get? x=some o:=Heap.get?_push_of_some _ hx;have hxs:x≠h.objs.size:=Nat.ne_of_lt (Heap.lt_size hx);refine wpAny_bind (wpAny_alloc' ?_);refine wpAny_bind (wpAny_update' hx1 ?_);refine wpAny_pure ?_;have hgd:((h.push { cls:=.type "dict",data:=.dict #[] }).update x fun o=>{ cls:=o.cls,dict:=some h.objs.size,data:=o.data,slots:=o.slots }).get? h.objs.size=some { cls:=.type "dict",data:=.dict #[] } :=
    (Heap.get?_update_ne _ _ _ _ hxs.symm).trans (Heap.get?_push_at rfl rfl)
   have hnd:((h.push { cls:=.type "dict",data:=.dict #[] }).update x fun o=>{ cls:=o.cls,dict:=some h.objs.size,data:=o.data,slots:=o.slots }).Ns h.objs.size (fun _=>none) :=
    ⟨_,#[],_,hgd,rfl,fun e he=>absurd he (by simp),fun _=>rfl⟩
   show wpAny _ _ (storeInDict h.objs.size (.str name tk) name v) _ _ _;unfold storeInDict newKeyGuard;refine wpAny_bind (wpAny_pure (wpAny_bind (wpAny_nsSet1 (Heap.Ns1.of_empty hnd) fun h' hn' hs'=>?_)))
   obtain⟨oD,esD,epD,hoD,hdD,hcD⟩:=hn'.count (Within.cons name v Within.nil);refine wpAny_bind (wpAny_lookBehind hoD (by rw[hdD];exact pastItsLine_dict (Nat.le_trans hcD (by rw[List.length_cons,List.length_nil,sizeLine_eq];omega))) ?_)
   wp_walk
   have hx':h'.get? x=some { cls:=o.cls,dict:=some h.objs.size,data:=o.data,slots:=o.slots }:=?_;refine hq h' _ ⟨{ cls:=o.cls,dict:=some h.objs.size,data:=o.data,slots:=o.slots },hx',hc,hnc,.inr ⟨h.objs.size,rfl,hxs.symm,?_⟩⟩ (fun b ob hbx _ hb=>?_)
    (fun o₀ h₀=>by obtain rfl:o=o₀:=Option.some.inj (hx.symm.trans h₀);exact⟨_,hx',rfl,rfl,rfl,fun dx e=>(by rw[hdn]at e;cases e),fun _=>rfl⟩)
   ·obtain⟨o',es,ep,e1,e2,e3,eu,e4⟩:=hn';exact⟨o',es,ep,e1,e2,e3,eu,fun y=>by rw[e4 y];by_cases hy:y=name <;> simp[hy,hmA]⟩
   ·exact(hs'.2 b (Nat.ne_of_lt (Heap.lt_size hb))).trans ((Heap.get?_update_ne _ _ _ _ hbx).trans (Heap.get?_push_of_some _ hb))
   ·refine(hs'.2 x hxs).trans (Heap.get?_update_self _ hx1 ?_);have hfr:=(Heap.get?_some_iff.mp hx).2;obtain⟨oc,od,odt,osl⟩:=o;cases odt <;> first|rfl|exact hfr
 ·rw[hdx];refine wpAny_pure ?_;show wpAny _ _ (storeInDict dx (.str name tk) name v) _ _ _;unfold storeInDict newKeyGuard;refine wpAny_bind (wpAny_pure (wpAny_bind (wpAny_nsSet1 hns fun h' hn' hs'=>?_)))
  obtain⟨oD,esD,epD,hoD,hdD,hcD⟩:=hn'.count (Within.cons name v hw);refine wpAny_bind (wpAny_lookBehind hoD (by rw[hdD];exact pastItsLine_dict (Nat.le_trans hcD (by rw[List.length_cons];omega))) ?_)
  wp_walk
  refine hq h' _ ⟨o,(hs'.2 x hne.symm).trans hx,hc,hnc,.inr ⟨dx,hdx,hne,hn'⟩⟩ (fun b ob _ hbd hb=>?_) (fun o₀ h₀=>⟨o₀,(hs'.2 x hne.symm).trans h₀,rfl,rfl,rfl,fun _ e=>e,fun e=>(by obtain rfl:o=o₀:=Option.some.inj (hx.symm.trans h₀);rw[hdx]at e;cases e)⟩)
  exact(hs'.2 b (hbd o dx hx hdx)).trans hb
theorem pJ{Q:Unit->Shared->Prop}{ns:List Str}(SF:StoreFacts B bmB sa owner)(T:b9 h S bmB bm)(hs:name∈S)(hs2:("__setattr__":Str)∈S)
  (hC:h.get? C=some (excClassObj nm q C N bs bm true sn sub ab col dd k0 k1 k2 k3 k5 newId)) (hn:h.Ns N mN) (hns:mN "__setattr__" = none) (hna:mN name=none) (hB:typeLookup (.type B) name=pure none) (hxC:x≠C) (I:h.Inst x C mA)
  (hq:∀ h' tk',h'.Inst x C (fun y=>if y=name then some v else mA y) ->(∀ b o,b≠x ->(∀ o₀ dx,h.get? x=some o₀->o₀.dict=some dx->b≠dx)->h.get? b=some o->h'.get? b=some o) ->
   (∀ o₀,h.get? x=some o₀->∃ o₁,h'.get? x=some o₁/\o₁.cls=o₀.cls/\o₁.data=o₀.data/\o₁.slots=o₀.slots/\(∀ dx,o₀.dict=some dx->o₁.dict=some dx)/\(o₀.dict=none->o₁.dict=some h.objs.size))->Q () ⟨h',g,d,tk',os⟩) (hw:Within mA ns) (hsz:ns.length+1<=sizeLine) :
  wpAny (model prog w) A (setAttr (.ref x) name v) Q E ⟨h,g,d,t,os⟩:=by
 obtain⟨o,hx,hc,_⟩:=id I;have f3:=SF.slot.bind (.ref x);unfold setAttr callSpecial? specialOf
 repeat (any_goals (first|assumption |(with_reducible refine wpAny_loadPart_at hx ?_;rw[hc]) |(with_reducible refine bW hs2 hC hn T SF.mro SF.slot.lookup ?_;rw[hns])|wp_step))
 refine codeAny_call_builtin SF.slot.plain SF.entry (Ea SF T hC hx hc (vM SF T hs hC hn hna hB hxC I (fun h' tk' I' hk So=>?_) hw hsz))
 repeat (any_goals (first|assumption|wp_step))
 exact hq h' tk' I' hk So
end
end PySem
namespace PySem
open Sem (wp)
open Builtin Builtin.ObjectAttr
section
variable{prog:Program}{w:World}{A:Around}{E:Value->Shared->Prop}{h:Heap}{g:Array GenState}{d:Drawn}{t:Nat}{os:OsState}
variable{nm q:Str}{C N x:Addr}{bs bm bmB:List Value}{sn:List Str}{sub:List Value}{ab lU:Bool}{col:Option Bool}{dd:Option Addr}{k0 k1 k2 k3 k5:Option Value}{B newId:String}
 {mN mA:Str->Option Value} {name:Str} {v:Value} {S:List Str} {o:Obj}
theorem vq{M:Model}{sH:Value}{Q:Unit->Shared->Prop}(FB:ExcAttrBase B bmB)(T:b9 h S bmB bm)(hC:h.get? C=some (excClassObj nm q C N bs bm lU sn sub ab col dd k0 k1 k2 k3 k5 newId))
  (hx:h.get? x=some o) (hc:o.cls = .ref C) (hq:Q () ⟨h,g,d,t,os⟩):wpAny M A (checkBuiltinCall "BaseException.__getattribute__" ⟨[.ref x,sH],[]⟩) Q E ⟨h,g,d,t,os⟩:=by
 have e1:builtinKind "BaseException.__getattribute__" = some .slot:=by decide +kernel
 have e2:splitId "BaseException.__getattribute__" = some ("BaseException","__getattribute__"):=by decide +kernel
 have e3:(Value.ref C::bm).contains (.type "BaseException")=true:=by rw[List.contains_cons,T.hasType FB.hasBase,Bool.or_true]
 have ha:=F.args_bexc_ga (.ref x) sH;simp only[checkBuiltinCall,e1,e2];refine wpAny_bind ?_;unfold isInstance
 repeat (first |(with_reducible refine wpAny_loadPart_at hx ?_;rw[hc]) |(with_reducible refine wpAny_isSubtype_exc hC ?_;rw[e3])|wp_step)
 exact hq
theorem z8{tk:Tok}{Q:Fin->Shared->Prop}(FB:ExcAttrBase B bmB)(T:b9 h S bmB bm)(hs:name∈S)(hC:h.get? C=some (excClassObj nm q C N bs bm true sn sub ab col dd k0 k1 k2 k3 k5 newId))(hn:h.Ns N mN)
  (hna:mN name=none) (hB:typeLookup (.type B) name=pure none) (I:h.Inst x C mA) (hv:mA name=some v) (hh:handedOut v=pure v) (hq:Q (.done (.ret v)) ⟨h,g,d,t,os⟩) :
  wpAny (model prog w) A (Builtin.«object.__getattribute__» ⟨[.ref x,.str name tk],[]⟩) Q E ⟨h,g,d,t,os⟩:=by
 obtain⟨o,hx,hc,hnc,hd⟩:=I;rcases hd with⟨_,hmA⟩ |⟨dx,hdx,hne,hns⟩
 ·rw[hmA name]at hv;cases hv
 unfold Builtin.«object.__getattribute__»
 repeat (first |(with_reducible refine wpAny_loadPart_at hx ?_;rw[hc]) |(with_reducible refine bW hs hC hn T FB.mro hB ?_;rw[hna])|wp_step)
 split
 ·rename_i c hcd;exact absurd hcd (hnc c)
 unfold instanceDict
 repeat (first |(with_reducible refine wpAny_loadPart_at hx ?_;rw[hc])|with_reducible refine wpAny_loadPart_at hC ?_|wp_step)
 rw[hdx]
 repeat (first |(with_reducible refine wpAny_nsGet hns.ns ?_;rw[hv])|wp_step)
 exact hq
theorem z9{expr:Bool}{Q:Value->Shared->Prop}(FB:ExcAttrBase B bmB)(T:b9 h S bmB bm)(hs:name∈S)(hsa:("__getattribute__":Str)∈S)(hsb:("__getattr__":Str)∈S)
  (hC:h.get? C=some (excClassObj nm q C N bs bm true sn sub ab col dd k0 k1 k2 k3 k5 newId)) (hn:h.Ns N mN) (hmN:∀ n∈S,mN n=none)
  (hB:typeLookup (.type B) name=pure none) (I:h.Inst x C mA) (hv:mA name=some v) (hh:handedOut v=pure v) (hq:Q v ⟨h,g,d,t+1,os⟩) :
  wpAny (model prog w) A (getAttr (.ref x) name expr) Q E ⟨h,g,d,t,os⟩:=by
 obtain⟨o,hx,hc,_⟩:=id I;have f3:=FB.ga.bind (.ref x);have b0:(expr&&onTheHeap (Value.builtin "BaseException.__getattribute__"))=false:=by cases expr <;> rfl
 have b2:(Value.builtin "BaseException.__getattribute__" == Value.builtin "object.__getattribute__")=false:=by decide +kernel
 have b1:(onTheHeap (Value.ref C)&&Value.builtin "BaseException.__getattribute__" == Value.builtin "object.__getattribute__")=false:=by rw[b2];rfl
 have n1:=hmN _ hsa;have n2:=hmN _ hsb;unfold getAttr getAttrBy
 repeat (any_goals (first|assumption |(with_reducible refine wpAny_loadPart_at hx ?_;rw[hc]) |(with_reducible refine bW hsa hC hn T FB.mro FB.ga.lookup ?_;rw[n1]) |(with_reducible refine bW hsb hC hn T FB.mro FB.noGetattr ?_;rw[n2])|wp_step))
 refine codeAny_call_builtin FB.ga.plain F.entry_bexc_ga (vq FB T hC hx hc (z8 FB T hs hC hn (hmN _ hs) hB I hv hh ?_))
 repeat (any_goals (first|assumption|wp_step))
theorem AL{R:Result->Shared->Prop}(hob:bmB.contains (.type "object")=true)(T:b9 h S bmB bm)(hC:h.get? C=some (excClassObj nm q C N bs bm lU sn sub ab col dd k0 k1 k2 k3 k5 newId))
  (hx:h.get? x=some o) (hc:o.cls = .ref C) (hq:R (.ok (.ret (.ref C))) ⟨h,g,d,t,os⟩) :
  codeAny (model prog w) A (.call (.builtin "getset_descriptor.__get__") ⟨[.builtin "object.__class__",.ref x,.ref C],[]⟩) R ⟨h,g,d,t,os⟩:=by
 have hT5:(⟨h,g,d,t,os⟩:Shared).TypeIs (.builtin "object.__class__") "getset_descriptor":=F.typeOf_object_class;have e3:(Value.ref C::bm).contains (.type (".".intercalate ("object.__class__".cutAt '.').dropLast))=true:=by
  rw[F.owner_object_class,List.contains_cons,T.hasType hob,Bool.or_true]
 refine codeAny_call_builtin F.slot_gs_get.plain F.entry_gs_get (F.slot_gs_get.check _ _ _ _ _ _ _ _ hT5 (F.args_gs_get _ _ _) ?_)
 repeat (any_goals (first|assumption |(with_reducible refine wpAny_loadPart_at hx ?_;rw[hc]) |(with_reducible refine wpAny_isSubtype_exc hC ?_;rw[e3])|wp_step))
 refine⟨Code.quiet_builtin _ (by decide +kernel),codeAny_builtin F.entry_object_class ?_⟩
 repeat (any_goals (first|assumption |(with_reducible refine wpAny_loadPart_at hx ?_;rw[hc])|wp_step))
theorem yH{tk:Tok}{Q:Fin->Shared->Prop}(hlk:typeLookup (.type B) "__class__" = pure (some (.builtin "object.__class__")))(hob:bmB.contains (.type "object")=true)(hs:("__class__":Str)∈S)(FB:ExcAttrBase B bmB)(T:b9 h S bmB bm)
  (hC:h.get? C=some (excClassObj nm q C N bs bm lU sn sub ab col dd k0 k1 k2 k3 k5 newId)) (hn:h.Ns N mN) (hmN:∀ n∈S,mN n=none) (hx:h.get? x=some o) (hc:o.cls = .ref C) (hq:Q (.done (.ret (.ref C))) ⟨h,g,d,t,os⟩) :
  wpAny (model prog w) A (Builtin.«object.__getattribute__» ⟨[.ref x,.str "__class__" tk],[]⟩) Q E ⟨h,g,d,t,os⟩:=by
 have hT5:(⟨h,g,d,t,os⟩:Shared).TypeIs (.builtin "object.__class__") "getset_descriptor":=F.typeOf_object_class;have f5:=F.typeOf_object_class;have f6:=F.slot_gs_get.lookup;have f7:=F.slot_gs_set.lookup;have n1:=hmN _ hs
 repeat (any_goals (first|assumption |(with_reducible refine wpAny_loadPart_at hx ?_;rw[hc]) |(with_reducible refine bW hs hC hn T FB.mro hlk ?_;rw[n1])|wp_step))
 refine AL hob T hC hx hc ?_
 repeat (any_goals (first|assumption|wp_step))
theorem D9{tk:Tok}{Q:Value->Shared->Prop}(hlk:typeLookup (.type B) "__class__" = pure (some (.builtin "object.__class__")))(hob:bmB.contains (.type "object")=true)(hs:("__class__":Str)∈S)(hsa:("__getattribute__":Str)∈S)(hsb:("__getattr__":Str)∈S)(FB:ExcAttrBase B bmB)(T:b9 h S bmB bm)
  (hC:h.get? C=some (excClassObj nm q C N bs bm lU sn sub ab col dd k0 k1 k2 k3 k5 newId)) (hn:h.Ns N mN) (hmN:∀ n∈S,mN n=none) (hx:h.get? x=some o) (hc:o.cls = .ref C) (hq:Q (.ref C) ⟨h,g,d,t,os⟩) :
  wpAny (model prog w) A (getAttrBy (.ref x) (.str "__class__" tk) false) Q E ⟨h,g,d,t,os⟩:=by
 have f3:=FB.ga.bind (.ref x);have b2:(Value.builtin "BaseException.__getattribute__" == Value.builtin "object.__getattribute__")=false:=by decide +kernel
 have b1:(onTheHeap (Value.ref C)&&Value.builtin "BaseException.__getattribute__" == Value.builtin "object.__getattribute__")=false:=by rw[b2];rfl
 have n1:=hmN _ hsa;have n2:=hmN _ hsb
 repeat (any_goals (first|assumption |(with_reducible refine wpAny_loadPart_at hx ?_;rw[hc]) |(with_reducible refine bW hsa hC hn T FB.mro FB.ga.lookup ?_;rw[n1]) |(with_reducible refine bW hsb hC hn T FB.mro FB.noGetattr ?_;rw[n2])|wp_step))
 refine codeAny_call_builtin FB.ga.plain F.entry_bexc_ga (vq FB T hC hx hc (yH hlk hob hs FB T hC hn hmN hx hc ?_))
 repeat (any_goals (first|assumption|wp_step))
theorem yI{Q:Option Value->Shared->Prop}(hlk:typeLookup (.type B) "__class__" = pure (some (.builtin "object.__class__")))(hob:bmB.contains (.type "object")=true)(hs:("__class__":Str)∈S)(hsa:("__getattribute__":Str)∈S)(hsb:("__getattr__":Str)∈S)(FB:ExcAttrBase B bmB)(T:b9 h S bmB bm)
  (hC:h.get? C=some (excClassObj nm q C N bs bm lU sn sub ab col dd k0 k1 k2 k3 k5 newId)) (hn:h.Ns N mN) (hmN:∀ n∈S,mN n=none) (hx:h.get? x=some o) (hc:o.cls = .ref C) (hq:Q (some (.ref C)) ⟨h,g,d,t+1,os⟩) :
  wpAny (model prog w) A (getAttr? (.ref x) "__class__") Q E ⟨h,g,d,t,os⟩:=by
 unfold getAttr? getAttrBy?
 repeat (any_goals (first|assumption|with_reducible apply D9 hlk hob hs hsa hsb FB T hC hn hmN hx hc|wp_step))
end
end PySem
namespace PySem
open Sem (wp)
def ug(h:Heap)(e:Addr)(cls:Value)(dx:Option Addr)(y:Value):Prop :=
 ∃ o vs a0,h.get? e=some o/\o.cls=cls/\o.dict=dx/\o.data = .fields vs/\vs[0]? = some a0/\vs[1]? = some y
def fO(h:Heap)(e:Addr)(cls:Value)(dx:Option Addr)(T:Addr)(fl:Value):Prop :=
 T≠e/\ug h e cls dx (.ref T)/\∃ oT ts,h.get? T=some oT/\oT.data = .fields ts/\ts[3]? = some fl
structure c6(fr ex:List Addr)(h h':Heap):Prop where
 keep:∀ b o,h.get? b=some o->b ∉ fr->b ∉ ex->h'.get? b=some o
 slot:∀ b o,h.get? b=some o->b ∉ ex->∃ sl,h'.get? b=some { o with slots:=sl }
 there:∀ b o,h.get? b=some o->∃ o',h'.get? b=some o'
theorem c6.trans{fr ex ex2:List Addr}{h h1 h2:Heap}(a:c6 fr ex h h1)(b:c6 fr ex2 h1 h2)(hs:∀ b o,h.get? b=some o->b∈ex2->b∈ex):c6 fr ex h h2 where
 keep:=fun c o e hf hx=>b.keep c o (a.keep c o e hf hx) hf fun z=>hx (hs c o e z)
 slot:=fun c o e hx=>by
  obtain⟨sl,e1⟩:=a.slot c o e hx;obtain⟨sl',e2⟩:=b.slot c _ e1 fun z=>hx (hs c o e z)
  exact⟨sl',e2⟩
 there:=fun c o e=>let⟨o',e1⟩:=a.there c o e;b.there c o' e1
theorem c6.mono{fr fr' ex ex':List Addr}{h h1:Heap}(a:c6 fr ex h h1)(hf:∀ b∈fr,b∈fr')(hx:∀ b∈ex,b∈ex'):c6 fr' ex' h h1 :=
 ⟨fun b o e n m=>a.keep b o e (fun z=>n (hf b z)) fun z=>m (hx b z),fun b o e m=>a.slot b o e fun z=>m (hx b z),a.there⟩
theorem c6.kC{fr ex:List Addr}{h h1 base:Heap}{l:List Env}(a:c6 fr ex h h1)(hx:∀ b o,b∈ex->h.get? b=some o->∃ vs,o.data = .fields vs)(hl:h.FunFrames base l):h1.FunFrames base l :=
 hl.of_keeps fun b o e hn=>by
  obtain⟨sl,q⟩:=a.slot b o e fun z=>by obtain⟨vs,q⟩:=hx b o z e;exact hn vs q
  exact⟨_,q,rfl⟩
theorem jk{h:Heap}{T i:Nat}{x:Value}{oT:Obj}{ts:Array Value}(hT:h.get? T=some oT)(hd:oT.data = .fields ts):c6 [] [T] h (h.update T (Obj.mapFields (·.setIfInBounds i x))):=by
 have ot:∀ b,b≠T ->(h.update T (Obj.mapFields (·.setIfInBounds i x))).get? b=h.get? b:=fun b hb=>Heap.get?_update_other _ _ (Ne.symm hb)
 refine⟨fun b o e _ n=>(ot b fun z=>n (by simp[z])).trans e,fun b o e n=>⟨o.slots,(ot b fun z=>n (by simp[z])).trans e⟩,fun b o e=>?_⟩
 by_cases hb:b=T
 ·rw[hb];exact⟨_,Heap.get?_update_self _ hT (Obj.isFreed_of_fields (Obj.data_mapFields hd _))⟩
 ·exact⟨o,(ot b hb).trans e⟩
section
variable{M:Model}{A:Around}{E:Value->Shared->Prop}{s:Shared}
variable{base:Heap}{env:Env}{outer:List Env}{L e T:Addr}{cls:Value}{dx:Option Addr}{Q:Unit->Shared->Prop}
theorem HJ{y head:Value}{LO:Bool}(hfr:A.frames=some (env::outer))(hl:s.heap.FunFrames base (env::outer))(hf:env.frame=some L)(hx:ug s.heap e cls dx y)
  (hq:∀ h' T',s.heap.objs.size<=T'->fO h' e cls dx T' (rawInt L)->c6 ((env::outer).filterMap (·.frame)) [e] s.heap h'->Q () { s with heap:=h' }) :
  wpAny M A (do let a <- frameOf env;let pl <- entryPlaceOf L LO;let b <- EntryCells.newEntry head a .none (rawInt L) .none pl;setField (.ref e) 1 b) Q E s:=by
 obtain⟨o,vs,a0,ho,hc,hdx,hd,h0,h1⟩:=hx;have hsz:1<vs.size:=(Array.getElem?_eq_some_iff.mp h1).1;have nfr:e ∉ (env::outer).filterMap (·.frame):=fun z=>by
  obtain⟨_,o',ho',hn⟩:=hl.mem z;rw[ho]at ho';cases ho';exact hn vs hd
 refine wpAny_bind (wpAny_frameOf_fun hfr hl hf fun g hg=>?_)
 refine wpAny_bind (wpAny_entryPlaceOf fun pl hpl=>?_)
 unfold EntryCells.newEntry newFields;refine wpAny_bind (wpAny_newObj_type ?_ (hpl.sizeOk5 _ _ _ _ _));have e1:g.get? e=some o:=(hg.2.1 e nfr).trans ho;have e2:=Heap.get?_push_of_some (h:=g) { cls:=.type "traceback",dict:=none,data:=.fields ([head,.ref L,.none,rawInt L,.none]++(if pl.isEmpty then List.replicate 6 Value.none else pl)).toArray } e1
 have hTe:g.objs.size≠e:=Nat.ne_of_gt (Heap.lt_size e1);have d3:=Obj.data_mapFields hd (·.setIfInBounds 1 (Value.ref g.objs.size));have e3:=Heap.get?_update_self (Obj.mapFields (·.setIfInBounds 1 (Value.ref g.objs.size))) e2 (Obj.isFreed_of_fields d3);refine wpAny_setField e2 hd hsz (hq _ g.objs.size (Nat.le_of_eq hg.1.symm) ⟨hTe,⟨_,_,a0,e3,(Obj.cls_mapFields _ _).trans hc,?_,d3,by rw[Array.getElem?_setIfInBounds_ne (by decide)];exact h0,by simp[hsz]⟩,?_⟩ ?_)
 ·rw[<- hdx];obtain⟨_,_,dt,_⟩:=o;cases dt <;> rfl
 ·exact⟨_,_,(Heap.get?_update_other _ _ (Ne.symm hTe)).trans (Heap.get?_push_size g rfl),rfl,by first |(simp;done) |(rcases hpl with rfl |⟨_,_,_,_,_,_,_,rfl⟩ <;> simp)⟩
 ·have kp:∀ b ob,b≠e->g.get? b=some ob ->((g.push { cls:=.type "traceback",dict:=none,data:=.fields ([head,.ref L,.none,rawInt L,.none]++(if pl.isEmpty then List.replicate 6 Value.none else pl)).toArray }).update e (Obj.mapFields (·.setIfInBounds 1 (Value.ref g.objs.size)))).get? b=some ob :=
   fun b ob hb q=>(Heap.get?_update_other _ _ (Ne.symm hb)).trans (Heap.get?_push_of_some _ q)
  refine⟨fun b ob q n m=>kp b ob (fun z=>m (by simp[z])) ((hg.2.1 b n).trans q),fun b ob q m=>?_,fun b ob q=>?_⟩
  ·obtain⟨sl,q2⟩:=hg.2.2 b ob q;exact⟨sl,kp b _ (fun z=>m (by simp[z])) q2⟩
  ·by_cases hb:b=e
   ·rw[hb];exact⟨_,e3⟩
   ·obtain⟨sl,q2⟩:=hg.2.2 b ob q;exact⟨_,kp b _ hb q2⟩
theorem fj{fl:Value}(hx:fO s.heap e cls dx T fl)(hq:∀ h',fO h' e cls dx T .none->c6 [] [T] s.heap h'->Q () { s with heap:=h' }):wpAny M A (setFlight (.ref e) none) Q E s:=by
 obtain⟨hTe,⟨o,vs,a0,ho,hc,hdx,hd,h0,h1⟩,oT,ts,hT,hdT,h3⟩:=hx;have hs3:3<ts.size:=(Array.getElem?_eq_some_iff.mp h3).1;unfold setFlight;refine wpAny_bind (wpAny_field ho hd h1 ?_);rw[if_pos (show(Value.ref T != Value.none)=true from by simp)]
 refine wpAny_setField hT hdT hs3 (hq _ ⟨hTe,⟨o,vs,a0,(Heap.get?_update_other _ _ hTe).trans ho,hc,hdx,hd,h0,h1⟩,_,_,Heap.get?_update_self _ hT (Obj.isFreed_of_fields (Obj.data_mapFields hdT _)),Obj.data_mapFields hdT _,by simp[hs3]⟩ (jk hT hdT))
theorem pO(hfr:A.frames=some (env::outer))(hl:s.heap.FunFrames base (env::outer))(hf:env.frame=some L)(hx:ug s.heap e cls dx .none)
  (hq:∀ h' T',s.heap.objs.size<=T'->fO h' e cls dx T' (rawInt L)->c6 ((env::outer).filterMap (·.frame)) [e] s.heap h'->Q () { s with heap:=h' }):wpAny M A (noteFrame (.ref e) env) Q E s:=by
 obtain⟨o,vs,a0,ho,hc,hdx,hd,h0,h1⟩:=id hx;unfold noteFrame;simp only[hf];refine wpAny_bind (wpAny_field ho hd h1 ?_);rw[if_neg (by decide)]
 exact HJ hfr hl hf hx hq
theorem sF(hfr:A.frames=some (env::outer))(hl:s.heap.FunFrames base (env::outer))(hf:env.frame=some L)(hx:fO s.heap e cls dx T .none)
  (hq:∀ h' T',s.heap.objs.size<=T'->fO h' e cls dx T' (rawInt L)->c6 ((env::outer).filterMap (·.frame)) [e,T] s.heap h'->Q () { s with heap:=h' }):wpAny M A (noteFrame (.ref e) env) Q E s:=by
 obtain⟨hTe,⟨o,vs,a0,ho,hc,hdx,hd,h0,h1⟩,oT,ts,hT,hdT,h3⟩:=hx;unfold noteFrame;simp only[hf];refine wpAny_bind (wpAny_field ho hd h1 ?_);rw[if_pos (show(Value.ref T != Value.none)=true from by simp)]
 refine wpAny_bind (wpAny_field hT hdT h3 ?_);rw[if_neg (show ¬((Value.none==rawInt L)=true)from by simp[rawInt])]
 refine wpAny_bind (wpAny_setField hT hdT (Array.getElem?_eq_some_iff.mp h3).1 ?_);have k1:=jk (i:=3) (x:=Value.none) hT hdT;have isx:∀ b ob,b ∈ [T]->s.heap.get? b=some ob->∃ ws,ob.data = .fields ws:=fun b ob hb q=>by
  have hb':b=T:=by simpa using hb
  subst hb';rw[hT]at q;cases q;exact⟨ts,hdT⟩
 refine HJ (y:=.ref T) hfr (k1.kC isx hl) hf ⟨o,vs,a0,(Heap.get?_update_other _ _ hTe).trans ho,hc,hdx,hd,h0,h1⟩ fun h' T' sz al k2=>hq h' T' ?_ al ?_
 ·have:(s.heap.update T (Obj.mapFields (·.setIfInBounds 3 Value.none))).objs.size=s.heap.objs.size:=by simp[Heap.update]
  exact Nat.le_trans (Nat.le_of_eq this.symm) sz
 ·exact(k1.mono (fr':=(env::outer).filterMap (·.frame)) (ex':=[e,T]) (fun _ z=>nomatch z) (fun b z=>by simp at z;simp[z])).trans k2 fun b ob _ z=>by simp at z;simp[z]
theorem sO(hfr:A.frames=some (env::outer))(hl:s.heap.FunFrames base (env::outer))(hf:env.frame=some L)(hx:ug s.heap e cls dx .none)
  (hq:∀ h' T',s.heap.objs.size<=T'->fO h' e cls dx T' .none->c6 ((env::outer).filterMap (·.frame)) [e] s.heap h'->Q () { s with heap:=h' }):wpAny M A (leaving env (.ref e)) Q E s:=by
 unfold leaving;refine wpAny_bind (pO hfr hl hf hx fun h1 T1 sz al k1=>fj al fun h2 al2 k2=>hq h2 T1 sz al2 ?_)
 exact k1.trans (k2.mono (fun _ z=>nomatch z) fun b z=>z) fun b ob q z=>by
  have hb':b=T1:=by simpa using z
  subst hb';exact absurd (Nat.lt_of_lt_of_le (Heap.lt_size q) sz) (Nat.lt_irrefl _)
theorem uD(hfr:A.frames=some (env::outer))(hl:s.heap.FunFrames base (env::outer))(hf:env.frame=some L)(hx:fO s.heap e cls dx T .none)
  (hq:∀ h' T',s.heap.objs.size<=T'->fO h' e cls dx T' .none->c6 ((env::outer).filterMap (·.frame)) [e,T] s.heap h'->Q () { s with heap:=h' }):wpAny M A (leaving env (.ref e)) Q E s:=by
 unfold leaving;refine wpAny_bind (sF hfr hl hf hx fun h1 T1 sz al k1=>fj al fun h2 al2 k2=>hq h2 T1 sz al2 ?_)
 exact k1.trans (k2.mono (fun _ z=>nomatch z) fun b z=>z) fun b ob q z=>by
  have hb':b=T1:=by simpa using z
  subst hb';exact absurd (Nat.lt_of_lt_of_le (Heap.lt_size q) sz) (Nat.lt_irrefl _)
end
end PySem
namespace L2
open PySem PySem.Spec PyProof.Rows
abbrev bmV:List Value:=[.type "ValueError",.type "Exception",.type "BaseException",.type "object"]
abbrev xS(fn:List Str):List Str:="__setattr__" :: "__getattribute__" :: "__getattr__" :: "__class__" :: fn
structure bF(K:W.Frag)(fn:List Str)(C:Addr)(bm:List Value)(ini:Option Addr):Prop where
 all:∀ h:Heap,K.In h->∃ nm q N bs sn sub ab col dd k0 k1 k2 k3 k5 mN,h.get? C=some (excClassObj nm q C N bs bm true sn sub ab col dd k0 k1 k2 k3 k5 "ValueError.__new__")/\h.Ns N mN /\
  (∀ n∈xS fn,mN n=none)/\mN "__init__" = ini.map Value.ref/\b9 h ("__init__" :: xS fn) bmV bm
 cl:∃ cd,W.clsIn K C=some cd/\cd.mro = .ref C::bm
 ty:W.typeIn K (.ref C)=some (.type "type")
def qK(K:W.Frag)(S:List Str)(bmB:List Value):List Value->Bool
 | []=>bmB == []
 | v::r=>(v::r)==bmB||match v with
  | .ref A=>(match K.lookup A with
   | some ⟨_,_,.cls cd,_⟩=>W.nsOkIn K cd.ns&&S.all (fun n=>W.nsIn K cd.ns n==some none)&&qK K S bmB r
   | _=>false)
  | _=>false
theorem xF{K:W.Frag}{h:Heap}{S:List Str}{bmB:List Value}(X:K.In h):∀{l:List Value},qK K S bmB l=true->b9 h S bmB l
 | [],e=>by rw[<- beq_iff_eq.mp e];exact .base
 | v::r,e=>by
  unfold qK at e;rcases Bool.or_eq_true_iff.mp e with q|q
  ·rw[beq_iff_eq.mp q];exact .base
  ·split at q
   ·split at q
    ·rename_i ho;rw[Bool.and_eq_true,Bool.and_eq_true]at q;exact .own (X _ _ ho) (.of_isNs (W.isNs_of_in X q.1.1)) (fun n hn=>W.nsMap_none_of_in X q.1.1 (beq_iff_eq.mp (List.all_eq_true.mp q.1.2 n hn))) (xF X q.2)
    ·cases q
   ·cases q
def S2:Data->Option ClassData
 | .cls cd=>some cd
 | _=>none
theorem D8{d:Data}{cd:ClassData}(h:S2 d=some cd):d = .cls cd:=by
 cases d <;> first|exact congrArg Data.cls (Option.some.inj h)|cases h
def EB(K:W.Frag)(fn:List Str)(C:Addr)(bm:List Value)(ini:Option Addr)(sl:Array (Option Value))(cd:ClassData):Bool :=
 cd.mro == .ref C::bm&&sl.size==6&&sl[4]? == some (some (.builtin "ValueError.__new__")) && !cd.hasDel&&cd.hasDict&&qK K ("__init__" :: xS fn) bmV bm&&W.nsOkIn K cd.ns &&
  (xS fn).all (fun n=>W.nsIn K cd.ns n==some none)&&W.nsIn K cd.ns "__init__" == some (ini.map Value.ref)
def fR(K:W.Frag)(fn:List Str)(C:Addr)(bm:List Value)(ini:Option Addr):Bool:=(K.lookup C).any fun o=>o.cls == .type "type" && (S2 o.data).any (EB K fn C bm ini o.slots)
theorem any_some{α:Type}{o:Option α}{f:α->Bool}(h:o.any f=true):∃ a,o=some a/\f a=true:=by
 cases o with
 | none=>cases h
 | some a=>exact⟨a,rfl,h⟩
theorem six{α:Type}{l:List α}(h:l.length=6):∃ a b c d e f,l = [a,b,c,d,e,f]:=by
 cases l with
 | nil=>cases h
 | cons a l=>cases l with
  | nil=>cases h
  | cons b l=>cases l with
   | nil=>cases h
   | cons c l=>cases l with
    | nil=>cases h
    | cons d l=>cases l with
     | nil=>cases h
     | cons e l=>cases l with
      | nil=>cases h
      | cons f l=>exact⟨a,b,c,d,e,f,by rw[List.length_eq_zero_iff.mp (show l.length=0 by simpa using h)]⟩
variable{mg:Str->Option Value}
theorem zS{K:W.Frag}{h:Heap}{N:Addr}{n:Str}{v:Value}(X:K.In h)(G:h.Ns N mg)(e:W.nsIn K N n=some (some v)):mg n=some v:=by
 obtain⟨o,es,ep,ho,hd,_,hf⟩:=G;unfold W.nsIn at e
 split at e
 ·rename_i c d es' n' sl q
  have:=X _ _ q
  rw[ho]at this;cases this;cases hd
  split at e
  ·rename_i e1 he;cases e;rw[<- hf];unfold nsFind findBy;rw[<- Array.find?_toList,he];rfl
  ·split at e <;> cases e
 ·cases e
variable{fn:List Str}{C:Addr}{bm:List Value}{ini:Option Addr}
theorem fL{K:W.Frag}(q:fR K fn C bm ini=true):bF K fn C bm ini:=by
 unfold fR at q;obtain⟨⟨cl,dd,da,sl⟩,ho,q⟩:=any_some q;rw[Bool.and_eq_true]at q;obtain⟨q0,q⟩:=q;obtain⟨cd,hcd,q⟩:=any_some q;have e0:cl = .type "type":=eq_of_beq q0;have e1:da = .cls cd:=D8 hcd;subst e0 e1;unfold EB at q;simp only[Bool.and_eq_true,beq_iff_eq,Bool.not_eq_true']at q;obtain⟨⟨⟨⟨⟨⟨⟨⟨hm,h6⟩,h4⟩,Sy⟩,Sx⟩,ht⟩,hok⟩,hS⟩,hni⟩:=q;obtain⟨nm,bs,mro,ns,qn,hd,sn,sub,ab,col,del⟩:=cd;dsimp only at hm Sy hok hni Sx hS;subst hm Sy Sx;obtain⟨l⟩:=sl;obtain⟨k0,k1,k2,k3,k4,k5,rfl⟩:=six (l:=l) h6;obtain rfl:k4=some (.builtin "ValueError.__new__"):=Option.some.inj h4;refine⟨fun h X=>?_,⟨_,by unfold W.clsIn;rw[ho],rfl⟩,by show(K.lookup _).map (·.cls)=_;rw[ho];rfl⟩
 refine⟨nm,qn,ns,bs,sn,sub,ab,col,dd,k0,k1,k2,k3,k5,_,X _ _ ho,.of_isNs (W.isNs_of_in X hok),fun n hn=>W.nsMap_none_of_in X hok (by simpa using List.all_eq_true.mp hS n hn),?_,xF X ht⟩
 cases ini with
 | none=>exact W.nsMap_none_of_in X hok hni
 | some f=>exact zS X (.of_isNs (W.isNs_of_in X hok)) hni
theorem _root_.PySem.b9.sub{h:Heap}{S S':List Str}{bmB tl:List Value}(T:b9 h S bmB tl)(hs:∀ n∈S',n∈S):b9 h S' bmB tl:=by
 induction T with
 | base=>exact .base
 | own a b c _ ih=>exact .own a b (fun n hn=>c n (hs n hn)) ih
def XAt(a C:Addr)(dx:Option Addr)(b:Bool)(h:Heap):Prop:=∃ y,ug h a (.ref C) dx y/\(b=true->y = .none)
def XD(dx:Addr)(fs:List (Str×V))(h:Heap):Prop:=∃ mA,h.Ns1 dx mA/\(∀ f,gW (fs.lookup f) (mA f))/\PySem.Within mA (fs.map (·.1))
def ExH(H:Hp)(a C:Addr)(b:Bool)(fs:List (Str×V)):Prop:=(fs = []/\H a=some (.ext (XAt a C none b)))\/∃ dx,dx≠a/\H a=some (.ext (XAt a C (some dx) b))/\H dx=some (.ext (XD dx fs))
variable{o:HO}{ex:List Addr}{φ:Heap->Prop}{o1:HO}{o2:HO}
section
variable{P:Program}{w:World}{H H':Hp}{h h':Heap}{a d:Addr}{dx:Option Addr}{b:Bool}{fs:List (Str×V)}
theorem XAt.ok(x:XAt a C dx b h):aW P w H h a (.ext (XAt a C dx b)):=by
 refine⟨x,?_,fun h1 h2 ⟨y,⟨o,vs,a0,e,r⟩,z⟩ k=>⟨y,⟨o,vs,a0,k o e,r⟩,z⟩⟩
 obtain⟨y,⟨o,vs,a0,e,r⟩,z⟩:=x;exact⟨o,e⟩
theorem XD.ok(x:XD d fs h):aW P w H h d (.ext (XD d fs)):=by
 refine⟨x,?_,fun h1 h2 ⟨mA,⟨o,es,ep,e,r⟩,z⟩ k=>⟨mA,⟨o,es,ep,k o e,r⟩,z⟩⟩
 obtain⟨mA,⟨o,es,ep,e,r⟩,z⟩:=x;exact⟨o,e⟩
theorem aW.at(x:aW P w H h a o):∃ u,h.get? a=some u:=by
 cases o with
 | lst xs=>obtain⟨_,_,_,_,e⟩:=x;exact⟨_,e⟩
 | tup xs=>obtain⟨_,_,_,p⟩:=x;obtain⟨o,e,_⟩:=p.1;exact⟨o,e⟩
 | dK kvs=>obtain⟨_,_,_,_,o,_,_,e,_⟩:=x;exact⟨o,e⟩
 | dT kvs=>obtain⟨_,_,_,_,o,_,_,e,_⟩:=x;exact⟨o,e⟩
 | set S n=>obtain⟨o,_,_,_,e,_⟩:=x;exact⟨o,e⟩
 | ins C dx fs=>obtain⟨_,_,_,e,_⟩:=x;exact⟨_,e⟩
 | own y=>exact x
 | xd fs=>obtain⟨_,⟨o,_,_,e,_⟩,_⟩:=x;exact⟨o,e⟩
 | room x'=>obtain⟨_,_,_,e⟩:=x;exact⟨_,e⟩
 | rng lo hi=>obtain⟨_,_,_,e⟩:=x;exact⟨_,e⟩
 | frz ob u=>obtain⟨e,_⟩:=x;exact⟨_,e⟩
 | tbl ps=>exact⟨_,(show h.get? a=some _ from x)⟩
 | met f y=>exact⟨_,(show h.get? a=some _ from x)⟩
 | ext φ=>exact x.2.1
theorem HOk.no(x:HOk P w H h)(e:h.get? a=none):H a=none:=by
 cases q:H a with
 | none=>rfl
 | some u =>
  obtain⟨v,z⟩:=(x a u q).at;rw[e]at z;cases z
theorem HOk.yl(x:HOk P w H h)(k:∀ b u,h.get? b=some u->h'.get? b=some u)(hp:h.get? a=none)(new:aW P w (upd H a o) h' a o):HOk P w (upd H a o) h':=fun b u e=>by
 have hn:=x.no hp;by_cases hb:b=a
 ·subst hb;rw[aj]at e;cases e;exact new
 ·rw[ai hb]at e;exact(x b u e).cN (fun c v _ q=>k c v q) (fun c q=>by rw[ai (aI q hn)];exact q) fun c xs q=>by rw[ai (aI q hn)];exact q
theorem Un.yl{fs:List Addr}(k:∀ b u,h.get? b=some u->h'.get? b=some u)(hp:h.get? a=none)(hn:H a=none):Un fs ex H (upd H a o) h h' where
 keep:=fun b u q _ _ _=>k b u q
 slot:=fun b u q _ _ _=>⟨u.slots,k b u q⟩
 free:=fun b u q n _=>by rw[ai (fun z=>by rw[z,hp]at q;cases q)];exact n
 there:=fun b u q _=>⟨u,k b u q⟩
 mD:=fun b xs q=>by rw[ai (aI q hn)];exact q
 jP:=fun b u xs q=>by rw[ai (aI q hn)];exact q
 mE:=fun b ps q=>⟨#[],by rw[ai (aI q hn),q];simp⟩
theorem Inv.yl{X:Cx}{gV:List (Addr×Obj)}{σ:St}{s:Shared}{o:HO}{t':Nat}(I:Inv X gV σ H s)(k:∀ b u,s.heap.get? b=some u->h'.get? b=some u)(hp:s.heap.get? a=none)(new:aW X.prog X.w (upd H a o) h' a o) :
  Inv X gV σ (upd H a o) { s with heap:=h',toks:=t' }:=I.un (Un.yl k hp (I.hok.no hp)) (I.hok.yl k hp new)
theorem NC(x:HOk P w H h)(ha:H a=some (.ext φ))(hd:h.get? d=none)(k:∀ b u,b≠a->h.get? b=some u->h'.get? b=some u)
  (n1:aW P w (upd (upd H d o1) a o2) h' d o1) (n2:aW P w (upd (upd H d o1) a o2) h' a o2):HOk P w (upd (upd H d o1) a o2) h':=fun b u e=>by
 have hn:=x.no hd;have st:∀ c v,H c=some v->v ≠ .ext φ->upd (upd H d o1) a o2 c=some v:=fun c v q nv=>by
  rw[ai (fun z=>by rw[z,ha]at q;cases q;exact nv rfl),ai (aI q hn)];exact q
 by_cases hb:b=a
 ·subst hb;rw[aj]at e;cases e;exact n2
 ·rw[ai hb]at e;by_cases hb2:b=d
  ·subst hb2;rw[aj]at e;cases e;exact n1
  ·rw[ai hb2]at e;refine(x b u e).cN (fun c v hc q=>k c v ?_ q) (fun c q=>st c _ q fun z=>nomatch z) fun c xs q=>st c _ q fun z=>nomatch z
   rcases hc with z|z
   ·rw[z];exact hb
   ·exact i6 z ha fun z=>nomatch z
theorem NB{l:List Addr}(x:HOk P w H h)(ha:H a=some (.ext φ))(hd:h.get? d=none)(k:∀ b u,b≠a->h.get? b=some u->h'.get? b=some u)(heo:∃ u,h'.get? a=some u):Un l ex H (upd (upd H d o1) a o2) h h':=by
 have hn:=x.no hd;have na:∀ b,H b=none->b≠a:=fun b n z=>by rw[z,ha]at n;cases n
 have st:∀ c v,H c=some v->v ≠ .ext φ->upd (upd H d o1) a o2 c=some v:=fun c v q nv=>by
  rw[ai (fun z=>by rw[z,ha]at q;cases q;exact nv rfl),ai (aI q hn)];exact q
 refine⟨fun b u q n _ _=>k b u (na b n) q,fun b u q n _ _=>⟨u.slots,k b u (na b n) q⟩,fun b u q n _=>?_,fun b u q _=>?_,fun b xs q=>st b _ q (fun z=>nomatch z),fun b u xs q=>st b _ q (fun z=>nomatch z),fun b ps q=>⟨#[],by rw[st b _ q (fun z=>nomatch z)];simp⟩⟩
 ·rw[ai (na b n),ai (fun z=>by rw[z,hd]at q;cases q)];exact n
 ·by_cases hb:b=a
  ·rw[hb];exact heo
  ·exact⟨u,k b u hb q⟩
end
variable{mA:Str->Option Value}{y:V}{u:Value}{Q:Value->Shared->Prop}
section
variable{X:Cx}{gV:List (Addr×Obj)}{σ:St}{H:Hp}{s:Shared}{a d:Addr}{dx:Option Addr}{b:Bool}{fs:List (Str×V)}{f:Str}{v:V}{A:Around}{E:Value->Shared->Prop}
theorem XAt.Sj{h:Heap}(x:XAt a C none b h):h.Inst a C (fun _=>none):=by
 obtain⟨y,⟨o,vs,a0,e,hc,hd,hda,_⟩,_⟩:=x;exact⟨o,e,hc,fun c z=>(by rw[hda]at z;cases z),.inl ⟨hd,fun _=>rfl⟩⟩
theorem XAt.M6{h:Heap}(x:XAt a C (some d) b h)(ne:d≠a)(n:h.Ns1 d mA):h.Inst a C mA:=by
 obtain⟨y,⟨o,vs,a0,e,hc,hd,hda,_⟩,_⟩:=x;exact⟨o,e,hc,fun c z=>(by rw[hda]at z;cases z),.inr ⟨d,hd,ne,n⟩⟩
def FOk(f:Str):Prop:=typeLookup (.type "ValueError") f=pure none
theorem bF.ne{h:Heap}(c:bF X.K fn C bm ini)(I:Inv X gV σ H s)(e:H a=some (.ext φ))(hb:∀ h,φ h->∃ o vs,h.get? a=some o/\o.data = .fields vs):a≠C:=by
 intro z;obtain⟨nm,q,N,bs,sn,sub,ab,col,dd,k0,k1,k2,k3,k5,mN,hC,_⟩:=c.all s.heap I.kIn;obtain⟨o,vs,e1,e2⟩:=hb _ (I.hok a _ e).1;rw[z,hC]at e1;cases e1;cases e2
theorem XAt.rec{h:Heap}(x:XAt a C dx b h):∃ o vs,h.get? a=some o/\o.data = .fields vs:=let⟨_,⟨o,vs,_,e,_,_,hd,_⟩,_⟩:=x;⟨o,vs,e,hd⟩
theorem xP{fs:List (Str×V)}(r:∀ g,gW (fs.lookup g) (mA g))(ry:RelV y u)(g:Str):gW ((fK f y fs).lookup g) (if g=f then some u else mA g):=by
 rw[jz];by_cases q:g=f
 ·rw[if_pos q,if_pos q];exact ry
 ·rw[if_neg q,if_neg q];exact r g
theorem rB{fs:List (Str×V)}(wi:PySem.Within mA (fs.map (·.1))):PySem.Within (fun g=>if g=f then some u else mA g) ((fK f y fs).map (·.1)):=fun g hg=>by
 by_cases q:g=f
 ·rw[q];exact(gH f y fs).1
 ·refine(gH f y fs).2 g (wi g fun z=>hg ?_)
  show(if g=f then some u else mA g)=none
  rw[if_neg q];exact z
theorem Fm{Q:Unit->Shared->Prop}(I:Inv X gV σ H s)(e:H a=some (.ext (XAt a C none b)))(c:bF X.K fn C bm ini)(hf:f∈fn)(fo:FOk f)(ry:RelV y u)
  (h:∀ s' d,H d=none->d≠a->Inv X gV σ (upd (upd H d (.ext (XD d [(f,y)]))) a (.ext (XAt a C (some d) b))) s'->Q () s'):wpAny (model X.prog X.w) A (setAttr (.ref a) f u) Q E s:=by
 have hx:XAt a C none b s.heap:=(I.hok a _ e).1;have hne:=c.ne (h:=s.heap) I e fun h x=>x.rec
 obtain⟨nm,q,N,bs,sn,sub,ab,col,dd,k0,k1,k2,k3,k5,mN,hC,hN,hS,_,T⟩:=c.all s.heap I.kIn;obtain⟨hh,g,dr,t,os⟩:=s;have hp:hh.get? hh.objs.size=none:=Heap.get?_none_of_le (Nat.le_refl _);have mem:∀ n∈xS fn,n∈("__init__":Str)::xS fn:=fun n hn=>List.mem_cons_of_mem _ hn
 refine pJ (ns:=[]) F.store_ValueError (T.sub mem) (by simp[hf]) (by simp) hC hN (hS _ (by simp)) (hS f (by simp[hf])) fo hne hx.Sj (fun h' tk' I' kp same=>?_) (fun y hy=>absurd rfl hy) (by decide)
 obtain⟨y0,⟨o,vs,a0,e0,hc,hd,hda,z0,z1⟩,zb⟩:=hx;obtain⟨o1,e1,c1,da1,_,_,d1⟩:=same o e0;have d1:=d1 hd;obtain⟨o',e',_,_,Ht⟩:=I'
 have:o'=o1:=Option.some.inj (e'.symm.trans e1)
 subst this;have hn1:h'.Ns1 hh.objs.size (fun y=>if y=f then some u else none):=by
  rcases Ht with⟨z,_⟩ |⟨d2,z,_,n2⟩
  ·rw[d1]at z;cases z
  ·rw[d1]at z;cases z;exact n2
 have VC:hh.objs.size≠a:=fun z=>by rw[<- z,hp]at e0;cases e0
 have kp':∀ b ob,b≠a->hh.get? b=some ob->h'.get? b=some ob:=fun b ob hb q=>kp b ob hb (fun o₀ dx h1 h2=>by rw[e0]at h1;cases h1;rw[hd]at h2;cases h2) q
 have wi:=rB (f:=f) (y:=y) (u:=u) (fs:=[]) (mA:=fun _=>none) (fun g hg=>absurd rfl hg)
 have nX:XAt a C (some hh.objs.size) b h':=⟨y0,⟨o',vs,a0,e1,c1.trans hc,d1,da1.trans hda,z0,z1⟩,zb⟩;have nD:XD hh.objs.size [(f,y)] h':=⟨_,hn1,xP (fs:=[]) (fun _=>True.intro) ry,wi⟩
 exact h _ hh.objs.size (I.hok.no hp) VC (I.un (NB I.hok e hp kp' ⟨_,e1⟩) (NC I.hok e hp kp' nD.ok nX.ok))
theorem Fl{Q:Unit->Shared->Prop}(I:Inv X gV σ H s)(e:H a=some (.ext (XAt a C (some d) b)))(ne:d≠a)(ed:H d=some (.ext (XD d fs)))(c:bF X.K fn C bm ini)(hf:f∈fn)(fo:FOk f)(hl:fs.length<1000)(ry:RelV y u)
  (h:∀ s',Inv X gV σ (upd H d (.ext (XD d (fK f y fs)))) s'->Q () s'):wpAny (model X.prog X.w) A (setAttr (.ref a) f u) Q E s:=by
 have hx:XAt a C (some d) b s.heap:=(I.hok a _ e).1;obtain⟨mA,hn,r,wi⟩:XD d fs s.heap:=(I.hok d _ ed).1;have hne:=c.ne (h:=s.heap) I e fun h x=>x.rec
 obtain⟨nm,q,N,bs,sn,sub,ab,col,dd,k0,k1,k2,k3,k5,mN,hC,hN,hS,_,T⟩:=c.all s.heap I.kIn;obtain⟨hh,g,dr,t,os⟩:=s;have mem:∀ n∈xS fn,n∈("__init__":Str)::xS fn:=fun n hn=>List.mem_cons_of_mem _ hn
 refine pJ (ns:=fs.map (·.1)) F.store_ValueError (T.sub mem) (by simp[hf]) (by simp) hC hN (hS _ (by simp)) (hS f (by simp[hf])) fo hne (hx.M6 ne hn) (fun h' tk' I' kp same=>?_) wi (by rw[List.length_map,sizeLine_eq];omega)
 obtain⟨y0,⟨o,vs,a0,e0,hc,hd,hda,z0,z1⟩,zb⟩:=hx;obtain⟨o1,e1,c1,da1,sl1,d0,_⟩:=same o e0;have d1:=d0 d hd;clear d0;have oe:o1=o:=by
  obtain⟨q1,q2,q3,q4⟩:=o1;obtain⟨p1,p2,p3,p4⟩:=o;dsimp only at c1 da1 sl1 d1 hd;subst c1 da1 sl1 d1 hd;rfl
 subst oe;obtain⟨o',e',_,_,Ht⟩:=I'
 have:o'=o1:=Option.some.inj (e'.symm.trans e1)
 subst this;have hn1:h'.Ns1 d (fun y=>if y=f then some u else mA y):=by
  rcases Ht with⟨z,_⟩ |⟨d2,z,_,n2⟩
  ·rw[d1]at z;cases z
  ·rw[d1]at z;cases z;exact n2
 have kp':∀ b ob,b≠d->hh.get? b=some ob->h'.get? b=some ob:=fun b ob hb q=>by
  by_cases hb2:b=a
  ·subst hb2;have q':hh.get? b=some ob:=q;rw[e0]at q';cases q';exact e1
  ·exact kp b ob hb2 (fun o₀ dx h1 h2=>by rw[e0]at h1;cases h1;rw[hd]at h2;cases h2;exact hb) q
 have nD:XD d (fK f y fs) h':=⟨_,hn1,xP r ry,rB wi⟩;exact h _ (I.write (x:=d) (e:=d) (t':=tk') (by rw[ed];exact True.intro) (.inl rfl) kp' (let⟨_,⟨o,_,_,e,_⟩,_⟩:=nD;⟨o,e⟩) nD.ok)
theorem LS{bb:Bool}(I:Inv X gV σ H s)(e:ExH H a C b fs)(c:bF X.K fn C bm ini)(hf:f∈fn)(fo:FOk f)(l:fs.lookup f=some v)
  (h:∀ u s',Inv X gV σ H s'->RelV v u->Q u s'):wpAny (model X.prog X.w) A (getAttr (.ref a) f bb) Q E s:=by
 rcases e with⟨z,_⟩ |⟨d,ne,e,ed⟩
 ·rw[z]at l;cases l
 have hx:XAt a C (some d) b s.heap:=(I.hok a _ e).1;obtain⟨mA,hn,r,wi⟩:XD d fs s.heap:=(I.hok d _ ed).1;obtain⟨nm,q,N,bs,sn,sub,ab,col,dd,k0,k1,k2,k3,k5,mN,hC,hN,hS,_,T⟩:=c.all s.heap I.kIn;obtain⟨u,hu,ru⟩:=gW.some_of (v:=v) (o:=mA f) (by rw[<- l];exact r f)
 have I':=I.tok (s.toks+1);obtain⟨hh,g,dr,t,os⟩:=s;have mem:∀ n∈xS fn,n∈("__init__":Str)::xS fn:=fun n hn=>List.mem_cons_of_mem _ hn
 exact z9 F.attrBase_ValueError (T.sub mem) (by simp[hf]) (by simp) (by simp) hC hN hS fo (hx.M6 ne hn) hu (W.handedOut_of (vf ru)) (h u _ I' ru)
end
def Q8(K:W.Frag)(fn:List Str)(ta tv:TE)(f:Str):TS:=fun D σ H=>tv σ H fun y H1=>ta σ H1 fun x H2=>∃ a C b bm ini,x = .ref a/\bF K fn C bm ini/\f∈fn/\FOk f /\
 ((H2 a=some (.ext (XAt a C none b))/\∀ d,H2 d=none->d≠a->D.nx σ (upd (upd H2 d (.ext (XD d [(f,y)]))) a (.ext (XAt a C (some d) b)))) \/
  ∃ d fs,d≠a/\H2 a=some (.ext (XAt a C (some d) b))/\H2 d=some (.ext (XD d fs))/\fs.length<1000/\D.nx σ (upd H2 d (.ext (XD d (fK f y fs)))))
def ET(K:W.Frag)(fn:List Str)(ta:TE)(f:Str):TE:=fun σ H Q=>ta σ H fun x H1=>∃ a C b bm ini fs v,x = .ref a/\ExH H1 a C b fs/\bF K fn C bm ini/\f∈fn/\FOk f/\fs.lookup f=some v/\Q v H1
section
variable{X:Cx}{o e value:Expr}{f:Str}{pos pos':Pos}{ta tv:TE}
theorem BG(ha:PE X o ta)(hv:PE X value tv)(hs:swapsWith value (some (.Attribute o f pos')) pos.line X.env=pure false:=by rfl):PS X (.Assign [.Attribute o f pos'] value pos) (Q8 X.K fn ta tv f):=by
 intro gV s σ H D I h;refine plainObj_wpAny_Assign_Attribute (thn (hv gV s σ H _ I h) fun u s1 ⟨y,H1,I1,ry,q⟩=>thn (ha gV s1 σ H1 _ I1 q) fun ov s2 hPP=>?_) hs
 obtain⟨x,H2,I2,rx,a,C,b,bm,ini,ex,c,hf,fo,q2⟩:=hPP;subst ex;obtain rfl:ov=Value.ref a:=rx;rcases q2 with⟨e0,q2⟩ |⟨d,fs,ne,e0,e1,hl,q2⟩
 ·exact Fm I2 e0 c hf fo ry fun s3 d z ne I3=>⟨σ,_,I3,q2 d z ne⟩
 ·exact Fl I2 e0 ne e1 c hf fo hl ry fun s3 I3=>⟨σ,_,I3,q2⟩
theorem K5(he:PE X e ta)(hb:attributeBase e f X.env (eval e X.env)=eval e X.env:=by rfl):PE X (.Attribute e f pos) (ET X.K fn ta f):=by
 intro gV s σ H Q I h;refine CK hb (thn (he gV s σ H _ I h) fun u s1 hPP=>?_)
 obtain⟨x,H1,I1,rx,a,C,b,bm,ini,fs,v,ex,ea,c,hf,fo,l,q⟩:=hPP;subst ex;obtain rfl:u=Value.ref a:=rx;exact LS I1 ea c hf fo l fun u' s2 I2 ru=>⟨v,H1,I2,ru,q⟩
end
def xI(C:Addr)(fsN:List Str):Sp:=fun vs H Q _=>∃ a ys,vs = .ref a::ys/\ys.length=fsN.length/\H a=some (.ext (XAt a C none true)) /\
 ∀ d,H d=none->d≠a->Q .non (upd (upd H d (.ext (XD d (fsN.zip ys)))) a (.ext (XAt a C (some d) true)))
def zc(C:Addr)(fsN:List Str)(t:TA):TE:=fun σ H Q=>t σ H fun vs H1=>vs.length=fsN.length/\vs.length<=1000/\∀ a d,H1 a=none->H1 d=none->d≠a->Q (.ref a) (upd (upd H1 d (.ext (XD d (fsN.zip vs)))) a (.ext (XAt a C (some d) true)))
variable{h':Heap}{a:Addr}{d:Addr}{us:List Value}
section
variable{X:Cx}{gV:List (Addr×Obj)}{σ:St}{H:Hp}{s:Shared}{f:Addr}{k:Nat}{fd:FuncData}{ps fsN:List Str}{x:Str}{p pos:Pos}{e:Expr}{es:List Expr}{t:TA}
theorem Lw{args:List Value}{h:Heap}{e:Addr}(m:Heap.MadeExcOf h h' e (.ref C) args):XAt e C none true h':=by
 obtain⟨t,he,_,_⟩:=m.there;exact⟨.none,⟨_,_,_,he,rfl,rfl,rfl,rfl,rfl⟩,fun _=>rfl⟩
theorem UR(ne:d≠a):upd (upd (upd H a o) d o1) a o2=upd (upd H d o1) a o2:=by
 funext b
 by_cases h1:b=a
 ·rw[h1,aj,aj]
 ·rw[ai h1,ai h1];by_cases h2:b=d
  ·rw[h2,aj,aj]
  ·rw[ai h2,ai h2,ai h1]
theorem Di{Q:VK}{vs:List V}(M:bF X.K fn C bm (some f))(hfn:W.isFn X.K (.ref f)=true)(F:aU X.prog X.w X.K X.mg X.base CX0 k f fd ps (xI C fsN))(hr:cb (k+1) X.A)(hb:Binds X.K fd ps [])
  (I:Inv X gV σ H s) (r:Vals vs us) (hl:vs.length=fsN.length) (hz:vs.length<=1000) (h:∀ a d,H a=none->H d=none->d≠a->Q (.ref a) (upd (upd H d (.ext (XD d (fsN.zip vs)))) a (.ext (XAt a C (some d) true)))) :
  wpAny (model X.prog X.w) X.A (call (.ref C) us) (EP X gV σ Q) X.xe s:=by
 obtain⟨nm,q,N,bs,sn,sub,ab,col,dd,k0,k1,k2,k3,k5,mN,hC,hN,hS,hi,T⟩:=M.all s.heap I.kIn;obtain⟨oI,hoI,hcI⟩:=Option.map_eq_some_iff.mp (show(X.K.lookup f).map (·.cls)=some (.type "function")from beq_iff_eq.mp hfn);have hfI:=I.kIn f oI hoI;have hus:us.length<=1000:=by rw[<- r.length];exact hz
 have mk:∀ h' e,Heap.MadeExcOf s.heap h' e (.ref C) us->Inv X gV σ (upd H e (.ext (XAt e C none true))) { s with heap:=h' }:=fun h' e m=>I.yl (t':=s.toks) m.keeps m.new (Lw m).ok
 have hn:∀ h' e,Heap.MadeExcOf s.heap h' e (.ref C) us->H e=none:=fun h' e m=>I.hok.no m.new
 have hr1:=hr.make C us [];have e1:∀ h' e,Heap.MadeExcOf s.heap h' e (.ref C) us->yU X.prog X.w X.K X.mg X.base (X.A.under (.builtin "type.__call__" ⟨.ref C::us,[]⟩)) X.stack { s with heap:=h' } (upd H e (.ext (XAt e C none true))):=fun h' e m=>(mk h' e m).LW.make C us []
 obtain⟨hh,g,dr,tk,os⟩:=s;refine AQ PySem.F.excBase_ValueError (b9.tail (by simp) T) hC hN hi hfI hcI (fun h' e m=>?_) (by rw[sizeLine_eq];omega)
 have spq:xI C fsN (.ref e::vs) (upd H e (.ext (XAt e C none true))) (fun v H2=>v = .non/\Q (.ref e) H2) E0:=⟨e,vs,rfl,hl,aj,fun d z ne=>⟨rfl,by
  rw[UR ne];have z':H d=none:=by rw[ai ne]at z;exact z
  exact h e d (hn h' e m) z' ne⟩⟩
 have r2:Vals (V.ref e::vs) (Value.ref e::us):=.cons rfl r;have hl2:(Value.ref e::us ++ []).length=ps.length:=by
  rw[List.append_nil,<- r2.length];exact F.len _ _ _ _ spq
 have hbd:=hb ⟨h',g,dr,tk,os⟩ (Value.ref e::us) (mk h' e m).kIn hl2;rw[List.append_nil]at hbd;refine wpAny_call (codeAny_mono (F.run _ X.stack _ _ ⟨Value.ref e::us,[]⟩ (Value.ref e::us) _ _ E0 hr1 (e1 h' e m) hbd r2 spq) fun r s' hq'=>?_)
 cases r with
 | error e=>exact False.elim hq'
 | ok fl =>
  cases fl with
  | ret u =>
   obtain⟨v,H',I3,rv,ev,q3⟩:=(mk h' e m).after hq';subst ev;exact⟨rv,⟨V.ref e,H',I3,rfl,q3⟩⟩
  | next=>exact False.elim hq'
  | brk=>exact False.elim hq'
  | cont=>exact False.elim hq'
theorem Gv(M:bF X.K fn C bm (some f))(hfn:W.isFn X.K (.ref f)=true)(kp:W.keepIn X.K (.ref C)=true)(F:aU X.prog X.w X.K X.mg X.base CX0 k f fd ps (xI C fsN))(hr:cb (k+1) X.A)(hg:Gl X x)(hm:X.mg x=some (.ref C))(hb:Binds X.K fd ps [])
  (ha:PA X (e::es) t) (hdb:(x ==("__debug__":Str))=false:=by decide) (he:starEach (e::es) X.env =(false,eval e X.env)::starEach es X.env:=by rfl) (hpl:(backTo pos (starEach es X.env)).any (·.1)=false:=by rfl) :
  PE X (.Call (.Name x p) (e::es) [] pos) (zc C fsN t):=by
 intro gV s σ H Q I h;refine wpAny_Call_Name_kw (kj I hg hm ?_ hdb);refine W.callWith_K (h₀:=X.base) I.ok.mod.kin kp (thn (ha pos gV s σ H _ I h) fun us s1 ⟨vs,H1,I1,r,hl,hz,q⟩=>⟨I1.kIn,?_⟩) he hpl
 exact Di M hfn F hr hb I1 r hl hz q
end
section
variable{X:Cx}{gV:List (Addr×Obj)}{σ:St}{H:Hp}{s:Shared}{C':Addr}{bm':List Value}{uE:Option Addr}{fs:List (Str×V)}{b:Bool}{A:Around}{E:Value->Shared->Prop}
theorem DR:typeLookup (.type "ValueError") "__class__" = pure (some (.builtin "object.__class__")):=by rw[typeLookup_type,builtinLookup_eq_fast];kernel_rfl
theorem ym{K:W.Frag}(c:bF K fn C bm ini):W.KitX K (.ref a) (.ref C) (fun h=>∃ o,h.get? a=some o/\o.cls = .ref C) where
 ty:=fun M h X ⟨o,e,hc⟩=>by
  intro A' Q' E' s' k q;unfold typeOf;refine wpAny_bind (wpAny_loadPart (k _ _ e) (wpAny_pure ?_))
  first
   | (rw[hc];exact q)
   | (show Q' o.cls s';rw[hc];exact q)
 it:=fun M h X _=>by
  obtain⟨nm,q,N,bs,sn,sub,ab,col,dd,k0,k1,k2,k3,k5,mN,hC,_⟩:=c.all h X;intro A' Q' E' s' k q;unfold isType loadHead;exact wpAny_bind (wpAny_loadPart (k _ _ hC) (wpAny_pure q))
 ne:=fun h tp dd its n sl X htp=>by
  obtain⟨nm,q,N,bs,sn,sub,ab,col,dd',k0,k1,k2,k3,k5,mN,hC,_⟩:=c.all h X;refine Bool.eq_false_iff.mpr fun q=>?_
  have e:C=tp:=Value.ref.inj (beq_iff_eq.mp q);subst e;have z:Value.type "type" = Value.type "tuple":=congrArg Obj.cls (Option.some.inj (hC.symm.trans htp));exact absurd z (by decide)
 ca:=fun{prog w A E Q s} X ⟨o,e,hc⟩ hq=>by
  obtain⟨nm,q,N,bs,sn,sub,ab,col,dd,k0,k1,k2,k3,k5,mN,hC,hN,hS,hi,T⟩:=c.all s.heap X;obtain⟨hh,g,dr,tk,os⟩:=s;have mem:∀ n∈xS fn,n∈("__init__":Str)::xS fn:=fun n hn=>List.mem_cons_of_mem _ hn
  exact yI DR (by decide) (by simp) (by simp) (by simp) F.attrBase_ValueError (T.sub mem) hC hN hS e hc hq
theorem Lz{K:W.Frag}(c:bF K fn C bm ini)(c':bF K fn C' bm' uE):W.kitOne K (.ref C) (.ref C')=some ((Value.ref C::bm).contains (.ref C')):=by
 unfold W.kitOne;obtain⟨cd,h1,h2⟩:=c.cl;obtain⟨cd',h1',_⟩:=c'.cl
 split
 ·rename_i z;rw[beq_iff_eq.mp z];simp
 ·unfold W.kitCls W.subIn W.mroIn;simp[h1,h1',c'.ty,h2]
theorem Hb{K:W.Frag}{T:String}(c:bF K fn C bm ini)(hT:W.kitMeta T=true):W.kitOne K (.ref C) (.type T)=some (bm.contains (.type T)):=by
 unfold W.kitOne;obtain⟨cd,h1,h2⟩:=c.cl;rw[if_neg (by intro z;exact nomatch(beq_iff_eq.mp z))]
 unfold W.kitCls W.subIn W.mroIn;simp only[hT,if_true,h1,Option.bind_some,h2,List.isEmpty_cons,Bool.false_eq_true,if_false,List.contains_cons];rfl
theorem ExH.cls{h:Heap}{P:Program}{w:World}(e:ExH H a C b fs)(ok:HOk P w H h):∃ o,h.get? a=some o/\o.cls = .ref C:=by
 have go:∀ dx,H a=some (.ext (XAt a C dx b))->∃ o,h.get? a=some o/\o.cls = .ref C:=fun dx e=>by
  obtain⟨y,⟨o,vs,a0,e1,hc,_⟩,_⟩:=(ok a _ e).1;exact⟨o,e1,hc⟩
 rcases e with⟨_,e⟩ |⟨d,_,e,_⟩
 ·exact go _ e
 ·exact go _ e
theorem Pr{c:Value}{r:Bool}(I:Inv X gV σ H s)(e:ExH H a C b fs)(cx:bF X.K fn C bm ini)(ek:W.kitOne X.K (.ref C) c=some r)(h:∀ tk,Q (.bool r) { s with toks:=tk }):wpAny (model X.prog X.w) A (call (.builtin "isinstance") [.ref a,c]) Q E s :=
 W.kia_one (ym cx) I.kIn (e.cls I.hok) ek (fun z=>nomatch z) h
end
end L2
namespace PySem
open Sem (wp)
section
variable{M:Model}{A:Around}{E:Value->Shared->Prop}{env:Env}
variable{nm q nm' q':Str}{C N C' N':Addr}{bs bm bs' bm':List Value}{lU Sz:Bool}{sn sn':List Str}{sub JP:List Value}{ab ab':Bool}{col S0:Option Bool}{dd dd':Option Addr}{k0 k1 k2 k3 k5 j0 j1 j2 j3 j5:Option Value}{newId O5:String}
theorem N6{s:Shared}{x:Sem Value}{Q:Flow->Shared->Prop}(hh:A.handled=none)
  (h:wpAny M A x (fun v s₁=>∃ e oe C nm q N bs bm lU sn sub ab col dd k0 k1 k2 k3 k5 newId,v = .ref e/\s₁.heap.get? C=some (excClassObj nm q C N bs bm lU sn sub ab col dd k0 k1 k2 k3 k5 newId)/\bm.contains (.type "BaseException")=true /\
   s₁.heap.get? e=some oe/\oe.cls = .ref C/\(∃ vs,oe.data = .fields vs/\vs[1]? = some .none)/\E (.ref e) s₁) E s):wpAny M A (raiseStmt env (some x) none) Q E s:=by
 unfold raiseStmt;refine wpAny_bind (wpAny_mono h (fun v s₁ h₁=>?_) fun _ _ x=>x)
 obtain⟨e,oe,C,nm,q,N,bs,bm,lU,sn,sub,ab,col,dd,k0,k1,k2,k3,k5,newId,rfl,hC,hb,he,yw,⟨vs,hd,h1⟩,hE⟩:=h₁;have hcB:(Value.ref C::bm).contains (.type "BaseException")=true:=by rw[List.contains_cons,hb,Bool.or_true]
 obtain⟨hp,g,d,tk,os⟩:=s₁;obtain⟨c0,d0,da,sl⟩:=oe;dsimp only at yw hd;subst yw hd
 repeat (first|with_reducible refine wpAny_loadPart_at he ?_|with_reducible refine wpAny_loadPart_at hC ?_ |(with_reducible refine wpAny_isSubtype_exc hC ?_;rw[hcB])|wp_step)
 rw[h1]
 repeat (first|with_reducible refine wpAny_raiseNew_none hh hE|wp_step)
theorem O7{h:Heap}{g:Array GenState}{d:Drawn}{t:Nat}{os:OsState}{e:Addr}{oe:Obj}{Q:Bool->Shared->Prop}
  (hC:h.get? C=some (excClassObj nm q C N bs bm lU sn sub ab col dd k0 k1 k2 k3 k5 newId)) (hC':h.get? C'=some (excClassObj nm' q' C' N' bs' bm' Sz sn' JP ab' S0 dd' j0 j1 j2 j3 j5 O5)) (he:h.get? e=some oe) (yw:oe.cls = .ref C)
  (hb:bm'.contains (.type "BaseException")=true) (hq:Q ((Value.ref C::bm).contains (.ref C')) ⟨h,g,d,t,os⟩):wpAny M A (excMatches (.ref e) (.ref C')) Q E ⟨h,g,d,t,os⟩:=by
 have hcB:(Value.ref C'::bm').contains (.type "BaseException")=true:=by rw[List.contains_cons,hb,Bool.or_true]
 have f:=tc_notTuple;unfold excMatches
 repeat (first |(with_reducible refine wpAny_loadPart_at he ?_;rw[yw])|with_reducible refine wpAny_loadPart_at hC' ?_ |(with_reducible refine wpAny_isSubtype_exc hC' ?_;rw[hcB])|wp_step)
 all_goals(cases hz:(Value.ref C::bm).contains (.ref C') <;>(rw[hz]at hq;first|exact wpAny_isSubtype_exc hC (by rw[hz];exact hq) |(refine wpAny_isSubtype_exc hC ?_;rw[hz];repeat (first|exact hq|wp_step))))
end
end PySem
namespace L2
open PySem PySem.Spec PyProof.Rows
def CX1(P:Program)(w:World):CXT:=fun outer H s E e s'=>∃ a C dx T H',e = .ref a/\s'.os=s.os/\AllBare s'.gens/\Un (frs outer) [] H H' s.heap s'.heap/\HOk P w H' s'.heap /\
 H' a=some (.ext (XAt a C dx false))/\fO s'.heap a (.ref C) dx T .none/\H' T=none/\s.heap.get? T=none/\E (.ref C) (some a) H'
variable{φ:Heap->Prop}
section
variable{P:Program}{w:World}{H₀ H H':Hp}{h₀ h h':Heap}{fs fr ex:List Addr}{a C T:Addr}{dx:Option Addr}{fl:Value}
theorem Un.m9(u:Un fs [] H₀ H h₀ h)(k:c6 fr ex h h')(hex:∀ b∈ex,(∃ φ,H b=some (.ext φ))\/h₀.get? b=none)(hfr:∀ b∈fr,b∈fs\/h₀.get? b=none)(hH:∀ b,H' b=H b\/∃ φ ψ,H b=some (.ext φ)/\H' b=some (.ext ψ)):Un fs [] H₀ H' h₀ h':=by
 have nx:∀ b o,h₀.get? b=some o->H b=none->b ∉ ex:=fun b o e n z=>by
  rcases hex b z with⟨φ,y⟩|y
  ·rw[n]at y;cases y
  ·rw[e]at y;cases y
 have st:∀ b o,H b=some o ->(∀ φ,o ≠ .ext φ)->H' b=some o:=fun b o e n=>by
  rcases hH b with z |⟨φ,ψ,z,_⟩
  ·rw[z];exact e
  ·rw[e]at z;cases z;exact absurd rfl (n φ)
 refine⟨fun b o e n hb hx=>?_,fun b o e n hb hx=>?_,fun b o e n hx=>?_,fun b o e hx=>?_,fun b xs e=>st b _ (u.mD b xs e) (fun _ z=>nomatch z),fun b o xs e=>st b _ (u.jP b o xs e) (fun _ z=>nomatch z),fun b ps e=>?_⟩
 ·refine k.keep b o (u.keep b o e n hb hx) (fun z=>?_) (nx b o e (u.free b o e n hx))
  rcases hfr b z with y|y
  ·exact hb y
  ·rw[e]at y;cases y
 ·obtain⟨sl,e1⟩:=u.slot b o e n hb hx;obtain⟨sl',e2⟩:=k.slot b _ e1 (nx b o e (u.free b o e n hx));exact⟨sl',e2⟩
 ·have n1:=u.free b o e n hx;rcases hH b with z |⟨φ,ψ,z,_⟩
  ·rw[z];exact n1
  ·rw[n1]at z;cases z
 ·obtain⟨o',e1⟩:=u.there b o e hx;exact k.there b o' e1
 ·obtain⟨more,e1⟩:=u.mE b ps e;exact⟨more,st b _ e1 (fun _ z=>nomatch z)⟩
theorem HOk.m9(ok:HOk P w H h)(k:c6 fr ex h h')(hfr:∀ b∈fr,H b=none)(hex:∀ b∈ex,b=a\/H b=none)(ha:H a=some (.ext φ))(hH:∀ b,b≠a->H' b=H b)(new:∀ o,H' a=some o->aW P w H' h' a o)
  (hxt:∃ ψ,H' a=some (.ext ψ)):HOk P w H' h':=fun c o e=>by
 by_cases hc:c=a
 ·subst hc;exact new o e
 ·rw[hH c hc]at e;have st:∀ b v,H b=some v ->(∀ φ,v ≠ .ext φ)->H' b=some v:=fun b v q n=>by
   rw[hH b (fun z=>by rw[z,ha]at q;cases q;exact n φ rfl)];exact q
  have go:∀ b u v,H b=some v->b≠a->h.get? b=some u->h'.get? b=some u:=fun b u v q na r=>k.keep b u r (fun z=>by rw[hfr b z]at q;cases q) fun z=>by
   rcases hex b z with y|y
   ·exact na y
   ·rw[y]at q;cases q
  refine(ok c o e).cN (fun b u hb r=>?_) (fun b q=>st b _ q (fun _ z=>nomatch z)) fun b xs q=>st b _ q (fun _ z=>nomatch z)
  rcases hb with y|y
  ·rw[y]at r ⊢;exact go c u o e hc r
  ·exact go b u _ y (i6 y ha fun z=>nomatch z) r
theorem _root_.PySem.fO.at(x:fO h a (.ref C) dx T fl):XAt a C dx false h:=⟨_,x.2.1,fun z=>nomatch z⟩
end
variable{P:Program}{mg:Str->Option Value}{base:Heap}{N:List Str}{qual:Str}{scope:Scope}{cd:Value}{A:Around}{outer:List Env}{H₀:Hp}{e:Expr}{te:TE}
section
variable{X:Cx}{gV:List (Addr×Obj)}{σ:St}{H:Hp}{s:Shared}{a C T:Addr}{dx:Option Addr}{E:XK}{fn:List Str}
def nK(X:Cx)(Es:St->XK):Prop:=∀(gV:List (Addr×Obj))(σ:St)(H:Hp)(s:Shared)(a C:Addr)(dx:Option Addr),Inv X gV σ H s->H a=some (.ext (XAt a C dx true))->Es σ (.ref C) (some a) (upd H a (.ext (XAt a C dx false)))->X.xe (.ref a) s
def iW(CX:CXT)(X:Cx)(Es:St->XK):Prop:=∀(gV:List (Addr×Obj))(σ:St)(H:Hp)(s:Shared)(e:Value)(s':Shared),Inv X gV σ H s->CX X.stack H s (Es σ) e s'->X.xe e s'
theorem EK{ψ:Heap->Prop}(e:H a=some (.ext φ))(b:Addr):upd H a (.ext ψ) b=H b\/∃ φ ψ',H b=some (.ext φ)/\upd H a (.ext ψ) b=some (.ext ψ'):=by
 by_cases hb:b=a
 ·rw[hb];exact .inr ⟨φ,ψ,e,aj⟩
 ·exact .inl (ai hb)
theorem rX{w:World}{K:W.Frag}{f:Addr}{s₀:Shared}:nK (ma (CX1 P w) P w K mg base N qual scope f cd A outer s₀ H₀ E) (fun _=>E):=by
 intro gV σ H s a C dx I e hE;obtain⟨y,hx,hy⟩:XAt a C dx true s.heap:=(I.hok a _ e).1;rw[hy rfl]at hx;refine sO (A:=A.deeper (envOfC qual scope s₀.heap.objs.size f cd)) (env:=envOfC qual scope s₀.heap.objs.size f cd) (outer:=outer) (base:=base) I.ok.frames I.stack rfl hx fun h' T sz al kx=>?_
 have lt:∀ b o,s₀.heap.get? b=some o->b<s₀.heap.objs.size:=fun b o q=>Heap.lt_size q
 refine⟨a,C,dx,T,upd H a (.ext (XAt a C dx false)),rfl,I.os,I.bare,?_,?_,aj,al,?_,Heap.get?_none_of_le (Nat.le_trans I.sz sz),hE⟩
 ·refine Un.m9 (fr:=frs (envOfC qual scope s₀.heap.objs.size f cd::outer)) I.base kx (fun b hb=>?_) (fun b hb=>?_) (EK e)
  ·rw[List.mem_singleton.mp hb];exact .inl ⟨_,e⟩
  ·rcases List.mem_cons.mp (I.ox b hb)with z|z
   ·exact .inr (by rw[z];exact Heap.get?_none_of_le (Nat.le_refl _))
   ·exact .inl z
 ·exact HOk.m9 (a:=a) I.hok kx (fun b hb=>I.j9 b hb) (fun b hb=>.inl (List.mem_singleton.mp hb)) e (fun b hb=>ai hb) (fun o q=>by rw[aj]at q;cases q;exact al.at.ok) ⟨_,aj⟩
 ·rw[ai al.1];exact I.hok.fresh sz
theorem sk{w:World}{K:W.Frag}{f:Addr}{s₀:Shared}:iW (CX1 P w) (ma (CX1 P w) P w K mg base N qual scope f cd A outer s₀ H₀ E) (fun _=>E):=by
 intro gV σ H s e s' I hx;obtain⟨a,C,dx,T,H',rfl,hos,hg,un,hok,ea,al,hT,hTs,hE⟩:=hx;have I':=I.yL (ch:=[]) hos un hok hg (fun b z=>nomatch z)
 refine uD (A:=A.deeper (envOfC qual scope s₀.heap.objs.size f cd)) (env:=envOfC qual scope s₀.heap.objs.size f cd) (outer:=outer) (base:=base) I'.ok.frames I'.stack rfl al fun h' T' sz al' kx=>?_
 have hT0:s₀.heap.get? T=none:=by
  cases q:s₀.heap.get? T with
  | none=>rfl
  | some o =>
   obtain⟨o',z⟩:=I.base.there T o q (fun z=>nomatch z)
   rw[hTs]at z;cases z
 refine⟨a,C,dx,T',H',rfl,I'.os,I'.bare,?_,?_,ea,al',I'.hok.fresh sz,Heap.get?_none_of_le (Nat.le_trans I'.sz sz),hE⟩
 ·refine Un.m9 (fr:=frs (envOfC qual scope s₀.heap.objs.size f cd::outer)) I'.base kx (fun b hb=>?_) (fun b hb=>?_) (fun b=>.inl rfl)
  ·rcases List.mem_cons.mp hb with z|z
   ·rw[z];exact .inl ⟨_,ea⟩
   ·rw[List.mem_singleton.mp z];exact .inr hT0
  ·rcases List.mem_cons.mp (I'.ox b hb)with z|z
   ·exact .inr (by rw[z];exact Heap.get?_none_of_le (Nat.le_refl _))
   ·exact .inl z
 ·refine HOk.m9 (a:=a) I'.hok kx (fun b hb=>I'.j9 b hb) (fun b hb=>?_) ea (fun b hb=>rfl) (fun o q=>by rw[ea]at q;cases q;exact al'.at.ok) ⟨_,ea⟩
  rcases List.mem_cons.mp hb with z|z
  ·exact .inl z
  ·rw[List.mem_singleton.mp z];exact .inr hT
def y9(K:W.Frag)(fn:List Str)(Es:St->XK)(te:TE):TS:=fun _ σ H=>te σ H fun v H1=>∃ a C bm ini dx,v = .ref a/\bF K fn C bm ini/\H1 a=some (.ext (XAt a C dx true))/\Es σ (.ref C) (some a) (upd H1 a (.ext (XAt a C dx false)))
theorem Gg{Es:St->XK}{pos:Pos}(hc:X.calm=true)(hx:nK X Es)(he:PE X e te):PS X (.Raise (some e) none pos) (y9 X.K fn Es te):=by
 intro gV s σ H D I h;rw[arm_exec_Raise];refine wpAny_bind (wpAny_standAt (N6 (I.ok.hd hc) (wpAny_bind (thn (he gV s σ H _ I h) fun v s1 hPP=>?_))))
 obtain⟨x,H1,I1,rx,a,C,bm,ini,dx,ex,c,ea,q⟩:=hPP;refine wpAny_bind (wpAny_standAt (wpAny_pure ?_));subst ex;obtain rfl:v=Value.ref a:=rx;obtain⟨nm,q',N,bs,sn,sub,ab,col,dd,k0,k1,k2,k3,k5,mN,hC,hN,hS,hi,T⟩:=c.all s1.heap I1.kIn;obtain⟨y,⟨o,vs,a0,e1,hc1,hd1,hda,_,hy⟩,hyn⟩:=(I1.hok a _ ea).1;rw[hyn rfl]at hy;exact⟨a,o,C,nm,q',N,bs,bm,true,sn,sub,ab,col,dd,k0,k1,k2,k3,k5,_,rfl,hC,T.hasType (by decide),e1,hc1,⟨vs,hda,hy⟩,hx gV σ H1 s1 a C dx I1 ea q⟩
end
abbrev Cx.inX(X:Cx)(a:Addr):Cx:={ X with A:=X.A.mark (some (.ref a)),calm:=false,xe:=fun _ _=>False }
theorem Cx.Ok.inX{X:Cx}(ok:X.Ok)(a:Addr):(X.inX a).Ok :=
 ⟨ok.mod,ok.kind,ok.glob,ok.blt,ok.above,ok.inj,ok.has,ok.cab,(fun z=>nomatch z),ok.frames,ok.stk,ok.exf,ok.bs,ok.bsz,ok.zT,ok.DV,ok.kC,ok.frf⟩
variable{M:Model}{E:Value->Shared->Prop}{x:Str}
section
variable{X:Cx}{gV:List (Addr×Obj)}{σ:St}{H:Hp}{s:Shared}{a:Addr}
theorem Inv.inX(I:Inv X gV σ H s)(a:Addr):Inv (X.inX a) gV σ H s:=⟨I.ok.inX a,I.os,I.bare,I.base,I.loc,I.cell,I.free,I.cV,I.pin,I.hok,I.len⟩
theorem Inv.zL(ok:X.Ok)(I:Inv (X.inX a) gV σ H s):Inv X gV σ H s:=⟨ok,I.os,I.bare,I.base,I.loc,I.cell,I.free,I.cV,I.pin,I.hok,I.len⟩
theorem SP.zL(ok:X.Ok){D:Ends}{f:Flow}{s':Shared}(h:SP (X.inX a) gV D f s'):SP X gV D f s':=by
 cases f with
 | next=>obtain⟨σ',H',I,q⟩:=h;exact⟨σ',H',I.zL ok,q⟩
 | brk=>obtain⟨σ',H',I,q⟩:=h;exact⟨σ',H',I.zL ok,q⟩
 | cont=>obtain⟨σ',H',I,q⟩:=h;exact⟨σ',H',I.zL ok,q⟩
 | ret u=>obtain⟨v,σ',H',I,r,q⟩:=h;exact⟨v,σ',H',I.zL ok,r,q⟩
abbrev Cx.qi(X:Cx)(pn:List (Addr×Obj))(xe:Value->Shared->Prop):Cx:={ X with pn:=pn,xe:=xe }
theorem Cx.Ok.qi{X:Cx}(ok:X.Ok)(pn:List (Addr×Obj))(xe:Value->Shared->Prop):(X.qi pn xe).Ok :=
 ⟨ok.mod,ok.kind,ok.glob,ok.blt,ok.above,ok.inj,ok.has,ok.cab,ok.hd,ok.frames,ok.stk,ok.exf,ok.bs,ok.bsz,ok.zT,ok.DV,ok.kC,ok.frf⟩
theorem Inv.qi(I:Inv X gV σ H s)(xe:Value->Shared->Prop):Inv (X.qi (X.pn++gV) xe) [] σ H s:=⟨I.ok.qi _ _,I.os,I.bare,I.base,I.loc,I.cell,I.free,I.cV,fun p hp=>I.pin p (by rw[List.append_nil]at hp;exact hp),I.hok,I.len⟩
theorem Inv.pI{xe:Value->Shared->Prop}{pins':List (Addr×Obj)}(ok:X.Ok)(I:Inv (X.qi (X.pn++gV) xe) pins' σ H s):Inv X gV σ H s:=⟨ok,I.os,I.bare,I.base,I.loc,I.cell,I.free,I.cV,fun p hp=>I.pin p (List.mem_append_left _ hp),I.hok,I.len⟩
theorem SP.pI{xe:Value->Shared->Prop}(ok:X.Ok){D:Ends}{f:Flow}{s':Shared}(h:SP (X.qi (X.pn++gV) xe) [] D f s'):SP X gV D f s':=by
 cases f with
 | next=>obtain⟨σ',H',I,q⟩:=h;exact⟨σ',H',I.pI ok,q⟩
 | brk=>obtain⟨σ',H',I,q⟩:=h;exact⟨σ',H',I.pI ok,q⟩
 | cont=>obtain⟨σ',H',I,q⟩:=h;exact⟨σ',H',I.pI ok,q⟩
 | ret u=>obtain⟨v,σ',H',I,r,q⟩:=h;exact⟨v,σ',H',I.pI ok,r,q⟩
structure Tb(X:Cx)(gV:List (Addr×Obj))(H:Hp)(T:Addr):Prop where
 n:H T=none
 l:T≠X.env.locals
 z:X.s₀.heap.objs.size<=T
 c:∀ x c,X.env.cells.lookup x=some c->c≠T
 p:∀ p∈X.pn++gV,p.1≠T
theorem Tb.of{T:Addr}(I:Inv X gV σ H s)(h:s.heap.objs.size<=T):Tb X gV H T where
 n:=I.hok.fresh h
 l:=Nat.ne_of_gt (Nat.lt_of_lt_of_le I.lt h)
 z:=Nat.le_trans I.sz h
 c:=fun x c e z=>by
  obtain⟨v,o,ho,_⟩:=I.cell x c e;rw[z]at ho;exact absurd (Nat.lt_of_lt_of_le (Heap.lt_size ho) h) (Nat.lt_irrefl _)
 p:=fun p hp z=>by
  have e:=(I.pin p hp).1;rw[z]at e;exact absurd (Nat.lt_of_lt_of_le (Heap.lt_size e) h) (Nat.lt_irrefl _)
theorem ki{i:Nat}{pos:Pos}{Q:Unit->Shared->Prop}(I:Inv X gV σ H s)(hN:X.N.Nodup)(hi:X.N[i]? = some x)(hk:X.env.scope.names.lookup x=some .local)
  (h:∀ s',Inv X gV (σ.set i none) H s'->Q () s'):wpAny M A (do bindName X.env x .none;unbindBehindTheSuite X.env x pos) Q E s:=by
 obtain⟨m,hn,hl⟩:=id I.loc;have yw:(X.env.scope.kind == .class ||(X.env.scope.kind == .module&&X.env.locals != X.env.globals))=false:=by rw[I.ok.kind];rfl
 have cne:=I.cne;refine wpAny_nameGoes_keeps hk hn yw fun h' v hn' hs=>?_
 have sb:∀ b o,X.s₀.heap.get? b=some o->h'.get? b=s.heap.get? b:=fun b o e=>hs.2 b (Nat.ne_of_lt (Nat.lt_of_lt_of_le (Heap.lt_size e) I.ok.above))
 obtain⟨oL,_,_,hoL,_⟩:=id hn;refine h _ ⟨I.ok,I.os,I.bare,⟨fun b o e n hb hx=>(sb b o e).trans (I.base.keep b o e n hb hx),fun b o e n hb hx=>?_,I.base.free,fun b o e hx=>?_,I.base.mD,I.base.jP,I.base.mE⟩,⟨_,hn',fun j y v' e1 e2 e3=>?_⟩,fun y c e=>?_,I.free,I.cV,fun p hp=>?_,fun b ob e=>?_,by simpa using I.len⟩
 ·obtain⟨sl,e1⟩:=I.base.slot b o e n hb hx;exact⟨sl,(sb b o e).trans e1⟩
 ·obtain⟨o',e1⟩:=I.base.there b o e hx;exact⟨o',(sb b o e).trans e1⟩
 ·by_cases hj:j=i
  ·subst hj;rw[List.getElem?_set]at e2
   split at e2
   ·split at e2 <;> cases e2
   ·rename_i z;exact absurd rfl z
  ·rw[List.getElem?_set_ne (Ne.symm hj)]at e2;obtain⟨u',r',q⟩:=hl j y v' e1 e2 e3;refine⟨u',r',?_⟩;rcases q with⟨k,e⟩ |⟨k,c,e,z⟩
   ·refine .inl ⟨k,?_⟩
    have:y≠x:=fun e=>hj (sG hN e1 (e▸hi))
    simp[this,e]
   ·exact .inr ⟨k,c,e,z.sameBut hs (cne y c e)⟩
 ·obtain⟨w',z⟩:=I.cell y c e;exact⟨w',z.sameBut hs (cne y c e)⟩
 ·obtain⟨e,n,ne,nf,d⟩:=I.pin p hp;exact⟨(hs.2 p.1 ne).trans e,n,ne,nf,d⟩
 ·refine(I.hok b ob e).cN (fun c w' hc q=>(hs.2 c ?_).trans q) (fun _ q=>q) fun _ _ q=>q
  intro z;rcases hc with y|y
  ·rw[<- y,z,I.free]at e;cases e
  ·rw[z,I.free]at y;cases y
end
abbrev TH:=Addr->Addr->TS
def PH(X:Cx)(hs:List ExceptHandler)(th:TH):Prop:=∀(gV:List (Addr×Obj))(s:Shared)(σ:St)(H:Hp)(D:Ends)(a C T:Addr)(dx:Option Addr),Inv X gV σ H s->H a=some (.ext (XAt a C dx false))->fO s.heap a (.ref C) dx T .none->Tb X gV H T ->
 th a C D σ H->wpAny (model X.prog X.w) X.A (handleBy (.ref a) X.env hs) (SP X gV D) X.xe s
def Hw:TH:=fun _ _ _ _ _=>False
def SI(K:W.Frag)(fn:List Str)(C':Addr)(ts:TS)(tr:TH):TH:=fun a C D σ H=>∃ bm ini,bF K fn C bm ini/\((Value.ref C::bm).contains (.ref C')=true->ts D σ H)/\((Value.ref C::bm).contains (.ref C')=false->tr a C D σ H)
def Ends.go(D:Ends)(i:Nat):Ends:={ nx:=fun σ H=>D.nx (σ.set i none) H,rt:=D.rt,bk:=fun σ H=>D.bk (σ.set i none) H,ct:=fun σ H=>D.ct (σ.set i none) H }
def hAs(K:W.Frag)(fn:List Str)(C':Addr)(i:Nat)(ts:TS)(tr:TH):TH:=fun a C D σ H=>∃ bm ini,bF K fn C bm ini/\((Value.ref C::bm).contains (.ref C')=true->ts (D.go i) (σ.set i (some (.ref a))) H)/\((Value.ref C::bm).contains (.ref C')=false->tr a C D σ H)
variable{hs:List ExceptHandler}{gV:List (Addr×Obj)}{H:Hp}{a:Addr}{C:Addr}{dx:Option Addr}{bm:List Value}{ini:Option Addr}{R:Result->Shared->Prop}{body:List Stmt}
section
variable{X:Cx}{fn:List Str}{C':Addr}{bm':List Value}{uE:Option Addr}{n:Str}{p pos:Pos}{b0:Stmt}{mG:List Stmt}{rest:List ExceptHandler}{ts:TS}{tr:TH}{i:Nat}
theorem Gr:PH X hs Hw:=fun _ _ _ _ _ _ _ _ _ _ _ _ _ h=>h.elim
theorem BN{s:Shared}{σ:St}(hg:Gl X x)(hm:X.mg x=some (.ref C'))(c':bF X.K fn C' bm' uE)(hdb:(x ==("__debug__":Str))=false)
  (I:Inv X gV σ H s) (ea:H a=some (.ext (XAt a C dx false))) (c:bF X.K fn C bm ini) (h:R (.ok (if(Value.ref C::bm).contains (.ref C')then .brk else .next)) s) :
  codeAny (model X.prog X.w) (X.A.mark (some (.ref a))) (.handlers (.ref a) [.ExceptHandler (some (.Name x p)) none [] pos] X.env) R s:=by
 refine codeAny_handlers_test (kj (X:=X.inX a) (I.inX a) hg hm ?_ hdb);obtain⟨nm,q,N,bs,sn,sub,ab,col,dd,k0,k1,k2,k3,k5,mN,hC,_⟩:=c.all s.heap I.kIn;obtain⟨nm',q',N',bs',sn',JP,ab',S0,dd',j0,j1,j2,j3,j5,mN',hC',_,_,_,T'⟩:=c'.all s.heap I.kIn;obtain⟨y,⟨o,vs,a0,e1,hc1,_⟩,_⟩:=(I.hok a _ ea).1;obtain⟨hh,g,dr,tk,os⟩:=s;exact O7 hC hC' e1 hc1 (T'.hasType (by decide)) h
theorem vi{s:Shared}{σ:St}{T:Addr}{Q:Unit->Shared->Prop}(I:Inv X gV σ H s)(ea:H a=some (.ext (XAt a C dx false)))(al:fO s.heap a (.ref C) dx T .none)(tb:Tb X gV H T)
  (h:∀ s',Inv X gV σ H s'->Q () s'):wpAny M A (setFlight (.ref a) none) Q E s :=
 fj al fun h' _ k=>h _ (I.turned (it:=T) (t':=s.toks) (fun b o hb e=>k.keep b o e (fun z=>nomatch z) (fun z=>hb (List.mem_singleton.mp z))) tb.n tb.l (.inr tb.z) tb.c tb.p)
theorem OH(hg:Gl X x)(hm:X.mg x=some (.ref C'))(c':bF X.K fn C' bm' uE)(hsu:∀ a,PSs (X.inX a) (b0::mG) ts)(hr:PH X rest tr)(hdb:(x ==("__debug__":Str))=false:=by decide) :
  PH X (.ExceptHandler (some (.Name x p)) none (b0::mG) pos::rest) (SI X.K fn C' ts tr):=by
 intro gV s σ H D a C T dx I ea al tb h;obtain⟨bm,ini,c,h1,h2⟩:=h;refine wpAny_handleBy_cons (BN hg hm c' hdb I ea c ?_) (by intro q;cases q)
 cases hz:(Value.ref C::bm).contains (.ref C')with
 | true =>
  show codeAny _ _ _ _ _;refine codeAny_handlers_suite (vi I ea al tb fun s1 I1=>?_)
  exact wpAny_mono (hsu a gV s1 σ H D (I1.inX a) (h1 hz)) (fun f s2 q=>q.zL I.ok) fun _ _ z=>False.elim z
 | false=>exact hr gV s σ H D a C T dx I ea al tb (h2 hz)
theorem RN(hN:X.N.Nodup)(hi:X.N[i]? = some n)(hk:X.env.scope.names.lookup n=some .local)(hg:Gl X x)(hm:X.mg x=some (.ref C'))(c':bF X.K fn C' bm' uE)(hsu:∀ a,PSs (X.inX a) (b0::mG) ts)(hr:PH X rest tr)(hdb:(x ==("__debug__":Str))=false:=by decide) :
  PH X (.ExceptHandler (some (.Name x p)) (some n) (b0::mG) pos::rest) (hAs X.K fn C' i ts tr):=by
 intro gV s σ H D a C T dx I ea al tb h;obtain⟨bm,ini,c,h1,h2⟩:=h;refine wpAny_handleBy_cons (BN hg hm c' hdb I ea c ?_) (by intro q;cases q)
 cases hz:(Value.ref C::bm).contains (.ref C')with
 | true =>
  show codeAny _ _ _ _ _;refine codeAny_handlers_suite_as (vi I ea al tb fun s1 I1=>?_)
  refine mH I1 hN hi (.inl hk) (show RelV (.ref a) (Value.ref a)from rfl) (fun s2 I2=>?_) (.inr hk)
  refine wpAny_mono (hsu a gV s2 _ H (D.go i) (I2.inX a) (h1 hz)) (fun f s3 q=>?_) fun _ _ z=>False.elim z
  have q:=q.zL I.ok;cases f with
  | next=>obtain⟨σ',H',J,q⟩:=q;exact ki J hN hi hk fun s4 J'=>⟨_,H',J',q⟩
  | brk=>obtain⟨σ',H',J,q⟩:=q;exact ki J hN hi hk fun s4 J'=>⟨_,H',J',q⟩
  | cont=>obtain⟨σ',H',J,q⟩:=q;exact ki J hN hi hk fun s4 J'=>⟨_,H',J',q⟩
  | ret u=>obtain⟨v,σ',H',J,r,q⟩:=q;exact ki J hN hi hk fun s4 J'=>⟨v,_,H',J',r,q⟩
 | false=>exact hr gV s σ H D a C T dx I ea al tb (h2 hz)
def QU(th:TH)(tb:(St->XK)->TS):TS:=fun D σ H=>tb (fun σ' cls oa H'=>∃ a C,cls = .ref C/\oa=some a/\th a C D σ' H') D σ H
theorem Ox{th:TH}{tb:(St->XK)->TS}{h0:ExceptHandler}(hst:X.stack=X.env::X.outer)(hf:X.env.frame=some X.env.locals)
  (hb:∀(Es:St->XK)(pn:List (Addr×Obj))(xe:Value->Shared->Prop),iW (CX1 X.prog X.w) (X.qi pn xe) Es->nK (X.qi pn xe) Es->PSs (X.qi pn xe) body (tb Es)) (hh:PH X (h0::hs) th):PS X (.Try body (h0::hs) [] [] pos) (QU th tb):=by
 intro gV s σ H D I h;refine wpAny_Try_except (wpAny_mono (hb _ (X.pn++gV) (fun e s₁=>wpAny (model X.prog X.w) X.A (noteFrame e X.env) (fun _ s₂=>wpAny (model X.prog X.w) X.A (setFlight e none) (fun _ s₃=>wpAny (model X.prog X.w) X.A (handleBy e X.env (h0::hs)) (SP X gV D) X.xe s₃) X.xe s₂) X.xe s₁) ?_ ?_ [] s σ H D (I.qi _) h) (fun f s1 q=>?_) fun e s1 q=>q)
 ·intro pins' σ1 H1 s1 e s2 I1 hx;obtain⟨a,C,dx,T,H',rfl,hos,hg,un,hok,ea,al,hT,hTs,a',C',ec,eo,hE⟩:=hx;cases ec;cases eo;have J:=I1.pI I.ok;have J2:=J.yL (ch:=[]) hos un hok hg (fun b z=>nomatch z)
  have fr2:=J2.stack;rw[hst]at fr2;refine sF (base:=X.base) (L:=X.env.locals) (by rw[<- hst];exact J2.ok.frames) fr2 hf al fun h3 T3 sz3 al3 k3=>?_
  refine fj al3 fun h4 al4 k4=>?_
  have kx:c6 ((X.env::X.outer).filterMap (·.frame)) [a,T] s2.heap h4:=k3.trans (k4.mono (fun _ z=>nomatch z) fun b z=>z) fun b ob q z=>by
   rw[List.mem_singleton.mp z]at q;exact absurd (Nat.lt_of_lt_of_le (Heap.lt_size q) sz3) (Nat.lt_irrefl _)
  have un4:Un (frs X.stack) [] H1 H' s1.heap h4:=Un.m9 un kx (fun b hb=>by
   rcases List.mem_cons.mp hb with z|z
   ·rw[z];exact .inl ⟨_,ea⟩
   ·rw[List.mem_singleton.mp z];exact .inr hTs) (fun b hb=>.inl (by rw[hst];exact hb)) (fun b=>.inl rfl)
  have ok4:HOk X.prog X.w H' h4:=by
   refine HOk.m9 (a:=a) J2.hok kx (fun b hb=>J2.j9 b (by rw[hst];exact hb)) (fun b hb=>?_) ea (fun b hb=>rfl) (fun o q=>by rw[ea]at q;cases q;exact al4.at.ok) ⟨_,ea⟩
   rcases List.mem_cons.mp hb with z|z
   ·exact .inl z
   ·rw[List.mem_singleton.mp z];exact .inr hT
  have J4:Inv X gV σ1 H' { s2 with heap:=h4 }:=J.yL (s':={ s2 with heap:=h4 }) (ch:=[]) hos un4 ok4 hg (fun b z=>nomatch z)
  exact hh gV _ σ1 H' D a C T3 dx J4 ea al4 (Tb.of J2 sz3) hE
 ·intro pins' σ1 H1 s1 a C dx I1 ea hx;obtain⟨a',C',ec,eo,hE⟩:=hx;cases ec;cases eo;have J:=I1.pI I.ok;obtain⟨y,hxo,hy⟩:XAt a C dx true s1.heap:=(J.hok a _ ea).1;rw[hy rfl]at hxo;have fr2:=J.stack;rw[hst]at fr2;refine pO (base:=X.base) (L:=X.env.locals) (by rw[<- hst];exact J.ok.frames) fr2 hf hxo fun h3 T3 sz3 al3 k3=>?_
  refine fj al3 fun h4 al4 k4=>?_
  have kx:c6 ((X.env::X.outer).filterMap (·.frame)) [a] s1.heap h4:=k3.trans (k4.mono (fun _ z=>nomatch z) fun b z=>z) fun b ob q z=>by
   rw[List.mem_singleton.mp z]at q;exact absurd (Nat.lt_of_lt_of_le (Heap.lt_size q) sz3) (Nat.lt_irrefl _)
  have un4:Un (frs X.stack) [] H1 (upd H1 a (.ext (XAt a C dx false))) s1.heap h4:=Un.m9 Un.refl kx (fun b hb=>by
   rw[List.mem_singleton.mp hb];exact .inl ⟨_,ea⟩) (fun b hb=>.inl (by rw[hst];exact hb)) (EK ea)
  have ok4:HOk X.prog X.w (upd H1 a (.ext (XAt a C dx false))) h4:=HOk.m9 (a:=a) J.hok kx (fun b hb=>J.j9 b (by rw[hst];exact hb)) (fun b hb=>.inl (List.mem_singleton.mp hb)) ea (fun b hb=>ai hb) (fun o q=>by rw[aj]at q;cases q;exact al4.at.ok) ⟨_,aj⟩
  have J4:Inv X gV σ1 (upd H1 a (.ext (XAt a C dx false))) { s1 with heap:=h4 }:=J.yL (s':={ s1 with heap:=h4 }) (ch:=[]) rfl un4 ok4 J.bare (fun b z=>nomatch z)
  have tb:=Tb.of J sz3;exact hh gV _ σ1 _ D a C T3 dx J4 aj al4 ⟨by rw[ai al3.1];exact tb.n,tb.l,tb.z,tb.c,tb.p⟩ hE
 ·have q:=q.pI I.ok;cases f with
  | next=>exact wpAny_execs_nil q
  | brk=>exact q
  | cont=>exact q
  | ret u=>exact q
end
def ou(sp:Sp)(Es:St->XK)(t:TA):TE:=fun σ H Q=>t σ H fun vs H1=>sp vs H1 Q (Es σ)
variable{st:Stmt}
section
variable{X:Cx}{CX:CXT}{k:Nat}{f:Addr}{fd:FuncData}{ps:List Str}{sp:Sp}{Es:St->XK}{p pos:Pos}{es:List Expr}{t:TA}
theorem yc(F:aU X.prog X.w X.K X.mg X.base CX k f fd ps sp)(hr:cb k X.A)(hg:Gl X x)(hm:X.mg x=some (.ref f))(hk:W.keepIn X.K (.ref f)=true)(hb:Binds X.K fd ps [])(hx:iW CX X Es)
  (ha:PA X (e::es) t) (hdb:(x ==("__debug__":Str))=false:=by decide) (he:starEach (e::es) X.env =(false,eval e X.env)::starEach es X.env:=by rfl) (hpl:(backTo pos (starEach es X.env)).any (·.1)=false:=by rfl) :
  PE X (.Call (.Name x p) (e::es) [] pos) (ou sp Es t):=by
 intro gV s σ H Q I h;refine wpAny_Call_Name_kw (kj I hg hm ?_ hdb);refine W.callWith_K (h₀:=X.base) I.ok.mod.kin hk (thn (ha pos gV s σ H _ I h) fun us s1 ⟨vs,H1,I1,r,q⟩=>⟨I1.kIn,?_⟩) he hpl
 have hl:(us ++ []).length=ps.length:=by rw[List.append_nil,<- r.length];exact F.len _ _ _ _ q
 have hbd:=hb s1 us I1.kIn hl;rw[List.append_nil]at hbd;refine wpAny_call (codeAny_mono (F.run X.A X.stack s1 H1 ⟨us,[]⟩ us vs Q (Es σ) hr I1.LW hbd r q) fun r s' hq=>?_)
 cases r with
 | error e=>exact hx gV σ H1 s1 e s' I1 hq
 | ok fl =>
  cases fl with
  | ret u=>exact I1.after hq
  | next=>exact False.elim hq
  | brk=>exact False.elim hq
  | cont=>exact False.elim hq
theorem Fun.okX{w:World}{K:W.Frag}{f:Addr}{k:Nat}(F:Fun K x qual st f fd)(S:aH N ps (au st))(len:∀ vs H Q E,sp vs H Q E->vs.length=ps.length)
  (fE:∀(cdv:Value)(A:Around)(outer:List Env)(s:Shared)(H:Hp)(vs:List V)(Q:VK)(E:XK),cb k (A.deeper (envOfC qual (au st) s.heap.objs.size f cdv))->sp vs H Q E ->
   ∃ t,PSs (ma (CX1 P w) P w K mg base N qual (au st) f cdv A outer s H E) (bA st) t/\t { nx:=fun _ H'=>Q .non H',rt:=Q } (start N vs) H):aU P w K mg base (CX1 P w) (k+1) f fd ps sp:=by
 obtain⟨oc,od,kV,doc,pm,an,cdv,ct,osl,rfl,lk,hcd⟩:=F.ex;exact Nk lk hcd S len fun A outer s H vs Q E hr hsp=>fE cdv A outer s H vs Q E hr hsp
end
theorem len0{P:List Value->Prop}(h:P [])(us:List Value)(e:us.length=0):P us:=by rw[List.length_eq_zero_iff.mp e];exact h
theorem R8{P:List Value->Prop}(h:∀ a,P [a])(us:List Value)(e:us.length=1):P us:=by
 cases us with
 | nil=>cases e
 | cons a r=>exact len0 (P:=fun r=>P (a::r)) (h a) r (Nat.succ.inj e)
theorem R7{P:List Value->Prop}(h:∀ a b,P [a,b])(us:List Value)(e:us.length=2):P us:=by
 cases us with
 | nil=>cases e
 | cons a r=>exact R8 (P:=fun r=>P (a::r)) (h a) r (Nat.succ.inj e)
theorem R6{P:List Value->Prop}(h:∀ a b c,P [a,b,c])(us:List Value)(e:us.length=3):P us:=by
 cases us with
 | nil=>cases e
 | cons a r=>exact R7 (P:=fun r=>P (a::r)) (h a) r (Nat.succ.inj e)
theorem R5{P:List Value->Prop}(h:∀ a b c d,P [a,b,c,d])(us:List Value)(e:us.length=4):P us:=by
 cases us with
 | nil=>cases e
 | cons a r=>exact R6 (P:=fun r=>P (a::r)) (h a) r (Nat.succ.inj e)
theorem Vg{P:List Value->Prop}(h:∀ a b c d e,P [a,b,c,d,e])(us:List Value)(e:us.length=5):P us:=by
 cases us with
 | nil=>cases e
 | cons a r=>exact R5 (P:=fun r=>P (a::r)) (h a) r (Nat.succ.inj e)
inductive T where
 | n|b (x:Bool)|i (x:Int)|s (x:Str)|t (xs:List T)|l (xs:List T)|d (ks:List (Key×T))|cq|z (ns:List Int)|ty (x:String)|k (ws:List Str)|q|fd (o:Obj) (vs:List (Key×V)) (ks:List (Key×T))|xc (C:Addr) (ns:List Str) (ts:List T)|rm (u:Int)|ob (C:Addr) (ns:List Str) (ts:List T)|dp (a:Addr) (ks:List (Key×T))|lp (a:Addr) (xs:List T)
abbrev Dl:=List (Addr×Addr)
def FzL(K:W.Frag)(H:Hp)(a:Addr)(xs:List V):Prop:=(∃ o,H a=some (.frz o (.lst xs))) \/
  ∃(o:Obj)(its:Array Value)(n:Nat),K.lookup a=some o/\o.cls = .type "list" /\ o.dict=none/\o.data = .seq its n/\its.size<=sizeLine/\Vals xs its.toList
variable{xs:List V}
theorem FzL.sq{K:W.Frag}(h:FzL K H a xs):SqL K H a xs:=by
 rcases h with h|h
 ·exact .inl (.inr h)
 ·exact .inr h
def uP(a C dx:Addr)(h:Heap):Prop:=h.get? a=some (W.instObj C dx)
def ObH(H:Hp)(a C:Addr)(fs:List (Str×V)):Prop:=∃ dx,dx≠a/\H a=some (.ext (uP a C dx))/\H dx=some (.ext (XD dx fs))
mutual
inductive aE(K:W.Frag)(dl:Dl)(H:Hp):V->T->List Addr->Prop where
 | n:aE K dl H .non .n []
 | b(x:Bool):aE K dl H (.bl x) (.b x) []
 | i(x:Int):aE K dl H (.int x) (.i x) []
 | s(x:Str):aE K dl H (.str x) (.s x) []
 | ty(x:String):aE K dl H (.ty x) (.ty x) []
 | t{a:Addr}{vs:List V}{ts:List T}{F:List Addr}:H a=some (.tup vs)->aw K dl H vs ts F->aE K dl H (.ref a) (.t ts) F
 | l{a:Addr}{vs:List V}{ts:List T}{F:List Addr}:H a=some (.lst vs)->aw K dl H vs ts F->aE K dl H (.ref a) (.l ts) (a::F)
 | d{a:Addr}{vs:List (Key×V)}{ts:List (Key×T)}{F:List Addr}:H a=some (.dK vs)->aR K dl H vs ts F->aE K dl H (.ref a) (.d ts) (a::F)
 | x{a l:Addr}:(a,l)∈dl->aE K dl H (.ref a) .cq []
 | z{a:Addr}{ns:List Int}:FzL K H a (ns.map V.int)->aE K dl H (.ref a) (.z ns) []
 | q{a:Addr}{xs:List V}:H a=some (.lst xs)->aE K dl H (.ref a) .q []
 | fd{a:Addr}{o:Obj}{vs:List (Key×V)}{ts:List (Key×T)}:H a=some (.frz o (.dK vs))->aR K dl H vs ts []->aE K dl H (.ref a) (.fd o vs ts) []
 | k{a:Addr}{ws:List Str}:(∀ H':Hp,SqT K H' a (ws.map V.str))->aE K dl H (.ref a) (.k ws) []
 | e{a C:Addr}{b:Bool}{ns:List Str}{vs:List V}{ts:List T}:ExH H a C b (ns.zip vs)->aw K dl H vs ts []->aE K dl H (.ref a) (.xc C ns ts) []
 | rm{a:Addr}{x u:Int}:H a=some (.room x)->x<=u->aE K dl H (.ref a) (.rm u) []
 | ob{a C:Addr}{ns:List Str}{vs:List V}{ts:List T}:ObH H a C (ns.zip vs)->aw K dl H vs ts []->aE K dl H (.ref a) (.ob C ns ts) []
 | dp{a:Addr}{vs:List (Key×V)}{ts:List (Key×T)}{F:List Addr}:H a=some (.dK vs)->aR K dl H vs ts F->aE K dl H (.ref a) (.dp a ts) (a::F)
 | lp{a:Addr}{vs:List V}{ts:List T}{F:List Addr}:H a=some (.lst vs)->aw K dl H vs ts F->aE K dl H (.ref a) (.lp a ts) (a::F)
inductive aw(K:W.Frag)(dl:Dl)(H:Hp):List V->List T->List Addr->Prop where
 | nil:aw K dl H [] [] []
 | cons{v:V}{x:T}{vs:List V}{ts:List T}{F G:List Addr}:aE K dl H v x F->aw K dl H vs ts G->aw K dl H (v::vs) (x::ts) (F++G)
inductive aR(K:W.Frag)(dl:Dl)(H:Hp):List (Key×V)->List (Key×T)->List Addr->Prop where
 | nil:aR K dl H [] [] []
 | cons{k:Key}{v:V}{x:T}{vs:List (Key×V)}{ts:List (Key×T)}{F G:List Addr}:aE K dl H v x F->aR K dl H vs ts G->aR K dl H ((k,v)::vs) ((k,x)::ts) (F++G)
end
structure TF(H H':Hp):Prop where
 t:∀ a vs,H a=some (.tup vs)->H' a=some (.tup vs)
 f:∀ a o u,H a=some (.frz o u)->H' a=some (.frz o u)
 x:∀ a φ,H a=some (.ext φ)->H' a=some (.ext φ)
 q:∀ a xs,H a=some (.lst xs)->∃ ys,H' a=some (.lst ys)
 r:∀ a x,H a=some (.room x)->∃ y,y<=x/\H' a=some (.room y)
variable{H':Hp}
theorem ObH.tf{fs:List (Str×V)}(h:ObH H a C fs)(k:TF H H'):ObH H' a C fs:=by
 obtain⟨d,h1,h2,h3⟩:=h;exact⟨d,h1,k.x _ _ h2,k.x _ _ h3⟩
theorem ExH.tf{b:Bool}{fs:List (Str×V)}(h:ExH H a C b fs)(k:TF H H'):ExH H' a C b fs:=by
 rcases h with⟨h1,h2⟩ |⟨d,h1,h2,h3⟩
 ·exact .inl ⟨h1,k.x _ _ h2⟩
 ·exact .inr ⟨d,h1,k.x _ _ h2,k.x _ _ h3⟩
theorem FzL.tf{K:W.Frag}{vs:List V}(h:FzL K H a vs)(k:TF H H'):FzL K H' a vs:=by
 rcases h with⟨o,h⟩|h
 ·exact .inl ⟨o,k.f _ _ _ h⟩
 ·exact .inr h
theorem cf{α:Type}{p:α->Prop}:∀ b∈([]:List α),p b:=fun _ h=>absurd h List.not_mem_nil
variable{dl:Dl}{dl':Dl}{F:List Addr}
theorem aE.cN{K:W.Frag}(k:TF H H')(hd:∀ p∈dl,p∈dl'){v:V}{t:T}(h:aE K dl H v t F):(∀ b∈F,∀ o,H b=some o->H' b=some o)->aE K dl' H' v t F :=
 aE.rec (motive_1:=fun v t F _=>(∀ b∈F,∀ o,H b=some o->H' b=some o)->aE K dl' H' v t F) (motive_2:=fun v t F _=>(∀ b∈F,∀ o,H b=some o->H' b=some o)->aw K dl' H' v t F) (motive_3:=fun v t F _=>(∀ b∈F,∀ o,H b=some o->H' b=some o)->aR K dl' H' v t F)
  (fun _=>.n) (fun x _=>.b x) (fun x _=>.i x) (fun x _=>.s x) (fun x _=>.ty x) (fun h _ ih q=>.t (k.t _ _ h) (ih q))
  (fun h _ ih q=>.l (q _ List.mem_cons_self _ h) (ih fun b hb=>q b (List.mem_cons_of_mem _ hb))) (fun h _ ih q=>.d (q _ List.mem_cons_self _ h) (ih fun b hb=>q b (List.mem_cons_of_mem _ hb)))
  (fun h _=>.x (hd _ h)) (fun h _=>.z (h.tf k)) (fun h _=>Exists.elim (k.q _ _ h) fun _ e=>.q e) (fun h _ ih _=>.fd (k.f _ _ _ h) (ih cf)) (fun h _=>.k h) (fun h _ ih _=>.e (h.tf k) (ih cf))
  (fun h hx _=>Exists.elim (k.r _ _ h) fun _ e=>.rm e.2 (Int.le_trans e.1 hx)) (fun h _ ih _=>.ob (h.tf k) (ih cf)) (fun h _ ih q=>.dp (q _ List.mem_cons_self _ h) (ih fun b hb=>q b (List.mem_cons_of_mem _ hb))) (fun h _ ih q=>.lp (q _ List.mem_cons_self _ h) (ih fun b hb=>q b (List.mem_cons_of_mem _ hb)))
  (fun _=>.nil) (fun _ _ i1 i2 q=>.cons (i1 fun b hb=>q b (List.mem_append_left _ hb)) (i2 fun b hb=>q b (List.mem_append_right _ hb)))
  (fun _=>.nil) (fun _ _ i1 i2 q=>.cons (i1 fun b hb=>q b (List.mem_append_left _ hb)) (i2 fun b hb=>q b (List.mem_append_right _ hb))) h
theorem aw.ind{K:W.Frag}{M:List V->List T->List Addr->Prop}(nil:M [] [] [])(cons:∀ v x vs ts F G,aE K dl H v x F->aw K dl H vs ts G->M vs ts G->M (v::vs) (x::ts) (F++G)){vs:List V}{ts:List T}(h:aw K dl H vs ts F):M vs ts F :=
 aw.rec (motive_1:=fun _ _ _ _=>True) (motive_2:=fun v t F _=>M v t F) (motive_3:=fun _ _ _ _=>True) trivial (fun _=>trivial) (fun _=>trivial) (fun _=>trivial) (fun _=>trivial) (fun _ _ _=>trivial) (fun _ _ _=>trivial) (fun _ _ _=>trivial)
  (fun _=>trivial) (fun _=>trivial) (fun _=>trivial) (fun _ _ _=>trivial) (fun _=>trivial) (fun _ _ _=>trivial) (fun _ _=>trivial) (fun _ _ _=>trivial) (fun _ _ _=>trivial) (fun _ _ _=>trivial) nil (fun h r _ ih=>cons _ _ _ _ _ _ h r ih) trivial (fun _ _ _ _=>trivial) h
theorem aR.ind{K:W.Frag}{M:List (Key×V)->List (Key×T)->List Addr->Prop}(nil:M [] [] [])(cons:∀ k v x vs ts F G,aE K dl H v x F->aR K dl H vs ts G->M vs ts G->M ((k,v)::vs) ((k,x)::ts) (F++G)){vs:List (Key×V)}{ts:List (Key×T)}(h:aR K dl H vs ts F):M vs ts F :=
 aR.rec (motive_1:=fun _ _ _ _=>True) (motive_2:=fun _ _ _ _=>True) (motive_3:=fun v t F _=>M v t F) trivial (fun _=>trivial) (fun _=>trivial) (fun _=>trivial) (fun _=>trivial) (fun _ _ _=>trivial) (fun _ _ _=>trivial) (fun _ _ _=>trivial)
  (fun _=>trivial) (fun _=>trivial) (fun _=>trivial) (fun _ _ _=>trivial) (fun _=>trivial) (fun _ _ _=>trivial) (fun _ _=>trivial) (fun _ _ _=>trivial) (fun _ _ _=>trivial) (fun _ _ _=>trivial) trivial (fun _ _ _ _=>trivial) nil (fun h r _ ih=>cons _ _ _ _ _ _ _ h r ih) h
theorem aw.cN{K:W.Frag}{dl dl':Dl}{H H':Hp}(k:TF H H')(hd:∀ p∈dl,p∈dl'){vs:List V}{ts:List T}{F:List Addr}(h:aw K dl H vs ts F):(∀ b∈F,∀ o,H b=some o->H' b=some o)->aw K dl' H' vs ts F :=
 h.ind (M:=fun vs ts F=>(∀ b∈F,∀ o,H b=some o->H' b=some o)->aw K dl' H' vs ts F) (fun _=>.nil) (fun _ _ _ _ _ _ h _ ih q=>.cons (h.cN k hd fun b hb=>q b (List.mem_append_left _ hb)) (ih fun b hb=>q b (List.mem_append_right _ hb)))
theorem aR.cN{K:W.Frag}{dl dl':Dl}{H H':Hp}(k:TF H H')(hd:∀ p∈dl,p∈dl'){vs:List (Key×V)}{ts:List (Key×T)}{F:List Addr}(h:aR K dl H vs ts F):(∀ b∈F,∀ o,H b=some o->H' b=some o)->aR K dl' H' vs ts F :=
 h.ind (M:=fun vs ts F=>(∀ b∈F,∀ o,H b=some o->H' b=some o)->aR K dl' H' vs ts F) (fun _=>.nil) (fun _ _ _ _ _ _ _ h _ ih q=>.cons (h.cN k hd fun b hb=>q b (List.mem_append_left _ hb)) (ih fun b hb=>q b (List.mem_append_right _ hb)))
variable{G:List Addr}
theorem oq(h:∀ b∈F,(∃ xs,H b=some (.lst xs))\/∃ ks,H b=some (.dK ks))(r:∀ b∈G,(∃ xs,H b=some (.lst xs))\/∃ ks,H b=some (.dK ks)):∀ b∈F++G,(∃ xs,H b=some (.lst xs))\/∃ ks,H b=some (.dK ks):=fun b hb=>(List.mem_append.mp hb).elim (h b) (r b)
theorem aE.there{K:W.Frag}{v:V}{t:T}(h:aE K dl H v t F):∀ b∈F,(∃ xs,H b=some (.lst xs))\/∃ ks,H b=some (.dK ks) :=
 aE.rec (motive_1:=fun _ _ F _=>∀ b∈F,(∃ xs,H b=some (.lst xs))\/∃ ks,H b=some (.dK ks)) (motive_2:=fun _ _ F _=>∀ b∈F,(∃ xs,H b=some (.lst xs))\/∃ ks,H b=some (.dK ks)) (motive_3:=fun _ _ F _=>∀ b∈F,(∃ xs,H b=some (.lst xs))\/∃ ks,H b=some (.dK ks))
  cf (fun _=>cf) (fun _=>cf) (fun _=>cf) (fun _=>cf) (fun _ _ ih=>ih)
  (fun h _ ih b hb=>(List.mem_cons.mp hb).elim (fun e=>by rw[e];exact .inl ⟨_,h⟩) (ih b)) (fun h _ ih b hb=>(List.mem_cons.mp hb).elim (fun e=>by rw[e];exact .inr ⟨_,h⟩) (ih b))
  (fun _=>cf) (fun _=>cf) (fun _=>cf) (fun _ _ _=>cf) (fun _=>cf) (fun _ _ _=>cf)
  (fun _ _=>cf) (fun _ _ _=>cf) (fun h _ ih b hb=>(List.mem_cons.mp hb).elim (fun e=>by rw[e];exact .inr ⟨_,h⟩) (ih b)) (fun h _ ih b hb=>(List.mem_cons.mp hb).elim (fun e=>by rw[e];exact .inl ⟨_,h⟩) (ih b))
  cf (fun _ _ i1 i2=>oq i1 i2) cf (fun _ _ i1 i2=>oq i1 i2) h
theorem aw.there{K:W.Frag}{dl:Dl}{H:Hp}{vs:List V}{ts:List T}{F:List Addr}(h:aw K dl H vs ts F):∀ b∈F,(∃ xs,H b=some (.lst xs))\/∃ ks,H b=some (.dK ks):=h.ind (M:=fun _ _ F=>∀ b∈F,(∃ xs,H b=some (.lst xs))\/∃ ks,H b=some (.dK ks)) cf (fun _ _ _ _ _ _ h _ ih=>oq h.there ih)
def Nd(dl:Dl)(b:Addr):Prop:=∀ p∈dl,b≠p.1/\b≠p.2
def Dls(dl:Dl)(H:Hp):Prop:=∀ p∈dl,nS H p.1 p.2
variable{o:HO}
theorem Dls.nd(D:Dls dl H){b:Addr}(h:H b=some o)(h1:∀ xs,o ≠ .lst xs)(h2:∀ ks,o ≠ .dK ks):Nd dl b:=fun p hp=>by
 obtain⟨s,n,ls,Q⟩:=D p hp;exact⟨i6 h Q.hd (h2 _),i6 h Q.hl (h1 _)⟩
theorem Dls.nd0(D:Dls dl H){b:Addr}(h:H b=none):Nd dl b:=fun p hp=>by
 obtain⟨s,n,ls,Q⟩:=D p hp;exact⟨(aI Q.hd h).symm,(aI Q.hl h).symm⟩
def NR(o:HO):Prop:=∀ x,o ≠ .room x
structure Evo(dl:Dl)(H H':Hp):Prop where
 k:∀ b o,H b=some o->Nd dl b->NR o->H' b=some o
 d:Dls dl H'
 r:∀ a x,H a=some (.room x)->∃ y,y<=x/\H' a=some (.room y)
theorem NR.of{b:Addr}(h:(∃ xs,H b=some (.lst xs))\/∃ ks,H b=some (.dK ks))(e:H b=some o):NR o:=fun x z=>by
 rcases h with⟨_,h⟩ |⟨_,h⟩
 ·rw[e,z]at h;cases h
 ·rw[e,z]at h;cases h
theorem Evo.refl(D:Dls dl H):Evo dl H H:=⟨fun _ _ h _ _=>h,D,fun _ x h=>⟨x,Int.le_refl _,h⟩⟩
variable{H1:Hp}
theorem Evo.trans{H2:Hp}(a:Evo dl H H1)(b:Evo dl H1 H2):Evo dl H H2:=⟨fun c o h n r=>b.k c o (a.k c o h n r) n r,b.d,fun c x h=>let⟨y,hy,e⟩:=a.r c x h;let⟨z,hz,e'⟩:=b.r c y e;⟨z,Int.le_trans hz hy,e'⟩⟩
theorem Evo.tf(e:Evo dl H H')(D:Dls dl H):TF H H' :=
 ⟨fun a vs h=>e.k a _ h (D.nd h (fun _ z=>nomatch z) fun _ z=>nomatch z) (fun _ z=>nomatch z),fun a o u h=>e.k a _ h (D.nd h (fun _ z=>nomatch z) fun _ z=>nomatch z) (fun _ z=>nomatch z),fun a φ h=>e.k a _ h (D.nd h (fun _ z=>nomatch z) fun _ z=>nomatch z) (fun _ z=>nomatch z),fun a xs h=>(by
  by_cases hn:Nd dl a
  ·exact⟨xs,e.k a _ h hn (fun _ z=>nomatch z)⟩
  ·unfold Nd at hn;obtain⟨p,hp,z⟩:∃ p∈dl,¬(a≠p.1/\a≠p.2):=Classical.byContradiction fun c=>hn fun p hp=>Classical.byContradiction fun z=>c ⟨p,hp,z⟩
   obtain⟨s,n,ls,Q⟩:=D p hp;obtain⟨s',n',ls',Q'⟩:=e.d p hp;have h1:a≠p.1:=i6 h Q.hd (fun z=>nomatch z)
   have h2:a=p.2:=Classical.byContradiction fun z'=>z ⟨h1,z'⟩
   exact⟨_,by rw[h2];exact Q'.hl⟩),e.r⟩
theorem Evo.new{p:Addr}(e:Evo dl H H1)(hp:H1 p=none):Evo dl H (upd H1 p o) :=
 ⟨fun c u h n r=>by rw[ai (aI (e.k c u h n r) hp)];exact e.k c u h n r,fun q hq=>(e.d q hq).new hp,fun c x h=>let⟨y,hy,e'⟩:=e.r c x h;⟨y,hy,by rw[ai (aI e' hp)];exact e'⟩⟩
theorem Evo.free(e:Evo dl H H'){p:Addr}(hp:H' p=none):H p=none:=by
 cases q:H p with
 | none=>rfl
 | some o =>
  by_cases hn:NR o
  ·rw[e.k p o q (e.d.nd0 hp) hn]at hp;cases hp
  ·obtain⟨x,hx⟩:∃ x,o = .room x:=Classical.byContradiction fun c=>hn fun x z=>c ⟨x,z⟩
   subst hx;obtain⟨y,_,e'⟩:=e.r p x q;rw[e']at hp;cases hp
structure Rp(K:W.Frag)(dl:Dl)(H:Hp)(v:V)(t:T)(F:List Addr):Prop where
 r:aE K dl H v t F
 n:∀ b∈F,Nd dl b
structure Rps(K:W.Frag)(dl:Dl)(H:Hp)(vs:List V)(ts:List T)(F:List Addr):Prop where
 r:aw K dl H vs ts F
 n:∀ b∈F,Nd dl b
theorem Rp.evo{K:W.Frag}{v:V}{t:T}(h:Rp K dl H v t F)(D:Dls dl H)(e:Evo dl H H'):Rp K dl H' v t F :=
 ⟨h.r.cN (e.tf D) (fun _ q=>q) fun b hb o q=>e.k b o q (h.n b hb) (.of (h.r.there b hb) q),h.n⟩
theorem Rps.evo{K:W.Frag}{v:List V}{t:List T}(h:Rps K dl H v t F)(D:Dls dl H)(e:Evo dl H H'):Rps K dl H' v t F :=
 ⟨h.r.cN (e.tf D) (fun _ q=>q) fun b hb o q=>e.k b o q (h.n b hb) (.of (h.r.there b hb) q),h.n⟩
inductive Sl where
 | no|o (t:T)|r (t:T)
abbrev Sq:=List Sl
def Sl.get:Sl->Option T
 | .no=>none
 | .o t=>some t
 | .r t=>some t
structure RdR(K:W.Frag)(dl:Dl)(H:Hp)(σ:St)(q:Sq):Prop where
 d:Dls dl H
 g:∀(i:Nat)(x:Sl)(t:T),q[i]? = some x->x.get=some t->∃ v F,σ[i]? = some (some v)/\Rp K dl H v t F
theorem RdR.evo{K:W.Frag}{dl:Dl}{H H':Hp}{σ:St}{q:Sq}(h:RdR K dl H σ q)(e:Evo dl H H'):RdR K dl H' σ q :=
 ⟨e.d,fun i x t h1 h2=>let⟨v,F,h3,h4⟩:=h.g i x t h1 h2;⟨v,F,h3,h4.evo h.d e⟩⟩
abbrev QE:=Sq ->(T->Prop)->Prop
abbrev QT:=Sq ->(Bool->Prop)->Prop
abbrev QA:=Sq ->(List T->Prop)->Prop
def iV(K:W.Frag)(te:TE)(tq:QE):Prop:=∀(dl:Dl)(H:Hp)(σ:St)(q:Sq)(Q:T->Prop)(R:V->Hp->Prop),RdR K dl H σ q->tq q Q ->
 (∀ v t F H',Evo dl H H'->Rp K dl H' v t F->Q t->R v H')->te σ H R
def kE(K:W.Frag)(te:TE)(tq:QE):Prop:=∀(dl:Dl)(H:Hp)(σ:St)(q:Sq)(Q:T->Prop)(R:V->Hp->Prop),RdR K dl H σ q->tq q Q ->
 (∀ v t F H',Evo dl H H'->Rp K dl H' v t F ->(∀ b∈F,H b=none)->F.Nodup->Q t->R v H')->te σ H R
def mh(K:W.Frag)(te:TT)(tq:QT):Prop:=∀(dl:Dl)(H:Hp)(σ:St)(q:Sq)(Q:Bool->Prop)(R:Bool->Hp->Prop),RdR K dl H σ q->tq q Q ->
 (∀ b H',Evo dl H H'->Q b->R b H')->te σ H R
def Mu(K:W.Frag)(n:Nat)(te:TA)(tq:QA):Prop:=∀(dl:Dl)(H:Hp)(σ:St)(q:Sq)(Q:List T->Prop)(R:List V->Hp->Prop),RdR K dl H σ q->tq q Q ->
 (∀ vs ts F H',Evo dl H H'->Rps K dl H' vs ts F->vs.length=n->Q ts->R vs H')->te σ H R
def Tn(K:W.Frag)(n:Nat)(te:TA)(tq:QA):Prop:=∀(dl:Dl)(H:Hp)(σ:St)(q:Sq)(Q:List T->Prop)(R:List V->Hp->Prop),RdR K dl H σ q->tq q Q ->
 (∀ vs ts F H',Evo dl H H'->Rps K dl H' vs ts F->vs.length=n ->(∀ b∈F,H b=none)->F.Nodup->Q ts->R vs H')->te σ H R
structure QPE(X:Cx)(K:W.Frag)(e:Expr)(te:TE)(tq:QE):Prop where
 h:PE X e te
 s:iV K te tq
structure QPF(X:Cx)(K:W.Frag)(e:Expr)(te:TE)(tq:QE):Prop where
 h:PE X e te
 s:kE K te tq
structure QPT(X:Cx)(K:W.Frag)(e:Expr)(te:TT)(tq:QT):Prop where
 h:PT X e te
 s:mh K te tq
structure QPW(X:Cx)(K:W.Frag)(e:Expr)(te:TT)(tq:QT):Prop where
 h:PW X e te
 s:mh K te tq
structure QPA(X:Cx)(K:W.Frag)(es:List Expr)(te:TA)(tq:QA):Prop where
 h:PA X es te
 s:Mu K es.length te tq
structure xt(X:Cx)(K:W.Frag)(es:List Expr)(te:TA)(tq:QA):Prop where
 h:PA X es te
 s:Tn K es.length te tq
section
variable{X:Cx}{K:W.Frag}{a b c:Expr}{es rest:List Expr}{ta tb tc:TE}{qa qb qc qe:QE}{tA tB:TT}{qA qB:QT}{tl:TA}{ql:QA}{pos:Pos}
theorem QPF.w(h:QPF X K e te qe):QPE X K e te qe:=⟨h.h,fun dl H σ q Q R rd hq k=>h.s dl H σ q Q R rd hq fun v t F H' e r _ _ z=>k v t F H' e r z⟩
mutual
def T.im:T->Bool
 | .t xs=>T.ims xs
 | .l _=>false
 | .d _=>false
 | .dp _ _=>false
 | .lp _ _=>false
 | _=>true
def T.ims:List T->Bool
 | []=>true
 | x::r=>x.im&&T.ims r
end
theorem Aw{x y:Bool}(h:x=true->F = [])(r:y=true->G = [])(q:(x&&y)=true):F++G = []:=by rw[h (Bool.and_eq_true _ _▸q).1,r (Bool.and_eq_true _ _▸q).2];rfl
theorem aE.im{dl:Dl}{H:Hp}{v:V}{t:T}{F:List Addr}(h:aE K dl H v t F):t.im=true->F = [] :=
 aE.rec (motive_1:=fun _ t F _=>t.im=true->F = []) (motive_2:=fun _ t F _=>T.ims t=true->F = []) (motive_3:=fun _ _ _ _=>True)
  (fun _=>rfl) (fun _ _=>rfl) (fun _ _=>rfl) (fun _ _=>rfl) (fun _ _=>rfl) (fun _ _ ih=>ih) (fun _ _ _ h=>absurd h Bool.false_ne_true) (fun _ _ _ h=>absurd h Bool.false_ne_true)
  (fun _ _=>rfl) (fun _ _=>rfl) (fun _ _=>rfl) (fun _ _ _ _=>rfl) (fun _ _=>rfl) (fun _ _ _ _=>rfl) (fun _ _ _=>rfl) (fun _ _ _ _=>rfl) (fun _ _ _ h=>absurd h Bool.false_ne_true) (fun _ _ _ h=>absurd h Bool.false_ne_true) (fun _=>rfl) (fun _ _ i1 i2=>Aw i1 i2) trivial (fun _ _ _ _=>trivial) h
theorem aw.im{dl:Dl}{H:Hp}{v:List V}{t:List T}{F:List Addr}(h:aw K dl H v t F):T.ims t=true->F = []:=h.ind (M:=fun _ t F=>T.ims t=true->F = []) (fun _=>rfl) (fun _ _ _ _ _ _ h _ ih=>Aw h.im ih)
def qIm(qe:QE):QE:=fun q Q=>qe q fun t=>t.im=true/\Q t
theorem QPE.f(h:QPE X K e te qe):QPF X K e te (qIm qe):=⟨h.h,fun dl H σ q Q R rd hq k=>h.s dl H σ q _ R rd hq fun v t F H' e r ⟨z1,z2⟩=>by
 have f:=r.r.im z1;subst f;exact k v t [] H' e r (fun _ z=>nomatch z) List.nodup_nil z2⟩
def aD(i:Nat):QE:=fun q Q=>match q[i]? with
 | some (.o t)=>Q t
 | some (.r t)=>Q t
 | _=>False
theorem JV(i:Nat):iV K (b7 i) (aD i):=by
 intro dl H σ q Q R rd hq k;unfold aD at hq
 split at hq
 ·rename_i t e;obtain⟨v,F,h1,h2⟩:=rd.g i _ t e rfl;exact⟨v,h1,k v t F H (.refl rd.d) h2 hq⟩
 ·rename_i t e;obtain⟨v,F,h1,h2⟩:=rd.g i _ t e rfl;exact⟨v,h1,k v t F H (.refl rd.d) h2 hq⟩
 ·exact hq.elim
theorem qv(i:Nat){pos:Pos}(hN:X.N[i]? = some x:=by rfl)(hv:Vis X.env.scope x:=by first|exact Or.inl rfl|exact Or.inr (Or.inl rfl)|exact Or.inr (Or.inr rfl))(hd:(x ==("__debug__":Str))=false:=by decide)
  (hcd:(x ==("__classdict__":Str))=false:=by decide):QPE X K (.Name x pos) (b7 i) (aD i):=⟨Gu hN hv hd hcd,JV i⟩
def qC(t:T):QE:=fun _ Q=>Q t
theorem xK{v:V}{t:T}(h:∀ dl H,aE K dl H v t []):kE K (tC v) (qC t):=fun dl H σ q Q R rd hq k=>k v t [] H (.refl rd.d) ⟨h dl H,fun _ z=>nomatch z⟩ (fun _ z=>nomatch z) List.nodup_nil hq
theorem a9{i j pos}:QPF X K (.Constant (.int i) j pos) (tC (.int i)) (qC (.i i)):=⟨bD,xK fun _ _=>.i i⟩
theorem mU{b j pos}:QPF X K (.Constant (.bool b) j pos) (tC (.bl b)) (qC (.b b)):=⟨RP,xK fun _ _=>.b b⟩
theorem fY{j pos}:QPF X K (.Constant .none j pos) (tC .non) (qC .n):=⟨OL,xK fun _ _=>.n⟩
theorem a4{x j pos}:QPF X K (.Constant (.str x) j pos) (tC (.str x)) (qC (.s x)):=⟨cS,xK fun _ _=>.s x⟩
theorem MJ{n:String}{pos:Pos}(hg:Gl X x)(hm:X.mg x=none)(hv:bootBuiltins x=some (.type n))(hn:x ≠ "__name__":=by decide)(hd:(x ==("__debug__":Str))=false:=by decide):QPF X K (.Name x pos) (tC (.ty n)) (qC (.ty n)) :=
 ⟨BP hg hm hv rfl hn hd,xK fun _ _=>.ty n⟩
theorem lI{dl:Dl}{H:Hp}:∀(ws:List Str),aw K dl H (ws.map V.str) (ws.map T.s) []
 | []=>.nil
 | w::r=>.cons (F:=[]) (.s w) (lI r)
theorem rV{dl:Dl}{H:Hp}:∀(ws:List Int),aw K dl H (ws.map V.int) (ws.map T.i) []
 | []=>.nil
 | w::r=>.cons (F:=[]) (.i w) (rV r)
abbrev Q2:=T->T ->(T->Prop)->Prop
def Iv(K:W.Frag)(r:R2)(rq:Q2):Prop:=∀(dl:Dl)(H:Hp)(x y:V)(t u:T)(F G:List Addr)(Q:T->Prop)(R:V->Hp->Prop),Dls dl H->Rp K dl H x t F->Rp K dl H y u G->rq t u Q ->
 (∀ v z F' H',Evo dl H H'->Rp K dl H' v z F'->Q z->R v H')->r x y H R
def cL(K:W.Frag)(r:R2)(rq:Q2):Prop:=∀(dl:Dl)(H:Hp)(x y:V)(t u:T)(F G:List Addr)(Q:T->Prop)(R:V->Hp->Prop),Dls dl H->Rp K dl H x t F->Rp K dl H y u G->rq t u Q ->
 (∀ v z F' H',Evo dl H H'->Rp K dl H' v z F' ->(∀ b∈F',H b=none)->F'.Nodup->Q z->R v H')->r x y H R
variable{rq:Q2}
theorem cL.w{r:R2}(h:cL K r rq):Iv K r rq:=fun dl H x y t u F G Q R d a b hq k=>h dl H x y t u F G Q R d a b hq fun v z F' H' e r _ _ z'=>k v z F' H' e r z'
def qOp(rq:Q2)(qa qb:QE):QE:=fun q Q=>qa q fun t=>qb q fun u=>rq t u Q
theorem vO{r:R2}(ho:Iv K r rq)(ha:iV K ta qa)(hb:iV K tb qb):iV K (tOp r ta tb) (qOp rq qa qb):=by
 intro dl H σ q Q R rd hq k;refine ha dl H σ q _ _ rd hq fun v t F H1 e1 r1 hq1=>?_
 refine hb dl H1 σ q _ _ (rd.evo e1) hq1 fun w u G H2 e2 r2 hq2=>?_
 exact ho dl H2 v w t u F G Q R e2.d (r1.evo e1.d e2) r2 hq2 fun v' z F' H3 e3 r3 hz=>k v' z F' H3 ((e1.trans e2).trans e3) r3 hz
theorem Bp{r:R2}(ho:cL K r rq)(ha:iV K ta qa)(hb:iV K tb qb):kE K (tOp r ta tb) (qOp rq qa qb):=by
 intro dl H σ q Q R rd hq k;refine ha dl H σ q _ _ rd hq fun v t F H1 e1 r1 hq1=>?_
 refine hb dl H1 σ q _ _ (rd.evo e1) hq1 fun w u G H2 e2 r2 hq2=>?_
 exact ho dl H2 v w t u F G Q R e2.d (r1.evo e1.d e2) r2 hq2 fun v' z F' H3 e3 r3 f3 n3 hz=>k v' z F' H3 ((e1.trans e2).trans e3) r3 (fun b hb=>(e1.trans e2).free (f3 b hb)) n3 hz
theorem sd{op:Operator}{r:R2}(ho:OpR X (binaryOp op) r)(hs:cL K r rq)(ha:QPE X K a ta qa)(hb:QPE X K b tb qb):QPF X K (.BinOp a op b pos) (tOp r ta tb) (qOp rq qa qb):=⟨cw ho ha.h hb.h,Bp hs ha.s hb.s⟩
end
end L2
namespace L2
open PySem PySem.Spec PyProof.Rows
variable{x:Str}{C:Addr}{ns:List Str}{a:Addr}{ws:List Str}{G:List Addr}
section
variable{X:Cx}{K:W.Frag}{dl:Dl}{H:Hp}{v:V}{F:List Addr}
def Tp(K:W.Frag)(dl:Dl)(H:Hp)(v:V)(F:List Addr):T->Prop
 | .n=>v = .non/\F = []
 | .b x=>v = .bl x/\F = []
 | .i x=>v = .int x/\F = []
 | .s x=>v = .str x/\F = []
 | .ty x=>v = .ty x
 | .t ts=>∃ a vs,v = .ref a/\H a=some (.tup vs)/\aw K dl H vs ts F
 | .l ts=>∃ a vs G,v = .ref a/\F=a::G/\H a=some (.lst vs)/\aw K dl H vs ts G
 | .d ts=>∃ a vs G,v = .ref a/\F=a::G/\H a=some (.dK vs)/\aR K dl H vs ts G
 | .cq=>∃ a l,v = .ref a/\(a,l)∈dl/\F = []
 | .z ns=>∃ a,v = .ref a/\FzL K H a (ns.map V.int)/\F = []
 | .k ws=>∃ a,v = .ref a/\(∀ H',SqT K H' a (ws.map V.str))/\F = []
 | .xc C ns ts=>∃ a b vs,v = .ref a/\F = []/\ExH H a C b (ns.zip vs)/\aw K dl H vs ts []
 | .q=>True
 | .fd _ _ _=>True
 | .rm u=>∃ a x,v = .ref a/\H a=some (.room x)/\x<=u/\F = []
 | .ob C ns ts=>∃ a vs,v = .ref a/\F = []/\ObH H a C (ns.zip vs)/\aw K dl H vs ts []
 | .dp a ts=>∃ vs G,v = .ref a/\F=a::G/\H a=some (.dK vs)/\aR K dl H vs ts G
 | .lp a ts=>∃ vs G,v = .ref a/\F=a::G/\H a=some (.lst vs)/\aw K dl H vs ts G
theorem aE.inv{t:T}(h:aE K dl H v t F):Tp K dl H v F t :=
 aE.rec (motive_1:=fun v t F _=>Tp K dl H v F t) (motive_2:=fun _ _ _ _=>True) (motive_3:=fun _ _ _ _=>True) ⟨rfl,rfl⟩ (fun _=>⟨rfl,rfl⟩) (fun _=>⟨rfl,rfl⟩) (fun _=>⟨rfl,rfl⟩) (fun _=>rfl)
  (fun h r _=>⟨_,_,rfl,h,r⟩) (fun h r _=>⟨_,_,_,rfl,rfl,h,r⟩) (fun h r _=>⟨_,_,_,rfl,rfl,h,r⟩) (fun h=>⟨_,_,rfl,h,rfl⟩) (fun h=>⟨_,rfl,h,rfl⟩) (fun _=>trivial) (fun _ _ _=>trivial) (fun h=>⟨_,rfl,h,rfl⟩) (fun h r _=>⟨_,_,_,rfl,rfl,h,r⟩) (fun h hx=>⟨_,_,rfl,h,hx,rfl⟩) (fun h r _=>⟨_,_,rfl,rfl,h,r⟩) (fun h r _=>⟨_,_,rfl,rfl,h,r⟩) (fun h r _=>⟨_,_,rfl,rfl,h,r⟩)
  trivial (fun _ _ _ _=>trivial) trivial (fun _ _ _ _=>trivial) h
theorem aE.int{x:Int}(h:aE K dl H v (.i x) F):v = .int x/\F = []:=h.inv
theorem aE.str(h:aE K dl H v (.s x) F):v = .str x/\F = []:=h.inv
theorem aE.bl{x:Bool}(h:aE K dl H v (.b x) F):v = .bl x/\F = []:=h.inv
theorem aE.non(h:aE K dl H v .n F):v = .non/\F = []:=h.inv
theorem aE.tyy{x:String}(h:aE K dl H v (.ty x) F):v = .ty x:=h.inv
theorem aE.tup{ts:List T}(h:aE K dl H v (.t ts) F):∃ a vs,v = .ref a/\H a=some (.tup vs)/\aw K dl H vs ts F:=h.inv
theorem aE.lst{ts:List T}(h:aE K dl H v (.l ts) F):∃ a vs G,v = .ref a/\F=a::G/\H a=some (.lst vs)/\aw K dl H vs ts G:=h.inv
theorem aE.dic{ts:List (Key×T)}(h:aE K dl H v (.d ts) F):∃ a vs G,v = .ref a/\F=a::G/\H a=some (.dK vs)/\aR K dl H vs ts G:=h.inv
theorem aE.roo{u:Int}(h:aE K dl H v (.rm u) F):∃ a x,v = .ref a/\H a=some (.room x)/\x<=u/\F = []:=h.inv
theorem aE.obj{ts:List T}(h:aE K dl H v (.ob C ns ts) F):∃ a vs,v = .ref a/\F = []/\ObH H a C (ns.zip vs)/\aw K dl H vs ts []:=h.inv
theorem aE.dpp{ts:List (Key×T)}(h:aE K dl H v (.dp a ts) F):∃ vs G,v = .ref a/\F=a::G/\H a=some (.dK vs)/\aR K dl H vs ts G:=h.inv
theorem aE.lpp{ts:List T}(h:aE K dl H v (.lp a ts) F):∃ vs G,v = .ref a/\F=a::G/\H a=some (.lst vs)/\aw K dl H vs ts G:=h.inv
theorem aE.dea(h:aE K dl H v .cq F):∃ a l,v = .ref a/\(a,l)∈dl/\F = []:=h.inv
theorem aE.scr{ns:List Int}(h:aE K dl H v (.z ns) F):∃ a,v = .ref a/\FzL K H a (ns.map V.int)/\F = []:=h.inv
theorem aE.kst(h:aE K dl H v (.k ws) F):∃ a,v = .ref a/\(∀ H',SqT K H' a (ws.map V.str))/\F = []:=h.inv
theorem aw.len{vs:List V}{ts:List T}(h:aw K dl H vs ts F):vs.length=ts.length:=h.ind (M:=fun vs ts _=>vs.length=ts.length) rfl fun _ _ _ _ _ _ _ _ ih=>congrArg (· + 1) ih
theorem aR.len{vs:List (Key×V)}{ts:List (Key×T)}(h:aR K dl H vs ts F):vs.length=ts.length:=h.ind (M:=fun vs ts _=>vs.length=ts.length) rfl fun _ _ _ _ _ _ _ _ _ ih=>congrArg (· + 1) ih
theorem aw.PV{vs:List V}{ts:List T}{i:Nat}{t:T}(h:aw K dl H vs ts F)(e:ts[i]? = some t):∃ v G,vs[i]? = some v/\aE K dl H v t G/\G.Sublist F :=
 h.ind (M:=fun vs ts F=>∀(i:Nat)(t:T),ts[i]? = some t->∃ v G,vs[i]? = some v/\aE K dl H v t G/\G.Sublist F) (fun _ _ e=>nomatch e) (fun v x vs ts F G h _ ih i t e=>by
  cases i with
  | zero=>cases e;exact⟨v,F,rfl,h,List.sublist_append_left _ _⟩
  | succ i =>
   obtain⟨w,G',h1,h2,h3⟩:=ih i t e;exact⟨w,G',h1,h2,h3.trans (List.sublist_append_right _ _)⟩) i t e
theorem aw.get{vs:List V}{ts:List T}{i:Nat}{t:T}(h:aw K dl H vs ts F)(e:ts[i]? = some t):∃ v G,vs[i]? = some v/\aE K dl H v t G/\∀ b∈G,b∈F :=
 Exists.elim (h.PV e) fun v z=>Exists.elim z fun G z=>⟨v,G,z.1,z.2.1,fun _ hb=>z.2.2.subset hb⟩
theorem aw.append{vs ws:List V}{ts us:List T}(h:aw K dl H vs ts F)(h2:aw K dl H ws us G):aw K dl H (vs++ws) (ts++us) (F++G) :=
 h.ind (M:=fun vs ts F=>aw K dl H (vs++ws) (ts++us) (F++G)) h2 fun _ _ _ _ _ _ h _ ih=>by rw[List.append_assoc];exact .cons h ih
theorem aw.iC{vs:List V}{ts:List T}(h:aw K dl H vs ts F):vs = [] ↔ ts = []:=by
 cases h with
 | nil=>simp
 | cons _ _=>simp
theorem aw.drop:∀{vs:List V}{ts:List T}{F:List Addr}(n:Nat),aw K dl H vs ts F->∃ G,aw K dl H (vs.drop n) (ts.drop n) G/\G.Sublist F
 | _,_,F,0,h=>⟨F,h,List.Sublist.refl _⟩
 | _,_,_,_+1,.nil=>⟨[],.nil,List.Sublist.refl _⟩
 | _,_,_,n+1,.cons (F:=F1) h r=>by
  obtain⟨G,h1,h2⟩:=aw.drop n r;exact⟨G,h1,h2.trans (List.sublist_append_right _ _)⟩
theorem aw.take:∀{vs:List V}{ts:List T}{F:List Addr}(n:Nat),aw K dl H vs ts F->∃ G,aw K dl H (vs.take n) (ts.take n) G/\G.Sublist F
 | _,_,F,0,h=>⟨[],.nil,List.nil_sublist _⟩
 | _,_,_,_+1,.nil=>⟨[],.nil,List.Sublist.refl _⟩
 | _,_,_,n+1,.cons (F:=F1) h r=>by
  obtain⟨G,h1,h2⟩:=aw.take n r;exact⟨_,.cons h h1,h2.append_left _⟩
theorem Rp.sub{t:T}(r:aE K dl H v t G)(n:∀ b∈F,Nd dl b)(h:∀ b∈G,b∈F):Rp K dl H v t G:=⟨r,fun b hb=>n b (h b hb)⟩
theorem Rp.c{t:T}(r:aE K dl H v t []):Rp K dl H v t []:=⟨r,fun _ z=>nomatch z⟩
theorem Rps.tup{vs:List V}{ts:List T}{p:Addr}(h:Rps K dl H vs ts F)(D:Dls dl H)(hp:H p=none):Rp K dl (upd H p (.tup vs)) (.ref p) (.t ts) F :=
 have h2:=h.evo D ((Evo.refl D).new (o:=.tup vs) hp)
 ⟨.t aj h2.r,h2.n⟩
theorem Rps.lst{vs:List V}{ts:List T}{p:Addr}(h:Rps K dl H vs ts F)(D:Dls dl H)(hp:H p=none):Rp K dl (upd H p (.lst vs)) (.ref p) (.l ts) (p::F) :=
 have h2:=h.evo D ((Evo.refl D).new (o:=.lst vs) hp)
 ⟨.l aj h2.r,fun b hb=>by
  rcases List.mem_cons.mp hb with e|hb
  ·rw[e];exact D.nd0 hp
  ·exact h2.n b hb⟩
theorem Rps.fresh{vs:List V}{ts:List T}{p:Addr}(h:Rps K dl H vs ts F)(hp:H p=none)(hn:F.Nodup):(p::F).Nodup:=List.nodup_cons.mpr ⟨fun z=>(by
 rcases h.r.there p z with⟨_,e⟩ |⟨_,e⟩
 ·rw[hp]at e;cases e
 ·rw[hp]at e;cases e),hn⟩
def qII(C:Int->Int->Prop)(g:Int->Int->T):Q2:=fun t u Q=>match t,u with
 | .i a,.i b=>C a b/\Q (g a b)
 | _,_=>False
theorem MF{C:Int->Int->Prop}{g:Int->Int->V}{g':Int->Int->T}(hg:∀ a b dl H,aE K dl H (g a b) (g' a b) []):cL K (rI C g) (qII C g'):=by
 intro dl H x y t u F G Q R D r1 r2 hq k;unfold qII at hq
 split at hq
 ·obtain⟨rfl,rfl⟩:=r1.r.int;obtain⟨rfl,rfl⟩:=r2.r.int;exact⟨_,_,rfl,rfl,hq.1,k _ _ [] H (.refl D) (.c (hg _ _ _ _)) (fun _ z=>nomatch z) List.nodup_nil hq.2⟩
 ·exact hq.elim
def qI0(g:Int->Int->T):Q2:=fun t u Q=>match t,u with
 | .i a,.i b=>Q (g a b)
 | _,_=>False
theorem zj{g:Int->Int->V}{g':Int->Int->T}(hg:∀ a b dl H,aE K dl H (g a b) (g' a b) []):cL K (rI0 g) (qI0 g'):=by
 intro dl H x y t u F G Q R D r1 r2 hq k;unfold qI0 at hq
 split at hq
 ·obtain⟨rfl,rfl⟩:=r1.r.int;obtain⟨rfl,rfl⟩:=r2.r.int;exact⟨_,_,rfl,rfl,k _ _ [] H (.refl D) (.c (hg _ _ _ _)) (fun _ z=>nomatch z) List.nodup_nil hq⟩
 ·exact hq.elim
theorem Lc:OpR X (binaryOp .Add) (fun x y H Q=>∃ a b xs ys,x = .ref a/\y = .ref b/\SqT X.K H a xs/\SqT X.K H b ys/\xs.length+ys.length<=sizeLine /\
  (xs = []->Q (.ref b) H)/\(xs ≠ []->ys = []->Q (.ref a) H)/\(xs ≠ []->ys ≠ []->∀ p,H p=none->Q (.ref p) (upd H p (.tup (xs++ys))))):=by
 intro gV s σ H x y v u Q I rx ry h;obtain⟨a,b,xs,ys,rfl,rfl,ha,hb,hz,q0,q1,q2⟩:=h;by_cases hx:xs = []
 ·cases rx;cases ry;obtain⟨its,r1,p1,_⟩:=I.tuple ha;obtain⟨cc,r2,p2,_⟩:=I.tuple hb;have e:its = []:=r1.iC.mpr hx;subst e;obtain⟨⟨cls,dd,data,sl⟩,ho,hc,n,hd⟩:=id p1;obtain⟨⟨VM,dd2,data2,sl2⟩,ho2,hc2,n2,hd2⟩:=id p2;simp only at hc hd hc2 hd2;subst hc hd hc2 hd2;exact concat_meets ⟨_,ho,rfl⟩ ⟨_,ho2,rfl⟩ noFill_tuple_add seq_tuple_add PySem.F.slot_tuple_add PySem.F.entry_tuple_add (PySem.F.args_tuple_add_2 _ _)
   (tuple_addW0 a b ([]:List Value).toArray cc.toArray n n2 dd dd2 sl sl2 (by simp)) ⟨ho,ho2,⟨.ref b,H,I,rfl,q0 hx⟩⟩
 ·exact Ld gV s σ H _ _ v u Q I rx ry ⟨a,b,xs,ys,rfl,rfl,ha,hb,hx,hz,q1 hx,q2 hx⟩
def FK(K:W.Frag):R2:=fun x y H Q=>rI0 (fun i j=>.int (i+j)) x y H Q\/(∃ i j,x = .str i/\y = .str j/\i.length+j.length<=sizeLine/\Q (.str (i++j)) H)\/Ro x y H Q \/
 (∃ a b xs ys,x = .ref a/\y = .ref b/\SqT K H a xs/\SqT K H b ys/\xs.length+ys.length<=sizeLine /\
  (xs = []->Q (.ref b) H)/\(xs ≠ []->ys = []->Q (.ref a) H)/\(xs ≠ []->ys ≠ []->∀ p,H p=none->Q (.ref p) (upd H p (.tup (xs++ys)))))
theorem Le(hK:X.K=K):OpR X (binaryOp .Add) (FK K):=by subst hK;exact oM.or (zP.or (OW.or Lc))
def we:Q2:=fun t u Q=>match t,u with
 | .i a,.i b=>Q (.i (a+b))
 | .s a,.s b=>a.length+b.length<=sizeLine/\Q (.s (a++b))
 | .l a,.l b=>a.length+b.length<=sizeLine/\T.ims a=true/\T.ims b=true/\Q (.l (a++b))
 | .t a,.t b=>a.length+b.length<=sizeLine/\T.ims a=true/\T.ims b=true/\Q (.t (a++b))
 | _,_=>False
theorem Kc:cL K (FK K) we:=by
 intro dl H x y t u F G Q R D r1 r2 hq k;have no:∀ b:Addr,b∈([]:List Addr)->H b=none:=fun _ z=>nomatch z
 unfold we at hq
 split at hq
 ·obtain⟨rfl,rfl⟩:=r1.r.int;obtain⟨rfl,rfl⟩:=r2.r.int;exact .inl ⟨_,_,rfl,rfl,k _ _ [] H (.refl D) (.c (.i _)) no List.nodup_nil hq⟩
 ·obtain⟨rfl,rfl⟩:=r1.r.str;obtain⟨rfl,rfl⟩:=r2.r.str;exact .inr (.inl ⟨_,_,rfl,rfl,hq.1,k _ _ [] H (.refl D) (.c (.s _)) no List.nodup_nil hq.2⟩)
 ·obtain⟨a,vs,F1,rfl,rfl,h1,s1⟩:=r1.r.lst;obtain⟨b,ws,G1,rfl,rfl,h2,s2⟩:=r2.r.lst;obtain rfl:=s1.im hq.2.1;obtain rfl:=s2.im hq.2.2.1;refine .inr (.inr (.inl ⟨a,b,vs,ws,rfl,rfl,h1,h2,by rw[s1.len,s2.len];exact hq.1,fun p hp=>?_⟩))
  have rs:Rps K dl H (vs++ws) _ ([] ++ []):=⟨s1.append s2,fun c hc=>nomatch hc⟩
  exact k _ _ _ _ ((Evo.refl D).new hp) (rs.lst D hp) (fun b hb=>by rw[List.mem_singleton.mp hb];exact hp) (by simp) hq.2.2.2
 ·obtain⟨a,vs,rfl,h1,s1⟩:=r1.r.tup;obtain⟨b,ws,rfl,h2,s2⟩:=r2.r.tup;obtain rfl:=s1.im hq.2.1;obtain rfl:=s2.im hq.2.2.1;refine .inr (.inr (.inr ⟨a,b,vs,ws,rfl,rfl,SqT.of h1,SqT.of h2,by rw[s1.len,s2.len];exact hq.1,fun e=>?_,fun e1 e2=>?_,fun _ _ p hp=>?_⟩))
  ·refine k _ _ [] H (.refl D) r2 no List.nodup_nil ?_;have z:=s1.iC.mp e;subst z;exact hq.2.2.2
  ·refine k _ _ [] H (.refl D) r1 no List.nodup_nil ?_;have z:=s2.iC.mp e2;subst z;have hq2:=hq.2.2.2;rw[List.append_nil]at hq2;exact hq2
  ·have rs:Rps K dl H (vs++ws) _ ([] ++ []):=⟨s1.append s2,fun c hc=>nomatch hc⟩
   exact k _ _ _ _ ((Evo.refl D).new hp) (rs.tup D hp) no List.nodup_nil hq.2.2.2
 ·exact hq.elim
def Om:Q2:=fun t u Q=>match t,u with
 | .i a,.i b=>IK a b/\Q (.i (a*b))
 | .s a,.i b=>0<=b/\b<=1000/\a.length<=1000/\Q (.s (jr a b.toNat))
 | _,_=>False
def FF:R2:=fun x y H Q=>rI IK (fun i j=>.int (i*j)) x y H Q\/(∃ z n,x = .str z/\y = .int n/\0<=n/\n<=1000/\z.length<=1000/\Q (.str (jr z n.toNat)) H)
theorem Lb:OpR X (binaryOp .Mult) FF:=lO.or zN
theorem J1:cL K FF Om:=by
 intro dl H x y t u F G Q R D r1 r2 hq k;unfold Om at hq
 split at hq
 ·obtain⟨rfl,rfl⟩:=r1.r.int;obtain⟨rfl,rfl⟩:=r2.r.int;exact .inl ⟨_,_,rfl,rfl,hq.1,k _ _ [] H (.refl D) (.c (.i _)) (fun _ z=>nomatch z) List.nodup_nil hq.2⟩
 ·obtain⟨rfl,rfl⟩:=r1.r.str;obtain⟨rfl,rfl⟩:=r2.r.int;exact .inr ⟨_,_,rfl,rfl,hq.1,hq.2.1,hq.2.2.1,k _ _ [] H (.refl D) (.c (.s _)) (fun _ z=>nomatch z) List.nodup_nil hq.2.2.2⟩
 ·exact hq.elim
end
section
variable{X:Cx}{K:W.Frag}{a b:Expr}{ta tb:TE}{qa qb:QE}{pos:Pos}
theorem a5(ha:QPE X K a ta qa)(hb:QPE X K b tb qb)(hK:X.K=K:=by rfl):QPF X K (.BinOp a .Add b pos) (tOp (FK K) ta tb) (qOp we qa qb):=sd (Le hK) Kc ha hb
theorem rZ(ha:QPE X K a ta qa)(hb:QPE X K b tb qb):QPF X K (.BinOp a .Sub b pos) (tOp (rI0 fun i j=>.int (i - j)) ta tb) (qOp (qI0 fun i j=>.i (i - j)) qa qb):=sd zM (zj fun _ _ _ _=>.i _) ha hb
theorem zw(ha:QPE X K a ta qa)(hb:QPE X K b tb qb):QPF X K (.BinOp a .Mult b pos) (tOp FF ta tb) (qOp Om qa qb):=sd Lb J1 ha hb
theorem se(ha:QPE X K a ta qa)(hb:QPE X K b tb qb):QPF X K (.BinOp a .Mod b pos) (tOp (rI (fun _ j=>0<j) fun i j=>.int (i % j)) ta tb) (qOp (qII (fun _ j=>0<j) fun i j=>.i (i % j)) qa qb):=sd iB (MF fun _ _ _ _=>.i _) ha hb
theorem KC(ha:QPE X K a ta qa)(hb:QPE X K b tb qb):QPF X K (.BinOp a .FloorDiv b pos) (tOp (rI IL fun i j=>.int (i / j)) ta tb) (qOp (qII IL fun i j=>.i (i / j)) qa qb):=sd yd (MF fun _ _ _ _=>.i _) ha hb
end
variable{op:CmpOp}{rq:Q2}{j:Nat}
section
variable{X:Cx}{K:W.Frag}{a b c e:Expr}{es rest:List Expr}{ta tb tc te:TE}{qa qb qc qe:QE}{tA tB:TT}{qA qB:QT}{tl:TA}{ql:QA}{pos:Pos}
def T.v:T->V
 | .n=>.non | .b x=>.bl x | .i x=>.int x | .s x=>.str x | _=>.ty ""
def T.fl:T->Bool
 | .n=>true | .b _=>true | .i _=>true | .s _=>true | _=>false
theorem aE.v{dl:Dl}{H:Hp}{v:V}{t:T}{F:List Addr}(h:aE K dl H v t F)(f:t.fl=true):v=t.v/\F = []:=by
 cases h <;> first|exact⟨rfl,rfl⟩|exact absurd (show false=true from f) Bool.false_ne_true
def qEq:Q2:=fun t u Q=>(t.fl&&u.fl&&Kg t.v u.v)=true/\Q (.b (decide (t.v=u.v)))
def qNe:Q2:=fun t u Q=>(t.fl&&u.fl&&Kg t.v u.v)=true/\Q (.b (!decide (t.v=u.v)))
theorem N1:cL K rEq qEq:=by
 intro dl H x y t u F G Q R D r1 r2 hq k;obtain⟨h,hq⟩:=hq;rw[Bool.and_eq_true,Bool.and_eq_true]at h;obtain⟨rfl,rfl⟩:=r1.r.v h.1.1;obtain⟨rfl,rfl⟩:=r2.r.v h.1.2;exact⟨h.2,k _ _ [] H (.refl D) (.c (.b _)) (fun _ z=>nomatch z) List.nodup_nil hq⟩
theorem oz:cL K rNe qNe:=by
 intro dl H x y t u F G Q R D r1 r2 hq k;obtain⟨h,hq⟩:=hq;rw[Bool.and_eq_true,Bool.and_eq_true]at h;obtain⟨rfl,rfl⟩:=r1.r.v h.1.1;obtain⟨rfl,rfl⟩:=r2.r.v h.1.2;exact⟨h.2,k _ _ [] H (.refl D) (.c (.b _)) (fun _ z=>nomatch z) List.nodup_nil hq⟩
def Dm(neg:Bool):Q2:=fun t u Q=>match u with
 | .n=>Q (.b (match t with | .n=>!neg | _=>neg))
 | _=>False
theorem J7:cL K (fun x y H Q=>y = .non/\Q (.bl (decide (x = .non))) H) (Dm false):=by
 intro dl H x y t u F G Q R D r1 r2 hq k;unfold Dm at hq
 split at hq
 ·obtain⟨rfl,rfl⟩:=r2.r.non;refine⟨rfl,k _ _ [] H (.refl D) (.c (.b _)) (fun _ z=>nomatch z) List.nodup_nil ?_⟩
  cases r1.r <;> exact hq
 ·exact hq.elim
theorem jj:cL K (fun x y H Q=>y = .non/\Q (.bl (!decide (x = .non))) H) (Dm true):=by
 intro dl H x y t u F G Q R D r1 r2 hq k;unfold Dm at hq
 split at hq
 ·obtain⟨rfl,rfl⟩:=r2.r.non;refine⟨rfl,k _ _ [] H (.refl D) (.c (.b _)) (fun _ z=>nomatch z) List.nodup_nil ?_⟩
  cases r1.r <;> exact hq
 ·exact hq.elim
def inT(x:T)(xs:List T):Bool:=xs.any fun y=>eqV y.v x.v
def fls(xs:List T):Bool:=xs.all T.fl
theorem aw.vs{dl:Dl}{H:Hp}{vs:List V}{ts:List T}{F:List Addr}(h:aw K dl H vs ts F):fls ts=true->vs=ts.map T.v/\F = [] :=
 h.ind (M:=fun vs ts F=>fls ts=true->vs=ts.map T.v/\F = []) (fun _=>⟨rfl,rfl⟩) fun _ _ _ _ _ _ h _ ih f=>by
  have f:(_&&_)=true:=f;rw[Bool.and_eq_true]at f;obtain⟨rfl,rfl⟩:=h.v f.1;obtain⟨rfl,rfl⟩:=ih f.2;exact⟨rfl,rfl⟩
theorem lX{ts:List T}(f:fls ts=true):(ts.map T.v).all eT=true:=by
 rw[List.all_eq_true];intro x hx;obtain⟨t,ht,rfl⟩:=List.mem_map.mp hx
 have:=List.all_eq_true.mp f t ht
 cases t <;> first|rfl|exact absurd this Bool.false_ne_true
theorem LV{t:T}(f:t.fl=true):eT t.v=true:=by cases t <;> first|rfl|exact absurd f Bool.false_ne_true
def Kl(K:W.Frag)(neg:Bool):R2:=fun x y H Q=>rIn K neg x y H Q\/∃ i j,x = .str i/\y = .str j/\Q (.bl (if neg then !(!(Builtin.Str.occurrences j i 0 j.length 1).isEmpty)else !(Builtin.Str.occurrences j i 0 j.length 1).isEmpty)) H
theorem GF(hK:X.K=K):OpR X (compareOp .In) (Kl K false):=by subst hK;exact Dx.or Dw
theorem oK(hK:X.K=K):OpR X (compareOp .NotIn) (Kl K true):=by subst hK;exact wt.or wq
def qIn(neg:Bool):Q2:=fun t u Q=>match u with
 | .l xs=>(t.fl&&fls xs)=true/\Q (.b (if neg then !inT t xs else inT t xs))
 | .t xs=>(t.fl&&fls xs)=true/\Q (.b (if neg then !inT t xs else inT t xs))
 | .k ws=>match t with
  | .s y=>Q (.b (if neg then !inT (.s y) (ws.map T.s)else inT (.s y) (ws.map T.s)))
  | _=>False
 | .s z=>match t with
  | .s y=>Q (.b (if neg then !(!(Builtin.Str.occurrences z y 0 z.length 1).isEmpty)else !(Builtin.Str.occurrences z y 0 z.length 1).isEmpty))
  | _=>False
 | _=>False
theorem rM{neg:Bool}:cL K (Kl K neg) (qIn neg):=by
 intro dl H x y t u F G Q R D r1 r2 hq k;have go:∀(xs:List T)(p:Addr)(vs:List V),y = .ref p ->(SqL K H p vs\/SqT K H p vs) ->(∃ G,aw K dl H vs xs G) ->(t.fl&&fls xs)=true/\Q (.b (if neg then !inT t xs else inT t xs))->Kl K neg x y H R:=by
  rintro xs p vs rfl hs ⟨G,rs⟩ ⟨f,hq⟩
  rw[Bool.and_eq_true]at f;obtain⟨rfl,rfl⟩:=r1.r.v f.1;obtain⟨rfl,_⟩:=rs.vs f.2;refine .inl ⟨p,_,rfl,hs,LV f.1,lX f.2,k _ (.b _) [] H (.refl D) (.c (.b _)) (fun _ z=>nomatch z) List.nodup_nil ?_⟩
  have e:inV t.v (xs.map T.v)=inT t xs:=by unfold inV inT;rw[List.any_map];rfl
  rw[e];exact hq
 unfold qIn at hq
 split at hq
 ·obtain⟨p,vs,G,rfl,_,h1,h2⟩:=r2.r.lst;exact go _ p vs rfl (.inl (SqL.of h1)) ⟨_,h2⟩ hq
 ·obtain⟨p,vs,rfl,h1,h2⟩:=r2.r.tup;exact go _ p vs rfl (.inr (SqT.of h1)) ⟨_,h2⟩ hq
 ·split at hq
  ·obtain⟨p,rfl,h1,_⟩:=r2.r.kst;refine go _ p _ rfl (.inr (h1 H)) ⟨_,lI _⟩ ⟨?_,hq⟩;rw[Bool.and_eq_true];refine⟨rfl,?_⟩;unfold fls;rw[List.all_map,List.all_eq_true];exact fun _ _=>rfl
  ·exact hq.elim
 ·split at hq
  ·obtain⟨rfl,rfl⟩:=r1.r.str;obtain⟨rfl,rfl⟩:=r2.r.str;exact .inr ⟨_,_,rfl,rfl,k _ _ [] H (.refl D) (.c (.b _)) (fun _ z=>nomatch z) List.nodup_nil hq⟩
  ·exact hq.elim
 ·exact hq.elim
theorem zx{r:R2}(ho:OpR X (compareOp op) r)(hs:cL K r rq)(hm:behindInMarks op b=false)(ha:QPE X K a ta qa)(hb:QPE X K b tb qb):QPF X K (.Compare a [op] [b] pos) (tOp r ta tb) (qOp rq qa qb) :=
 ⟨K8 ho ha.h hb.h hm,Bp hs ha.s hb.s⟩
def gE(qe:QE):QT:=fun q Q=>qe q fun t=>match t with
 | .b x=>Q x
 | _=>False
theorem E6(h:iV K te qe):mh K (Bg te) (gE qe):=by
 intro dl H σ q Q R rd hq k;refine h dl H σ q _ _ rd hq fun v t F H' e r hz=>?_
 split at hz
 ·obtain⟨rfl,rfl⟩:=r.r.bl;exact⟨_,rfl,k _ H' e hz⟩
 ·exact hz.elim
theorem bj{r:R2}(ho:OpR X (compareOp op) r)(hs:cL K r rq)(hm:behindInMarks op b=false)(ha:QPE X K a ta qa)(hb:QPE X K b tb qb):QPT X K (.Compare a [op] [b] pos) (Bg (tOp r ta tb)) (gE (qOp rq qa qb)) :=
 ⟨mV ho ha.h hb.h hm,E6 (vO hs.w ha.s hb.s)⟩
def Oj(qe:QE):QT:=fun q Q=>qe q fun t=>match t with
 | .b x=>Q x
 | .n=>Q false
 | .i x=>Q (x != 0)
 | .s x=>x.length<=sizeLine/\Q ((x.length:Int) != 0)
 | .l xs=>Q (!xs.isEmpty)
 | .t xs=>Q (!xs.isEmpty)
 | .d xs=>Q (!xs.isEmpty)
 | _=>False
theorem JX(h:iV K te qe):mh K (fun σ H Q=>te σ H fun x H'=>∃ k,Ms K x H' k/\Q k H') (Oj qe):=by
 intro dl H σ q Q R rd hq k;refine h dl H σ q _ _ rd hq fun v t F H' e r hz=>?_
 have emp:∀{α β:Type}{xs:List α}{ys:List β},xs.length=ys.length ->(!xs.isEmpty) = !ys.isEmpty:=fun{α β xs ys} h=>by
  cases xs <;> cases ys <;> first|rfl |(simp at h)
 split at hz
 ·obtain⟨rfl,rfl⟩:=r.r.bl;exact⟨_,rfl,k _ H' e hz⟩
 ·obtain⟨rfl,rfl⟩:=r.r.non;exact⟨_,rfl,k _ H' e hz⟩
 ·obtain⟨rfl,rfl⟩:=r.r.int;exact⟨_,rfl,k _ H' e hz⟩
 ·obtain⟨rfl,rfl⟩:=r.r.str;exact⟨_,⟨hz.1,rfl⟩,k _ H' e hz.2⟩
 ·obtain⟨p,vs,G,rfl,_,h1,h2⟩:=r.r.lst;exact⟨_,.inl ⟨vs,SqL.of h1,rfl⟩,k _ H' e (by rw[emp h2.len];exact hz)⟩
 ·obtain⟨p,vs,rfl,h1,h2⟩:=r.r.tup;exact⟨_,.inr (.inl ⟨vs,SqT.of h1,rfl⟩),k _ H' e (by rw[emp h2.len];exact hz)⟩
 ·obtain⟨p,vs,G,rfl,_,h1,h2⟩:=r.r.dic;exact⟨_,.inr (.inr ⟨vs,h1,rfl⟩),k _ H' e (by rw[emp h2.len];exact hz)⟩
 ·exact hz.elim
theorem gy(h:QPE X K e te qe)(he:∀ whole,isTrue e X.env whole =(do let v <- whole;standAt e.pos;holding [v] (truthy v)):=by intro _;rfl)(hK:X.K=K:=by rfl) :
  QPT X K e (fun σ H Q=>te σ H fun x H'=>∃ k,Ms K x H' k/\Q k H') (Oj qe):=⟨by subst hK;exact Ge h.h he,JX h.s⟩
def Ru(t:QT):QT:=fun q Q=>t q fun c=>Q (!c)
def Ot(t u:QT):QT:=fun q Q=>t q fun c=>if c=true then u q Q else Q false
def qOr(t u:QT):QT:=fun q Q=>t q fun c=>if c=true then Q true else u q Q
theorem JZ(h:mh K tA qA):mh K (NK tA) (Ru qA):=fun dl H σ q _ R rd hq k=>h dl H σ q _ _ rd hq fun b H' e hz=>k _ H' e hz
theorem Kb(h:mh K tA qA)(h2:mh K tB qB):mh K (NO tA tB) (Ot qA qB):=fun dl H σ q Q R rd hq k=>h dl H σ q _ _ rd hq fun b H' e hz=>by
 cases b with
 | false=>exact k _ H' e hz
 | true=>exact h2 dl H' σ q Q R (rd.evo e) hz fun c H2 e2 z=>k c H2 (e.trans e2) z
theorem NZ(h:mh K tA qA)(h2:mh K tB qB):mh K (tOr tA tB) (qOr qA qB):=fun dl H σ q Q R rd hq k=>h dl H σ q _ _ rd hq fun b H' e hz=>by
 cases b with
 | true=>exact k _ H' e hz
 | false=>exact h2 dl H' σ q Q R (rd.evo e) hz fun c H2 e2 z=>k c H2 (e.trans e2) z
theorem zv(h:QPT X K a tA qA):QPT X K (.UnaryOp .Not a pos) (NK tA) (Ru qA):=⟨Ow h.h,JZ h.s⟩
theorem c7(h:QPT X K a tA qA):QPW X K (.BoolOp .And [a] pos) tA qA:=⟨BB h.h,h.s⟩
theorem lJ(h:QPT X K a tA qA):QPW X K (.BoolOp .Or [a] pos) tA qA:=⟨Ou h.h,h.s⟩
theorem fk(h:QPT X K a tA qA)(h2:QPW X K (.BoolOp .And (b::rest) pos) tB qB):QPW X K (.BoolOp .And (a::b::rest) pos) (NO tA tB) (Ot qA qB):=⟨Gb h.h h2.h,Kb h.s h2.s⟩
theorem pL(h:QPT X K a tA qA)(h2:QPW X K (.BoolOp .Or (b::rest) pos) tB qB):QPW X K (.BoolOp .Or (a::b::rest) pos) (tOr tA tB) (qOr qA qB):=⟨RF h.h h2.h,NZ h.s h2.s⟩
theorem QPW.pt(h:QPW X K e tA qA):QPT X K e tA qA:=⟨h.h.pt,h.s⟩
def MP(qa qb:QE):QE:=fun q Q=>qa q fun t=>match t with
 | .b c=>if c=true then qb q Q else Q (.b false)
 | _=>False
theorem Fj(h:iV K ta qa)(h2:kE K tb qb):kE K (EW ta tb) (MP qa qb):=fun dl H σ q Q R rd hq k=>h dl H σ q _ _ rd hq fun v t F H' e r hz=>by
 split at hz
 ·rename_i c;obtain⟨rfl,rfl⟩:=r.r.bl;refine⟨c,rfl,?_⟩;cases c with
  | false=>exact k _ _ [] H' e r (fun _ z=>nomatch z) List.nodup_nil hz
  | true=>exact h2 dl H' σ q Q R (rd.evo e) hz fun w u G H2 e2 r2 f2 n2 z=>k w u G H2 (e.trans e2) r2 (fun b hb=>e.free (f2 b hb)) n2 z
 ·exact hz.elim
theorem FU{op}(h:QPF X K a ta qa):QPF X K (.BoolOp op [a] pos) ta qa:=⟨OJ h.h,h.s⟩
theorem v7(ha:QPE X K a ta qa)(hb:QPF X K (.BoolOp .And (b::rest) pos) tb qb):QPF X K (.BoolOp .And (a::b::rest) pos) (EW ta tb) (MP qa qb):=⟨ON ha.h hb.h,Fj ha.s hb.s⟩
theorem FV(ha:QPE X K a ta qa):QPF X K (.UnaryOp .USub a pos) (tUn (rU fun i=>.int (-i)) ta) (fun q Q=>qa q fun t=>match t with | .i x=>Q (.i (-x)) | _=>False):=⟨RO NA ha.h,fun dl H σ q Q R rd hq k=>ha.s dl H σ q _ _ rd hq fun v t F H' e r hz=>by
 split at hz
 ·obtain⟨rfl,rfl⟩:=r.r.int;exact⟨_,rfl,k _ _ [] H' e (.c (.i _)) (fun _ z=>nomatch z) List.nodup_nil hz⟩
 ·exact hz.elim⟩
def bg:QA:=fun _ Q=>Q []
def ao(qa:QE)(ql:QA):QA:=fun q Q=>qa q fun t=>ql q fun ts=>Q (t::ts)
theorem av:xt X K [] kz bg:=⟨eB,fun dl H σ q Q R rd hq k=>k [] [] [] H (.refl rd.d) ⟨.nil,fun _ z=>nomatch z⟩ rfl (fun _ z=>nomatch z) List.nodup_nil hq⟩
theorem xt.w(h:xt X K es tl ql):QPA X K es tl ql:=⟨h.h,fun dl H σ q Q R rd hq k=>h.s dl H σ q Q R rd hq fun vs ts F H' e r l _ _ z=>k vs ts F H' e r l z⟩
theorem Rps.cons{dl:Dl}{H:Hp}{v:V}{t:T}{vs:List V}{ts:List T}{F G:List Addr}(h:Rp K dl H v t F)(r:Rps K dl H vs ts G):Rps K dl H (v::vs) (t::ts) (F++G):=⟨.cons h.r r.r,fun b hb=>(List.mem_append.mp hb).elim (h.n b) (r.n b)⟩
theorem ae(ha:QPE X K e te qe)(hr:QPA X K es tl ql)(hs:starEach (e::es) X.env =(false,eval e X.env)::starEach es X.env:=by rfl):QPA X K (e::es) (cu te tl) (ao qe ql) :=
 ⟨bw ha.h hr.h hs,fun dl H σ q Q R rd hq k=>ha.s dl H σ q _ _ rd hq fun v t F H1 e1 r1 hz=>hr.s dl H1 σ q _ _ (rd.evo e1) hz fun vs ts G H2 e2 r2 l2 z=>k _ _ _ H2 (e1.trans e2) (.cons (r1.evo e1.d e2) r2) (by simp[l2]) z⟩
theorem af(ha:QPF X K e te qe)(hr:xt X K es tl ql)(hs:starEach (e::es) X.env =(false,eval e X.env)::starEach es X.env:=by rfl):xt X K (e::es) (cu te tl) (ao qe ql) :=
 ⟨bw ha.h hr.h hs,fun dl H σ q Q R rd hq k=>ha.s dl H σ q _ _ rd hq fun v t F H1 e1 r1 f1 n1 hz=>hr.s dl H1 σ q _ _ (rd.evo e1) hz fun vs ts G H2 e2 r2 l2 f2 n2 z =>
  k _ _ _ H2 (e1.trans e2) (.cons (r1.evo e1.d e2) r2) (by simp[l2]) (fun b hb=>(List.mem_append.mp hb).elim (f1 b) fun hb=>e1.free (f2 b hb)) (List.nodup_append.mpr ⟨n1,n2,fun x hx y hy exy=>by
   subst exy;have z:=f2 x hy;rcases r1.r.there x hx with⟨_,e⟩ |⟨_,e⟩
   ·rw[z]at e;cases e
   ·rw[z]at e;cases e⟩) z⟩
def fZ(ql:QA):QE:=fun q Q=>ql q fun ts=>Q (.t ts)
def F8(ql:QA):QE:=fun q Q=>ql q fun ts=>Q (.l ts)
theorem aC{x1}(h:xt X K es tl ql)(hz:es.length<=1000:=by decide):QPF X K (.Tuple es x1 pos) (EO tl) (fZ ql):=⟨zK h.h,fun dl H σ q Q R rd hq k=>h.s dl H σ q _ _ rd hq fun vs ts F H1 e1 r1 l1 f1 n1 z =>
 ⟨Nat.le_of_lt (aA (by omega)),fun p hp=>k _ _ F _ (e1.new hp) (r1.tup e1.d hp) f1 n1 z⟩⟩
theorem Kv{x1}(h:QPA X K es tl ql)(hz:es.length<=1000:=by decide):QPE X K (.Tuple es x1 pos) (EO tl) (fZ ql):=⟨zK h.h,fun dl H σ q Q R rd hq k=>h.s dl H σ q _ _ rd hq fun vs ts F H1 e1 r1 l1 z =>
 ⟨Nat.le_of_lt (aA (by omega)),fun p hp=>k _ _ F _ (e1.new hp) (r1.tup e1.d hp) z⟩⟩
theorem a8(h:xt X K es tl ql)(hz:es.length<=1000:=by decide):QPF X K (.List es pos) (QV tl) (F8 ql):=⟨OM h.h,fun dl H σ q Q R rd hq k=>h.s dl H σ q _ _ rd hq fun vs ts F H1 e1 r1 l1 f1 n1 z =>
 ⟨Nat.le_of_lt (aA (by omega)),fun p hp=>k _ _ (p::F) _ (e1.new hp) (r1.lst e1.d hp) (fun b hb=>by
  rcases List.mem_cons.mp hb with e|hb
  ·rw[e];exact e1.free hp
  ·exact f1 b hb) (r1.fresh hp n1) z⟩⟩
theorem v9(h:strsOf es=some ws)(hl:es.length=ws.length:=by rfl):xt X K es (fun _ H Q=>Q (ws.map V.str) H) (fun _ Q=>Q (ws.map T.s)) :=
 ⟨BR h,fun dl H σ q Q R rd hq k=>k _ _ [] H (.refl rd.d) ⟨lI ws,fun _ z=>nomatch z⟩ (by rw[List.length_map];exact hl.symm) (fun _ z=>nomatch z) List.nodup_nil hq⟩
def qIx:Q2:=fun t u Q=>match u with
 | .i k=>match t with
  | .l xs=>∃ x,atI xs k=some x/\Q x
  | .t xs=>∃ x,atI xs k=some x/\Q x
  | .z ns=>∃ x,atI ns k=some x/\Q (.i x)
  | .s z=>z.length<=sizeLine/\∃ c,atI z.cps.toList k=some c/\Q (.s ⟨#[c]⟩)
  | _=>False
 | _=>False
theorem q5{α β:Type}{xs:List α}{ys:List β}{k:Int}{x:α}(h:atI xs k=some x)(hl:xs.length=ys.length):∃ j:Nat,xs[j]? = some x/\ixN ys.length k=some j:=by
 unfold atI at h;cases e:ixN xs.length k with
 | none=>rw[e]at h;cases h
 | some j=>rw[e]at h;exact⟨j,h,by rw[<- hl];exact e⟩
theorem tY{α:Type}{xs:List α}{k:Int}{x:α}(h:ixN xs.length k=some j)(hx:xs[j]? = some x):atI xs k=some x:=by unfold atI;rw[h];exact hx
theorem N0:Iv K (rIx K) qIx:=by
 intro dl H x y t u F G Q R D r1 r2 hq k;unfold qIx at hq
 split at hq
 ·rename_i k0;obtain⟨rfl,rfl⟩:=r2.r.int
  split at hq
  ·obtain⟨p,vs,G,rfl,rfl,h1,h2⟩:=r1.r.lst;obtain⟨z,hz,hq⟩:=hq;obtain⟨j,hj,hi⟩:=q5 hz h2.len.symm;obtain⟨v,G',hv,rv,hs⟩:=h2.get hj;exact .inl ⟨p,vs,k0,v,rfl,rfl,SqL.of h1,tY hi hv,k v z G' H (.refl D) (Rp.sub rv r1.n fun b hb=>List.mem_cons_of_mem _ (hs b hb)) hq⟩
  ·obtain⟨p,vs,rfl,h1,h2⟩:=r1.r.tup;obtain⟨z,hz,hq⟩:=hq;obtain⟨j,hj,hi⟩:=q5 hz h2.len.symm;obtain⟨v,G',hv,rv,hs⟩:=h2.get hj;exact .inr (.inl ⟨p,vs,k0,v,rfl,rfl,SqT.of h1,tY hi hv,k v z G' H (.refl D) (Rp.sub rv r1.n hs) hq⟩)
  ·obtain⟨p,rfl,h1,_⟩:=r1.r.scr;obtain⟨z,hz,hq⟩:=hq;refine .inl ⟨p,_,k0,.int z,rfl,rfl,h1.sq,?_,k _ _ [] H (.refl D) (.c (.i _)) hq⟩;obtain⟨j,hj,hi⟩:=q5 (ys:=(_:List Int).map V.int) hz (by rw[List.length_map])
   exact tY hi (by rw[List.getElem?_map,hj];rfl)
  ·obtain⟨rfl,rfl⟩:=r1.r.str;obtain⟨hl,c,hc,hq⟩:=hq;exact .inr (.inr ⟨_,k0,c,rfl,rfl,hl,hc,k _ _ [] H (.refl D) (.c (.s _)) hq⟩)
  ·exact hq.elim
 ·exact hq.elim
theorem aq(ha:QPE X K a ta qa)(hb:QPE X K b tb qb)(hs:nM b:=by intro _ _;rfl)(hK:X.K=K:=by rfl):QPE X K (.Subscript a b pos) (tOp (rIx K) ta tb) (qOp qIx qa qb):=⟨by subst hK;exact yb Hg ha.h hb.h hs,vO N0 ha.s hb.s⟩
end
variable{dl:Dl}{H:Hp}{F:List Addr}{prog:Program}{A:Around}{E:Value->Shared->Prop}{items:Array Value}{Q:Value->Shared->Prop}{p2:Pos}{n:Nat}{r:List V->Hp->VK->Prop}{id:String}
section
variable{X:Cx}{K:W.Frag}{a b c e:Expr}{es rest:List Expr}{ta tb tc te:TE}{qa qb qc qe:QE}{tA tB:TT}{qA qB:QT}{tl:TA}{ql:QA}{pos p:Pos}
abbrev QO:=Sq ->(Option Int->Prop)->Prop
def VU(K:W.Frag)(t:TO)(tq:QO):Prop:=∀(dl:Dl)(H:Hp)(σ:St)(q:Sq)(Q:Option Int->Prop)(R:Option Int->Hp->Prop),RdR K dl H σ q->tq q Q ->(∀ o H',Evo dl H H'->Q o->R o H')->t σ H R
structure QPO(X:Cx)(K:W.Frag)(e:Option Expr)(t:TO)(tq:QO):Prop where
 h:PO X e t
 s:VU K t tq
theorem c9:QPO X K none Bh (fun _ Q=>Q none):=⟨KR,fun _ _ _ _ _ _ rd hq k=>k none _ (.refl rd.d) hq⟩
theorem c8(h:QPE X K e te qe):QPO X K (some e) (MA te) (fun q Q=>qe q fun t=>match t with | .i x=>Q (some x) | _=>False):=⟨wj h.h,fun dl H σ q Q R rd hq k=>h.s dl H σ q _ _ rd hq fun v t F H' e r hz=>by
 split at hz
 ·obtain⟨rfl,rfl⟩:=r.r.int;exact⟨_,rfl,k _ H' e hz⟩
 ·exact hz.elim⟩
def dI{α:Type}(xs:List α)(lo hi:Option Int):List α:=(xs.drop (HT.sIx xs.length 0 lo)).take (HT.sIx xs.length xs.length hi - HT.sIx xs.length 0 lo)
theorem aw.cut{vs:List V}{ts:List T}(lo hi:Option Int)(h:aw K dl H vs ts F):∃ G,aw K dl H (md vs lo hi) (dI ts lo hi) G/\G.Sublist F:=by
 unfold md dI;rw[h.len];obtain⟨G,h1,s1⟩:=h.drop (HT.sIx ts.length 0 lo);obtain⟨G2,h2,s2⟩:=h1.take (HT.sIx ts.length ts.length hi - HT.sIx ts.length 0 lo);exact⟨G2,h2,s2.trans s1⟩
theorem kB{w:World}{s:Shared}{t sl:Addr}{vl vu:Value}{lo hi:Option Int}(ht:IsTup s.heap t items)(hs:s.heap.IsSliceOf sl vl vu .none)(pl:IsPart vl lo)(pu:IsPart vu hi)
  (hw:HT.sIx items.size 0 lo=0/\HT.sIx items.size items.size hi=items.size)
  (h:Q (.ref t) s):wpAny (model prog w) A (getItem (.ref t) (.ref sl)) Q E s:=by
 obtain⟨os,hos,hcs,hds⟩:=id hs;have hTs:s.TypeIs (.ref sl) "slice":=⟨os,hos,hcs⟩;have hT:=ht.typeIs;unfold getItem
 try with_reducible refine wpAny_holding ?_
 first|refine wpAny_bind (wpAny_pure ?_)|skip
 refine wpAny_bind (wpAny_sequenceKey ht.typeIs (by decide) ?_)
 refine wpAny_bind (wpAny_callSpecial?_slot (name:=Str.ofString "__getitem__") ht.typeIs PyProof.Rows.slot_tuple_getitem
  (wpAny_call_entry PyProof.Rows.slot_tuple_getitem ht.typeIs entry_tuple_getitem ?_ (args_tuple_getitem _ _)))
 show wpAny _ _ (Builtin.Tuple.tupleItemsOf (.ref t) >>= _) _ _ s;refine wpAny_bind (tupleItemsOf_ ht ?_);refine wpAny_bind (wpAny_typeOf hTs ?_);rw[if_pos (by decide)]
 refine wpAny_bind (HT.gw hs pl pu ?_);have hy:(((HT.sIx items.size 0 lo:Nat):Int)==0&&(1:Int)==1&&(HT.sIx items.size items.size hi - HT.sIx items.size 0 lo)==items.size)=true:=by
  rw[hw.1,hw.2];simp
 show wpAny _ _ (if(((HT.sIx items.size 0 lo:Nat):Int)==0&&(1:Int)==1&&(HT.sIx items.size items.size hi - HT.sIx items.size 0 lo)==items.size)=true then _ else _) _ _ s
 rw[if_pos hy];unfold Builtin.Tuple.tupleIsExact
 first
  | exact wpAny_bind (wpAny_bind (wpAny_typeOf hT (wpAny_pure (by rw[if_pos (by decide)];exact wpAny_bind (wpAny_rule (wpAny_pure ⟨_,rfl,wpAny_pure h⟩))))))
  | exact wpAny_bind (wpAny_typeOf hT (by rw[if_pos (by decide)];exact wpAny_bind (wpAny_rule (wpAny_pure ⟨_,rfl,wpAny_pure h⟩))))
def Rc(K:W.Frag):V->Option Int->Option Int->Hp->VK->Prop:=fun x lo hi H Q=>∃ a xs,x = .ref a/\SqT K H a xs /\
 ((HT.sIx xs.length 0 lo=0/\HT.sIx xs.length xs.length hi=xs.length)->Q (.ref a) H)/\(¬(HT.sIx xs.length 0 lo=0/\HT.sIx xs.length xs.length hi=xs.length)->∀ p,H p=none->Q (.ref p) (upd H p (.tup (md xs lo hi))))
theorem JQ:SlR X (Rc X.K):=by
 intro gV s σ H x v vl vu lo hi sl Q I rx hs pl pu h;obtain⟨a,xs,rfl,hx,q1,q2⟩:=h;by_cases hw:HT.sIx xs.length 0 lo=0/\HT.sIx xs.length xs.length hi=xs.length
 ·cases rx;obtain⟨its,r,ht,hz⟩:=I.tuple hx;have hlen:its.toArray.size=xs.length:=by rw[List.size_toArray];exact r.length.symm
  exact⟨"tuple",_,PyProof.Rows.slot_tuple_getitem.lookup,ht.typeIs,kB ht hs pl pu (by rw[hlen];exact hw) ⟨.ref a,H,I,rfl,q1 hw⟩⟩
 ·exact NV gV s σ H _ v vl vu lo hi sl Q I rx hs pl pu ⟨a,xs,rfl,hx,hw,q2 hw⟩
theorem D5{α:Type}{xs:List α}{lo hi:Option Int}(h:HT.sIx xs.length 0 lo=0/\HT.sIx xs.length xs.length hi=xs.length):dI xs lo hi=xs:=by
 unfold dI;rw[h.1,h.2];simp
def Rh(K:W.Frag):V->Option Int->Option Int->Hp->VK->Prop:=fun x lo hi H Q=>Rg K x lo hi H Q\/Rc K x lo hi H Q\/Rf x lo hi H Q
theorem UY(hK:X.K=K):SlR X (Rh K):=by subst hK;exact Bm.or (JQ.or NW)
def qSl(qe:QE)(l u:QO):QE:=fun q Q=>qe q fun t=>l q fun lo=>u q fun hi=>match t with
 | .l xs=>T.ims xs=true/\Q (.l (dI xs lo hi))
 | .t xs=>T.ims xs=true/\Q (.t (dI xs lo hi))
 | .z ns=>Q (.l ((dI ns lo hi).map T.i))
 | .s z=>z.length<=sizeLine/\Q (.s (Txt.slice z lo hi))
 | _=>False
theorem cA{l u:Option Expr}{tlo thi:TO}{qlo qhi:QO}(he:QPE X K e te qe)(hl:QPO X K l tlo qlo)(hu:QPO X K u thi qhi)(hK:X.K=K:=by rfl):QPF X K (.Subscript e (.Slice l u none p2) pos) (tSl (Rh K) te tlo thi) (qSl qe qlo qhi) :=
 ⟨x9 (UY hK) he.h hl.h hu.h,fun dl H σ q Q R rd hq k=>he.s dl H σ q _ _ rd hq fun v t F H1 e1 r1 hz=>hl.s dl H1 σ q _ _ (rd.evo e1) hz fun lo H2 e2 hz=>hu.s dl H2 σ q _ _ ((rd.evo e1).evo e2) hz fun hi H3 e3 hz=>by
  have r3:=(r1.evo e1.d e2).evo e2.d e3;have E3:=(e1.trans e2).trans e3;have no:∀ b:Addr,b∈([]:List Addr)->H b=none:=fun _ z=>nomatch z
  split at hz
  ·obtain⟨p,vs,G,rfl,rfl,h1,h2⟩:=r3.r.lst;obtain rfl:=h2.im hz.1;obtain⟨G,h3,s3⟩:=h2.cut lo hi;obtain rfl:G = []:=List.sublist_nil.mp s3;refine .inl ⟨p,vs,rfl,SqL.of h1,fun p hp=>?_⟩
   have rs:Rps K dl H3 (md vs lo hi) _ []:=⟨h3,fun c hc=>nomatch hc⟩
   exact k _ _ _ _ (E3.new hp) (rs.lst e3.d hp) (fun b hb=>by rw[List.mem_singleton.mp hb];exact E3.free hp) (by simp) hz.2
  ·obtain⟨p,vs,rfl,h1,h2⟩:=r3.r.tup;obtain rfl:=h2.im hz.1;obtain⟨G,h3,s3⟩:=h2.cut lo hi;obtain rfl:G = []:=List.sublist_nil.mp s3;refine .inr (.inl ⟨p,vs,rfl,SqT.of h1,fun hw=>?_,fun _ p hp=>?_⟩)
   ·refine k _ _ _ _ E3 r3 no List.nodup_nil ?_;rw[h2.len]at hw;have hq2:=hz.2;rw[D5 hw]at hq2;exact hq2
   ·have rs:Rps K dl H3 (md vs lo hi) _ []:=⟨h3,fun c hc=>nomatch hc⟩
    exact k _ _ _ _ (E3.new hp) (rs.tup e3.d hp) no List.nodup_nil hz.2
  ·rename_i ns _ _;obtain⟨p,rfl,h1,_⟩:=r3.r.scr;refine .inl ⟨p,_,rfl,h1.sq,fun p hp=>?_⟩
   have e:md (ns.map V.int) lo hi =(dI ns lo hi).map V.int:=by unfold md dI;rw[List.length_map,<- List.map_drop,<- List.map_take]
   rw[e];have rs:Rps K dl H3 ((dI ns lo hi).map V.int) ((dI ns lo hi).map T.i) []:=⟨rV _,fun c hc=>nomatch hc⟩
   exact k _ _ _ _ (E3.new hp) (rs.lst e3.d hp) (fun b hb=>by rw[List.mem_singleton.mp hb];exact E3.free hp) (by simp) hz
  ·obtain⟨rfl,rfl⟩:=r3.r.str;exact .inr (.inr ⟨_,rfl,hz.1,k _ _ [] H3 E3 (.c (.s _)) no List.nodup_nil hz.2⟩)
  ·exact hz.elim⟩
abbrev QC:=List T ->(T->Prop)->Prop
def t6(K:W.Frag)(r:List V->Hp->VK->Prop)(rq:QC):Prop:=∀(dl:Dl)(H:Hp)(vs:List V)(ts:List T)(F:List Addr)(Q:T->Prop)(R:V->Hp->Prop),Dls dl H->Rps K dl H vs ts F->rq ts Q ->
 (∀ v z F' H',Evo dl H H'->Rp K dl H' v z F' ->(∀ b∈F',H b=none)->F'.Nodup->Q z->R v H')->r vs H R
def qCB(rq:QC)(ql:QA):QE:=fun q Q=>ql q fun ts=>rq ts Q
theorem Fh{rq:QC}(h:t6 K r rq)(hl:Mu K n tl ql):kE K (tCB r tl) (qCB rq ql):=fun dl H σ q Q R rd hq k=>hl dl H σ q _ _ rd hq fun vs ts F H1 e1 r1 _ hz =>
 h dl H1 vs ts F Q R e1.d r1 hz fun v z F' H2 e2 r2 f2 n2 hz=>k v z F' H2 (e1.trans e2) r2 (fun b hb=>e1.free (f2 b hb)) n2 hz
theorem gD{rq:QC}(hc:cj X (.builtin id) r)(hs:t6 K r rq)(hg:Gl X x)(hm:X.mg x=none)(hv:bootBuiltins x=some (.builtin id))(ha:QPA X K (e::es) tl ql)(hn:x ≠ "__name__":=by decide)(hdb:(x ==("__debug__":Str))=false:=by decide)
  (he:starEach (e::es) X.env =(false,eval e X.env)::starEach es X.env:=by rfl) (hpl:(backTo pos (starEach es X.env)).any (·.1)=false:=by rfl):QPF X K (.Call (.Name x p) (e::es) [] pos) (tCB r tl) (qCB rq ql):=⟨jw hc hg hm hv ha.h hn hdb he hpl,Fh hs ha.s⟩
theorem bz{rq:QC}(hc:cj X (.type id) r)(hs:t6 K r rq)(hg:Gl X x)(hm:X.mg x=none)(hv:bootBuiltins x=some (.type id))(ha:QPA X K (e::es) tl ql)(hn:x ≠ "__name__":=by decide)(hdb:(x ==("__debug__":Str))=false:=by decide)
  (he:starEach (e::es) X.env =(false,eval e X.env)::starEach es X.env:=by rfl) (hpl:(backTo pos (starEach es X.env)).any (·.1)=false:=by rfl):QPF X K (.Call (.Name x p) (e::es) [] pos) (tCB r tl) (qCB rq ql):=⟨Dv hc hg hm hv ha.h hn hdb he hpl,Fh hs ha.s⟩
theorem Rps.one{vs:List V}{t:T}(h:Rps K dl H vs [t] F):∃ v,vs = [v]/\Rp K dl H v t F:=by
 obtain⟨r,n⟩:=h;cases r with
 | cons r1 r2 =>
  cases r2;rw[List.append_nil]at n;rw[List.append_nil];exact⟨_,rfl,r1,n⟩
theorem Rps.two{vs:List V}{t u:T}(h:Rps K dl H vs [t,u] F):∃ v w F1 F2,vs = [v,w]/\Rp K dl H v t F1/\Rp K dl H w u F2:=by
 obtain⟨r,n⟩:=h;cases r with
 | cons r1 r2 =>
  obtain⟨w,rfl,h2⟩:=Rps.one ⟨r2,fun b hb=>n b (List.mem_append_right _ hb)⟩
  exact⟨_,w,_,_,rfl,⟨r1,fun b hb=>n b (List.mem_append_left _ hb)⟩,h2⟩
def FG(K:W.Frag):List V->Hp->VK->Prop:=fun xs H Q=>(∃ p ys,xs = [.ref p]/\(SqL K H p ys\/SqT K H p ys)/\Q (.int ys.length) H)\/(∃ z,xs = [.str z]/\z.length<=sizeLine/\Q (.int z.length) H)\/∃ a kvs,xs = [V.ref a]/\H a=some (.dK kvs)/\Q (.int kvs.length) H
theorem Ef(hK:X.K=K):cj X (.builtin "len") (FG K):=by subst hK;exact nE.or (xi.or Ee)
def oH:QC:=fun ts Q=>match ts with
 | [.l xs]=>Q (.i xs.length)
 | [.t xs]=>Q (.i xs.length)
 | [.z xs]=>Q (.i xs.length)
 | [.d xs]=>Q (.i xs.length)
 | [.s x]=>x.length<=sizeLine/\Q (.i x.length)
 | _=>False
theorem J3:t6 K (FG K) oH:=by
 intro dl H vs ts F Q R D r hq k;have fin:∀ n:Nat,Q (.i n)->R (.int n) H:=fun n hq=>k _ _ [] H (.refl D) (.c (.i _)) (fun _ z=>nomatch z) List.nodup_nil hq
 unfold oH at hq
 split at hq
 ·obtain⟨v,rfl,r'⟩:=r.one;obtain⟨p,vs,G,rfl,_,h1,h2⟩:=r'.r.lst;exact .inl ⟨p,vs,rfl,.inl (SqL.of h1),fin _ (by rw[h2.len];exact hq)⟩
 ·obtain⟨v,rfl,r'⟩:=r.one;obtain⟨p,vs,rfl,h1,h2⟩:=r'.r.tup;exact .inl ⟨p,vs,rfl,.inr (SqT.of h1),fin _ (by rw[h2.len];exact hq)⟩
 ·obtain⟨v,rfl,r'⟩:=r.one;obtain⟨p,rfl,h1,_⟩:=r'.r.scr;exact .inl ⟨p,_,rfl,.inl h1.sq,fin _ (by rw[List.length_map];exact hq)⟩
 ·obtain⟨v,rfl,r'⟩:=r.one;obtain⟨p,vs,G,rfl,_,h1,h2⟩:=r'.r.dic;exact .inr (.inr ⟨p,vs,rfl,h1,fin _ (by rw[h2.len];exact hq)⟩)
 ·obtain⟨v,rfl,r'⟩:=r.one;obtain⟨rfl,_⟩:=r'.r.str;exact .inr (.inl ⟨_,rfl,hq.1,fin _ hq.2⟩)
 ·exact hq.elim
def qI2(g:Int->Int->Int):QC:=fun ts Q=>match ts with
 | [.i a,.i b]=>Q (.i (g a b))
 | _=>False
theorem Fe{g:Int->Int->Int}:t6 K (fun xs H Q=>∃ i j,xs = [.int i,.int j]/\Q (.int (g i j)) H) (qI2 g):=by
 intro dl H vs ts F Q R D r hq k;unfold qI2 at hq
 split at hq
 ·obtain⟨v,w,F1,F2,rfl,r1,r2⟩:=r.two;obtain⟨rfl,_⟩:=r1.r.int;obtain⟨rfl,_⟩:=r2.r.int;exact⟨_,_,rfl,k _ _ [] H (.refl D) (.c (.i _)) (fun _ z=>nomatch z) List.nodup_nil hq⟩
 ·exact hq.elim
def FZ:QC:=fun ts Q=>match ts with
 | [.l xs]=>T.ims xs=true/\Q (.t xs)
 | [.t xs]=>T.ims xs=true/\Q (.t xs)
 | _=>False
theorem cp(hK:X.K=K):cj X (.type "tuple") (fun xs H Q=>∃ p ys,xs = [.ref p]/\((SqL K H p ys/\∀ l,H l=none->Q (.ref l) (upd H l (.tup ys)))\/(SqT K H p ys/\Q (.ref p) H))):=by subst hK;exact uL
theorem ck:t6 K (fun xs H Q=>∃ p ys,xs = [.ref p]/\((SqL K H p ys/\∀ l,H l=none->Q (.ref l) (upd H l (.tup ys)))\/(SqT K H p ys/\Q (.ref p) H))) FZ:=by
 intro dl H vs ts F Q R D r hq k;have no:∀ b:Addr,b∈([]:List Addr)->H b=none:=fun _ z=>nomatch z
 unfold FZ at hq
 split at hq
 ·obtain⟨v,rfl,r'⟩:=r.one;obtain⟨p,vs,G,rfl,rfl,h1,h2⟩:=r'.r.lst;obtain rfl:=h2.im hq.1;refine⟨p,vs,rfl,.inl ⟨SqL.of h1,fun l hl=>?_⟩⟩
  have rs:Rps K dl H vs _ []:=⟨h2,fun c hc=>nomatch hc⟩
  exact k _ _ _ _ ((Evo.refl D).new hl) (rs.tup D hl) no List.nodup_nil hq.2
 ·obtain⟨v,rfl,r'⟩:=r.one;obtain⟨p,vs,rfl,h1,h2⟩:=r'.r.tup;obtain rfl:=h2.im hq.1;exact⟨p,vs,rfl,.inr ⟨SqT.of h1,k _ _ [] H (.refl D) r' no List.nodup_nil hq.2⟩⟩
 ·exact hq.elim
def F4:QC:=fun ts Q=>match ts with
 | [.l xs]=>T.ims xs=true/\Q (.l xs)
 | [.t xs]=>T.ims xs=true/\Q (.l xs)
 | _=>False
theorem Ed(hK:X.K=K):cj X (.type "list") (fun xs H Q=>∃ p ys,xs = [.ref p]/\(SqL K H p ys\/SqT K H p ys)/\∀ l,H l=none->Q (.ref l) (upd H l (.lst ys))):=by subst hK;exact xh
theorem De:t6 K (fun xs H Q=>∃ p ys,xs = [.ref p]/\(SqL K H p ys\/SqT K H p ys)/\∀ l,H l=none->Q (.ref l) (upd H l (.lst ys))) F4:=by
 intro dl H vs ts F Q R D r hq k;unfold F4 at hq
 split at hq
 ·obtain⟨v,rfl,r'⟩:=r.one;obtain⟨p,vs,G,rfl,rfl,h1,h2⟩:=r'.r.lst;obtain rfl:=h2.im hq.1;refine⟨p,vs,rfl,.inl (SqL.of h1),fun l hl=>?_⟩
  have rs:Rps K dl H vs _ []:=⟨h2,fun c hc=>nomatch hc⟩
  exact k _ _ _ _ ((Evo.refl D).new hl) (rs.lst D hl) (fun b hb=>by rw[List.mem_singleton.mp hb];exact hl) (by simp) hq.2
 ·obtain⟨v,rfl,r'⟩:=r.one;obtain⟨p,vs,rfl,h1,h2⟩:=r'.r.tup;obtain rfl:=h2.im hq.1;refine⟨p,vs,rfl,.inr (SqT.of h1),fun l hl=>?_⟩
  have rs:Rps K dl H vs _ []:=⟨h2,fun c hc=>nomatch hc⟩
  exact k _ _ _ _ ((Evo.refl D).new hl) (rs.lst D hl) (fun b hb=>by rw[List.mem_singleton.mp hb];exact hl) (by simp) hq.2
 ·exact hq.elim
def picks{α:Type}(f:T->Option α):List T->Option (List α)
 | []=>some []
 | t::r=>(f t).bind fun a=>(picks f r).map (a :: ·)
theorem aw.picks{dl:Dl}{H:Hp}{α:Type}{f:T->Option α}{g:α->V}(hf:∀(v:V)(t:T)(F:List Addr)(a:α),aE K dl H v t F->f t=some a->v=g a){vs:List V}{ts:List T}{F:List Addr}(h:aw K dl H vs ts F):∀{bs:List α},L2.picks f ts=some bs->vs=bs.map g :=
 h.ind (M:=fun vs ts _=>∀{bs:List α},L2.picks f ts=some bs->vs=bs.map g) (fun e=>by cases e;rfl) fun v t vs ts F G h _ ih bs e=>by
  obtain⟨a,e1,e2⟩:=Option.bind_eq_some_iff.mp e;obtain⟨as,e3,rfl⟩:=Option.map_eq_some_iff.mp e2;rw[hf v t F a h e1,ih e3];rfl
def asB:T->Option Bool
 | .b x=>some x
 | _=>none
abbrev bls:List T->Option (List Bool):=picks asB
theorem aw.bls{dl:Dl}{H:Hp}{vs:List V}{ts:List T}{F:List Addr}{bs:List Bool}(h:aw K dl H vs ts F)(e:L2.bls ts=some bs):vs=bs.map V.bl :=
 h.picks (f:=asB) (fun v t F a h e=>by cases t <;> first |(cases e;exact h.bl.1)|cases e) e
theorem Mj(bs:List Bool):bls (bs.map T.b)=some bs:=by
 induction bs with
 | nil=>rfl
 | cons b r ih=>show(bls (r.map T.b)).map (b :: ·)=_;rw[ih];rfl
def T.tyN:T->Option String
 | .n=>some "NoneType" | .b _=>some "bool" | .i _=>some "int" | .s _=>some "str" | .l _=>some "list" | .q=>some "list" | .t _=>some "tuple" | .d _=>some "dict" | _=>none
theorem aE.UT{v:V}{t:T}{n:String}(h:aE K dl H v t F)(e:t.tyN=some n):kD K H v (.type n):=by
 cases h <;> first |(cases e;constructor;assumption) |(cases e;constructor;done) |(cases e;done)
theorem vv(hK:X.K=K):cj X (.builtin "isinstance") (fun xs H Q=>∃ x T t b,xs = [x,.ty T]/\kD K H x t/\W.kitOne K t (.type T)=some b/\Q (.bl b) H):=by subst hK;exact Ig
def Si(a b:String):Bool:=a==b ||(a == "bool" && b == "int")
def Rx:QC:=fun ts Q=>match ts with
 | [t,.ty n]=>match t.tyN with
  | some m=>(n == "tuple" || n == "list" || n == "str" || n == "int" || n == "bool" || n == "dict")=true/\Q (.b (Si m n))
  | none=>False
 | _=>False
theorem Ly{n m:String}(h:(n == "tuple" || n == "list" || n == "str" || n == "int" || n == "bool" || n == "dict")=true)(hm:m ∈ ["NoneType","bool","int","str","list","tuple","dict"]):W.kitOne K (.type m) (.type n)=some (Si m n):=by
 simp only[Bool.or_eq_true,beq_iff_eq]at h;simp only[List.mem_cons,List.not_mem_nil,or_false]at hm;rcases h with((((rfl|rfl)|rfl)|rfl)|rfl)|rfl <;> rcases hm with rfl|rfl|rfl|rfl|rfl|rfl|rfl <;> rfl
theorem JJ{t:T}{m:String}(h:t.tyN=some m):m ∈ ["NoneType","bool","int","str","list","tuple","dict"]:=by
 cases t <;> cases h <;> decide
theorem Bq:t6 K (fun xs H Q=>∃ x T t b,xs = [x,.ty T]/\kD K H x t/\W.kitOne K t (.type T)=some b/\Q (.bl b) H) Rx:=by
 intro dl H vs ts F Q R D r hq k;unfold Rx at hq
 split at hq
 ·obtain⟨v,w,F1,F2,rfl,r1,r2⟩:=r.two;have e:=r2.r.tyy;subst e
  split at hq
  ·rename_i m em;exact⟨v,_,_,_,rfl,r1.r.UT em,Ly hq.1 (JJ em),k _ _ [] H (.refl D) (.c (.b _)) (fun _ z=>nomatch z) List.nodup_nil hq.2⟩
  ·exact hq.elim
 ·exact hq.elim
end
structure jb where
 nx:Sq->Prop
 rt:T->Prop
 bk:Sq->Prop:=fun _=>False
 ct:Sq->Prop:=fun _=>False
abbrev QS:=jb->Sq->Prop
structure Frm(dl:Dl)(H₀ H:Hp):Prop where
 k:∀ b o,H₀ b=some o->Nd dl b->NR o->H b=some o
 r:∀ a x,H₀ a=some (.room x)->∃ y,y<=x/\H a=some (.room y)
variable{H₀:Hp}
theorem Frm.evo(f:Frm dl H₀ H)(D:Dls dl H):Evo dl H₀ H:=⟨f.k,D,f.r⟩
theorem Frm.refl:Frm dl H H:=⟨fun _ _ h _ _=>h,fun _ x h=>⟨x,Int.le_refl _,h⟩⟩
variable{H':Hp}
theorem Frm.trans(f:Frm dl H₀ H)(e:Evo dl H H'):Frm dl H₀ H':=⟨fun b o h n r=>e.k b o (f.k b o h n r) n r,fun a x h=>let⟨y,hy,h1⟩:=f.r a x h;let⟨z,hz,h2⟩:=e.r a y h1;⟨z,Int.le_trans hz hy,h2⟩⟩
structure Rel(K:W.Frag)(dl:Dl)(H₀:Hp)(hs:List (V×T))(H:Hp)(σ:St)(q:Sq)(F:Nat->List Addr):Prop where
 d:Dls dl H
 g:∀(i:Nat)(x:Sl)(t:T),q[i]? = some x->x.get=some t->∃ v,σ[i]? = some (some v)/\Rp K dl H v t (F i)
 n:∀(i:Nat)(x:Sl),q[i]? = some x->x.get=none->F i = []
 z:∀(i:Nat),q.length<=i->F i = []
 o:∀(i:Nat)(t:T),q[i]? = some (.o t) ->(F i).Nodup/\(∀ b∈F i,H₀ b=none)/\(∀ j,j≠i->∀ b∈F i,b ∉ F j)
 h:∀ p∈hs,∃ Fp,Rp K dl H p.1 p.2 Fp/\∀(i:Nat)(t:T),q[i]? = some (.o t)->∀ b∈F i,b ∉ Fp
 f:Frm dl H₀ H
 l:q.length=σ.length
def dR(K:W.Frag)(dl:Dl)(H₀:Hp)(hs:List (V×T))(H:Hp)(σ:St)(q:Sq):Prop:=∃ F,Rel K dl H₀ hs H σ q F
def nI(H:Hp)(b:Addr):Prop:=(∃ xs,H b=some (.lst xs))\/∃ ks,H b=some (.dK ks)
theorem nI.no{b:Addr}(h:nI H b)(e:H b=none):False:=by
 rcases h with⟨_,h⟩ |⟨_,h⟩
 ·rw[e]at h;cases h
 ·rw[e]at h;cases h
variable{F':List Addr}{o:HO}
section
variable{X:Cx}{K:W.Frag}{hs:List (V×T)}{σ:St}{q:Sq}{F:Nat->List Addr}
theorem Rel.rd(r:Rel K dl H₀ hs H σ q F):RdR K dl H σ q:=⟨r.d,fun i x t h1 h2=>let⟨v,e,p⟩:=r.g i x t h1 h2;⟨v,F i,e,p⟩⟩
theorem Rel.fz(r:Rel K dl H₀ hs H σ q F){b:Addr}(h:H b=none):H₀ b=none:=by
 exact(r.f.evo r.d).free h
theorem Rel.lG(r:Rel K dl H₀ hs H σ q F){i:Nat}{b:Addr}(hb:b∈F i):nI H b:=by
 by_cases hi:i<q.length
 ·have e:q[i]? = some q[i]:=by simp[hi]
  cases ex:q[i].get with
  | none=>rw[r.n i _ e ex]at hb;cases hb
  | some t =>
   obtain⟨v,_,p⟩:=r.g i _ t e ex;exact p.r.there b hb
 ·rw[r.z i (by omega)]at hb;cases hb
theorem Rel.evo(r:Rel K dl H₀ hs H σ q F)(e:Evo dl H H'):Rel K dl H₀ hs H' σ q F where
 d:=e.d
 g:=fun i x t h1 h2=>let⟨v,e1,p⟩:=r.g i x t h1 h2;⟨v,e1,p.evo r.d e⟩
 n:=r.n
 z:=r.z
 o:=r.o
 h:=fun p hp=>let⟨Fp,h1,h2⟩:=r.h p hp;⟨Fp,h1.evo r.d e,h2⟩
 f:=r.f.trans e
 l:=r.l
def xM(F:Nat->List Addr)(i:Nat)(x:List Addr):Nat->List Addr:=fun j=>if j=i then x else F j
theorem aX{i:Nat}{x:List Addr}:xM F i x i=x:=if_pos rfl
theorem aP{i:Nat}{x:List Addr}(h:j≠i):xM F i x j=F j:=if_neg h
theorem get_set{α:Type}{xs:List α}{i:Nat}{x y:α}(h:(xs.set i x)[j]? = some y):(j=i/\y=x/\i<xs.length)\/(j≠i/\xs[j]? = some y):=by
 by_cases e:j=i
 ·subst e;rw[List.getElem?_set_self']at h;by_cases hl:j<xs.length
  ·rw[List.getElem?_eq_getElem hl]at h;exact .inl ⟨rfl,(Option.some.inj h).symm,hl⟩
  ·rw[List.getElem?_eq_none (by omega)]at h;cases h
 ·rw[List.getElem?_set_ne (fun z=>e z.symm)]at h
  exact .inr ⟨e,h⟩
theorem Rel.put{i:Nat}{v:V}{t:T}(r:Rel K dl H₀ hs H σ q F)(hi:i<q.length)(e:Evo dl H H')(hv:Rp K dl H' v t F')(hf:∀ b∈F',H b=none)(hn:F'.Nodup):Rel K dl H₀ hs H' (σ.set i (some v)) (q.set i (.o t)) (xM F i F'):=by
 have r':=r.evo e;have out:∀ j,∀ b∈F',b ∉ F j:=fun j b hb hj=>(r.lG hj).no (hf b hb)
 refine⟨e.d,fun j x u h1 h2=>?_,fun j x h1 h2=>?_,fun j hj=>?_,fun j u h1=>?_,fun p hp=>?_,r'.f,by simp[r.l]⟩
 ·rcases get_set h1 with⟨rfl,rfl,_⟩ |⟨ne,h1⟩
  ·cases h2;exact⟨v,by rw[List.getElem?_set_self (by rw[<- r.l];exact hi)],by rw[aX];exact hv⟩
  ·obtain⟨w,h3,h4⟩:=r'.g j x u h1 h2;exact⟨w,by rw[List.getElem?_set_ne (fun z=>ne z.symm)];exact h3,by rw[aP ne];exact h4⟩
 ·rcases get_set h1 with⟨rfl,rfl,_⟩ |⟨ne,h1⟩
  ·cases h2
  ·rw[aP ne];exact r.n j x h1 h2
 ·rw[List.length_set]at hj;rw[aP (by omega)]
  exact r.z j hj
 ·rcases get_set h1 with⟨rfl,_,_⟩ |⟨ne,h1⟩
  ·rw[aX];exact⟨hn,fun b hb=>r.fz (hf b hb),fun k hk b hb=>by rw[aP hk];exact out k b hb⟩
  ·rw[aP ne];obtain⟨o1,o2,o3⟩:=r.o j u h1;refine⟨o1,o2,fun k hk b hb=>?_⟩
   by_cases ek:k=i
   ·subst ek;rw[aX];exact fun z=>out j b z hb
   ·rw[aP ek];exact o3 k hk b hb
 ·obtain⟨Fp,h1,h2⟩:=r.h p hp;refine⟨Fp,h1.evo r.d e,fun j u hj b hb z=>?_⟩
  rcases get_set hj with⟨rfl,_,_⟩ |⟨ne,hj⟩
  ·rw[aX]at hb;exact nI.no (h1.r.there b z) (hf b hb)
  ·rw[aP ne]at hb;exact h2 j u hj b hb z
theorem Rel.KG{i:Nat}{v:V}{t:T}(r:Rel K dl H₀ hs H σ q F)(hi:i<q.length)(hv:Rp K dl H v t F')(hf:∀(j:Nat)(u:T),q[j]? = some (.o u)->j≠i->∀ b∈F j,b ∉ F'):Rel K dl H₀ hs H (σ.set i (some v)) (q.set i (.r t)) (xM F i F'):=by
 refine⟨r.d,fun j x u h1 h2=>?_,fun j x h1 h2=>?_,fun j hj=>?_,fun j u h1=>?_,fun p hp=>?_,r.f,by simp[r.l]⟩
 ·rcases get_set h1 with⟨rfl,rfl,_⟩ |⟨ne,h1⟩
  ·cases h2;exact⟨v,by rw[List.getElem?_set_self (by rw[<- r.l];exact hi)],by rw[aX];exact hv⟩
  ·obtain⟨w,h3,h4⟩:=r.g j x u h1 h2;exact⟨w,by rw[List.getElem?_set_ne (fun z=>ne z.symm)];exact h3,by rw[aP ne];exact h4⟩
 ·rcases get_set h1 with⟨rfl,rfl,_⟩ |⟨ne,h1⟩
  ·cases h2
  ·rw[aP ne];exact r.n j x h1 h2
 ·rw[List.length_set]at hj;rw[aP (by omega)]
  exact r.z j hj
 ·rcases get_set h1 with⟨rfl,e,_⟩ |⟨ne,h1⟩
  ·cases e
  ·rw[aP ne];obtain⟨o1,o2,o3⟩:=r.o j u h1;refine⟨o1,o2,fun k hk b hb=>?_⟩
   have z:=hf j u h1 ne b hb;by_cases ek:k=i
   ·subst ek;rw[aX];exact z
   ·rw[aP ek];exact o3 k hk b hb
 ·obtain⟨Fp,h1,h2⟩:=r.h p hp;refine⟨Fp,h1,fun j u hj b hb z=>?_⟩
  rcases get_set hj with⟨rfl,e,_⟩ |⟨ne,hj⟩
  ·cases e
  ·rw[aP ne]at hb;exact h2 j u hj b hb z
theorem Rel.hold{v:V}{t:T}(r:Rel K dl H₀ hs H σ q F)(hv:Rp K dl H v t F')(hf:∀(j:Nat)(u:T),q[j]? = some (.o u)->∀ b∈F j,b ∉ F'):Rel K dl H₀ ((v,t)::hs) H σ q F :=
 ⟨r.d,r.g,r.n,r.z,r.o,fun p hp=>by
  rcases List.mem_cons.mp hp with e|hp
  ·subst e;exact⟨F',hv,hf⟩
  ·exact r.h p hp,r.f,r.l⟩
theorem Rel.down{i:Nat}{t:T}(r:Rel K dl H₀ hs H σ q F)(hi:q[i]? = some (.o t)):Rel K dl H₀ hs H σ (q.set i (.r t)) F:=by
 refine⟨r.d,fun j x u h1 h2=>?_,fun j x h1 h2=>?_,fun j hj=>r.z j (by rw[List.length_set]at hj;exact hj),fun j u h1=>?_,fun p hp=>?_,r.f,by simp[r.l]⟩
 ·rcases get_set h1 with⟨rfl,rfl,_⟩ |⟨ne,h1⟩
  ·cases h2;exact r.g j _ t hi rfl
  ·exact r.g j x u h1 h2
 ·rcases get_set h1 with⟨rfl,rfl,_⟩ |⟨ne,h1⟩
  ·cases h2
  ·exact r.n j x h1 h2
 ·rcases get_set h1 with⟨rfl,e,_⟩ |⟨ne,h1⟩
  ·cases e
  ·exact r.o j u h1
 ·obtain⟨Fp,h1,h2⟩:=r.h p hp;refine⟨Fp,h1,fun j u hj=>?_⟩
  rcases get_set hj with⟨rfl,e,_⟩ |⟨ne,hj⟩
  ·cases e
  ·exact h2 j u hj
theorem Rel.write{i:Nat}{v:V}{t t':T}{p:Addr}(r:Rel K dl H₀ hs H σ q F)(hi:q[i]? = some (.o t))(hv:σ[i]? = some (some v))(hp:p∈F i)(ho:∀ xs,H p=some (.lst xs)->∃ ys,o = .lst ys)(hr:Rp K dl (upd H p o) v t' F')(hn:F'.Nodup)
  (hf:∀ b∈F',b∈F i\/(H₀ b=none/\(∀ j,b ∉ F j)/\∀ w u Fp,Rp K dl H w u Fp ->(w,u)∈hs->b ∉ Fp)):Rel K dl H₀ hs (upd H p o) σ (q.set i (.o t')) (xM F i F'):=by
 obtain⟨o1,o2,o3⟩:=r.o i t hi;have hil:i<q.length:=(List.getElem?_eq_some_iff.mp hi).1;obtain⟨v',hv',rp⟩:=r.g i _ t hi rfl;have pn:Nd dl p:=rp.n p hp;have pth:=r.lG hp;have tf:TF H (upd H p o):=⟨fun a vs h=>(by
  rw[ai];exact h;intro z;subst z;rcases pth with⟨_,e⟩ |⟨_,e⟩ <;> rw[h]at e <;> cases e),fun a ob u h=>(by
  rw[ai];exact h;intro z;subst z;rcases pth with⟨_,e⟩ |⟨_,e⟩ <;> rw[h]at e <;> cases e),fun a φ h=>(by
  rw[ai];exact h;intro z;subst z;rcases pth with⟨_,e⟩ |⟨_,e⟩ <;> rw[h]at e <;> cases e),fun a xs h=>(by
  by_cases z:a=p
  ·subst z;obtain⟨ys,e⟩:=ho xs h;exact⟨ys,by rw[aj,e]⟩
  ·exact⟨xs,by rw[ai z];exact h⟩),fun a x h=>⟨x,Int.le_refl _,by
  rw[ai];exact h;intro z;subst z;rcases pth with⟨_,e⟩ |⟨_,e⟩ <;> rw[h]at e <;> cases e⟩⟩
 have st:∀{w:V}{u:T}{Fw:List Addr},Rp K dl H w u Fw->p ∉ Fw->Rp K dl (upd H p o) w u Fw:=fun{w u Fw} h np =>
  ⟨h.r.cN tf (fun _ z=>z) fun b hb ob e=>(by
   have ne:b≠p:=by
    intro z;subst z;exact np hb
   rw[ai ne];exact e),h.n⟩
 refine⟨fun d hd=>(r.d d hd).other (pn d hd).1 (pn d hd).2,fun j x u h1 h2=>?_,fun j x h1 h2=>?_,fun j hj=>?_,fun j u h1=>?_,fun w hw=>?_,⟨fun b ob hb nb nr=>?_,fun b x hb=>?_⟩,by simp[r.l]⟩
 ·rcases get_set h1 with⟨rfl,rfl,_⟩ |⟨ne,h1⟩
  ·cases h2;exact⟨v,hv,by rw[aX];exact hr⟩
  ·obtain⟨w,h3,h4⟩:=r.g j x u h1 h2;exact⟨w,h3,by rw[aP ne];exact st h4 (o3 j ne p hp)⟩
 ·rcases get_set h1 with⟨rfl,rfl,_⟩ |⟨ne,h1⟩
  ·cases h2
  ·rw[aP ne];exact r.n j x h1 h2
 ·rw[List.length_set]at hj;rw[aP (by omega)]
  exact r.z j hj
 ·rcases get_set h1 with⟨rfl,e,_⟩ |⟨ne,h1⟩
  ·rw[aX];refine⟨hn,fun b hb=>?_,fun k hk b hb=>?_⟩
   ·rcases hf b hb with z|z
    ·exact o2 b z
    ·exact z.1
   ·rw[aP hk];rcases hf b hb with z|z
    ·exact o3 k hk b z
    ·exact z.2.1 k
  ·rw[aP ne];obtain⟨p1,p2,p3⟩:=r.o j u h1;refine⟨p1,p2,fun k hk b hb=>?_⟩
   by_cases ek:k=i
   ·subst ek;rw[aX];intro z;rcases hf b z with z|z
    ·exact o3 j ne b z hb
    ·exact z.2.1 j hb
   ·rw[aP ek];exact p3 k hk b hb
 ·obtain⟨Fp,h1,h2⟩:=r.h w hw;refine⟨Fp,st h1 (h2 i t hi p hp),fun j u hj b hb z=>?_⟩
  rcases get_set hj with⟨rfl,e,_⟩ |⟨ne,hj⟩
  ·rw[aX]at hb;rcases hf b hb with y|y
   ·exact h2 j t hi b y z
   ·exact y.2.2 w.1 w.2 Fp h1 hw z
  ·rw[aP ne]at hb;exact h2 j u hj b hb z
 ·rw[ai]
  ·exact r.f.k b ob hb nb nr
  ·intro z;subst z;rw[o2 b hp]at hb;cases hb
 ·obtain⟨y,hy,e⟩:=r.f.r b x hb;refine⟨y,hy,?_⟩;rw[ai]
  ·exact e
  ·intro z;subst z;rw[o2 b hp]at hb;cases hb
end
structure Be(K:W.Frag)(dl:Dl)(H₀:Hp)(hs:List (V×T))(Dq:jb)(D:Ends):Prop where
 nx:∀ H σ q,dR K dl H₀ hs H σ q->Dq.nx q->D.nx σ H
 bk:∀ H σ q,dR K dl H₀ hs H σ q->Dq.bk q->D.bk σ H
 ct:∀ H σ q,dR K dl H₀ hs H σ q->Dq.ct q->D.ct σ H
 rt:∀ v t F H,Dls dl H->Rp K dl H v t F ->(∀ b∈F,H₀ b=none)->F.Nodup->Frm dl H₀ H->Dq.rt t->D.rt v H
def nJ(K:W.Frag)(ts:TS)(qs:QS):Prop:=∀(dl:Dl)(H₀:Hp)(hs:List (V×T))(H:Hp)(σ:St)(q:Sq)(Dq:jb)(D:Ends),dR K dl H₀ hs H σ q->qs Dq q->Be K dl H₀ hs Dq D->ts D σ H
structure QPS(X:Cx)(K:W.Frag)(st:Stmt)(ts:TS)(qs:QS):Prop where
 h:PS X st ts
 s:nJ K ts qs
structure nL(X:Cx)(K:W.Frag)(st:List Stmt)(ts:TS)(qs:QS):Prop where
 h:PSs X st ts
 s:nJ K ts qs
variable{q:Sq}{pos':Pos}
section
variable{X:Cx}{K:W.Frag}{st:Stmt}{rest sa sb:List Stmt}{t u:TS}{qt qu:QS}{e c:Expr}{te:TE}{qe:QE}{tc:TT}{qc:QT}{pos:Pos}
def pM:QS:=fun D q=>D.nx q
def fq(t u:QS):QS:=fun D q=>t { D with nx:=u D } q
theorem aN:nL X K [] MB pM:=⟨BF,fun _ _ _ H σ q _ _ r hq E=>E.nx H σ q r hq⟩
theorem ag(h1:QPS X K st t qt)(h2:nL X K rest u qu):nL X K (st::rest) (NG t u) (fq qt qu):=⟨bE h1.h h2.h,fun dl H₀ hs H σ q Dq D r hq E =>
 h1.s dl H₀ hs H σ q _ _ r hq ⟨fun H σ q r' hq'=>h2.s dl H₀ hs H σ q _ _ r' hq' E,E.bk,E.ct,E.rt⟩⟩
theorem ak(h1:QPS X K st t qt):nL X K [st] t qt:=⟨eZ h1.h,h1.s⟩
theorem gB:QPS X K st ER (fun _ _=>False):=⟨Gh,fun _ _ _ _ _ _ _ _ _ hq _=>hq.elim⟩
theorem iw(he:QPE X K e te qe)(hs:swapsWith e none pos.line X.env=pure false:=by rfl):QPS X K (.Expr e pos) (gu te) (fun D q=>qe q fun _=>D.nx q):=⟨kh he.h hs,fun dl H₀ hs H σ q Dq D ⟨F,r⟩ hq E =>
 he.s dl H σ q _ _ r.rd hq fun v t F' H' e1 _ hz=>E.nx H' σ q ⟨F,r.evo e1⟩ hz⟩
theorem aQ(he:QPF X K e te qe):QPS X K (.Return (some e) pos) (NH te) (fun D q=>qe q D.rt):=⟨sf he.h,fun dl H₀ hs H σ q Dq D ⟨F,r⟩ hq E =>
 he.s dl H σ q _ _ r.rd hq fun v t F' H' e1 r1 f1 n1 hz=>E.rt v t F' H' e1.d r1 (fun b hb=>r.fz (f1 b hb)) n1 (r.evo e1).f hz⟩
theorem mR{i:Nat}(he:PE X e (b7 i)):QPS X K (.Return (some e) pos) (NH (b7 i)) (fun D q=>match q[i]? with|some (.o t)=>D.rt t | _=>False):=⟨sf he,fun dl H₀ hs H σ q Dq D ⟨F,r⟩ hq E=>by
 split at hq
 ·rename_i t e1;obtain⟨v,hv,rp⟩:=r.g i _ t e1 rfl;obtain⟨o1,o2,o3⟩:=r.o i t e1;exact⟨v,hv,E.rt v t (F i) H r.d rp o2 o1 r.f hq⟩
 ·exact hq.elim⟩
def wa(c:QT)(t u:QS):QS:=fun D q=>c q fun b=>if b=true then t D q else u D q
theorem a6(hc:QPT X K c tc qc)(ha:nL X K sa t qt)(hb:nL X K sb u qu):QPS X K (.If c sa sb pos) (NL tc t u) (wa qc qt qu):=⟨Gi hc.h ha.h hb.h,fun dl H₀ hs H σ q Dq D ⟨F,r⟩ hq E =>
 hc.s dl H σ q _ _ r.rd hq fun b H' e1 hz=>by
  cases b with
  | true=>exact ha.s dl H₀ hs H' σ q Dq D ⟨F,r.evo e1⟩ hz E
  | false=>exact hb.s dl H₀ hs H' σ q Dq D ⟨F,r.evo e1⟩ hz E⟩
def kA(i:Nat)(qe:QE):QS:=fun D q=>qe q fun t=>D.nx (q.set i (.o t))
theorem Rel.Ov{hs:List (V×T)}{σ:St}{F:Nat->List Addr}{i:Nat}{v:V}{t:T}(r:Rel K dl H₀ hs H σ q F)(e:Evo dl H H')(hv:Rp K dl H' v t F')(hf:∀ b∈F',H b=none)(hn:F'.Nodup):dR K dl H₀ hs H' (σ.set i (some v)) (q.set i (.o t)):=by
 by_cases hi:i<q.length
 ·exact⟨_,r.put hi e hv hf hn⟩
 ·have hl:=r.l;rw[List.set_eq_of_length_le (by omega),List.set_eq_of_length_le (by omega)]
  exact⟨F,r.evo e⟩
theorem Bo{i:Nat}(he:kE K te qe):nJ K (jd te (fG i)) (kA i qe):=fun dl H₀ hs H σ q Dq D ⟨F,r⟩ hq E=>he dl H σ q _ _ r.rd hq fun v t F' H' e1 r1 f1 n1 hz=>E.nx H' _ _ (r.Ov e1 r1 f1 n1) hz
theorem Ob{i:Nat}(hN:X.N.Nodup)(hi:X.N[i]? = some x)(hx:Loc X.env.scope x)(he:QPF X K e te qe)(hs:swapsWith e (some (.Name x pos')) pos.line X.env=pure false:=by rfl)(hf:X.fn x=true\/X.env.scope.names.lookup x=some .local:=by first|exact .inl rfl|exact .inr rfl|assumption) :
  QPS X K (.Assign [.Name x pos'] e pos) (jd te (fG i)) (kA i qe):=⟨iz hN hi hx he.h hs hf,Bo he.s⟩
inductive Te(tb:QS)(D:jb)(W:Nat->Sq->Prop)(m:Nat)(q:Sq):Prop
 | mk(N:Sq->Prop)(less:∀ q',N q'->∃ m',m'<m/\W m' q')(body:tb { D with nx:=N,ct:=N,bk:=D.nx } q)
inductive WhileI(c:QT)(tb:QS)(D:jb)(q:Sq):Prop
 | mk (W:Nat->Sq->Prop) (h0:∃ m,W m q) (turn:∀ m q,W m q->c q fun b=>if b=true then Te tb D W m q else D.nx q)
def Oi(c:QT)(tb:QS):QS:=fun D q=>WhileI c tb D q
theorem rY(hp:PassesOwn (model X.prog X.w) X.A X.env X.xe)(hc:QPT X K c tc qc)(hb:nL X K rest t qt):QPS X K (.While c rest [] pos) (y8 tc t) (Oi qc qt):=⟨x4 hp hc.h hb.h,fun dl H₀ hs H σ q Dq D r hq E=>by
 obtain⟨W,⟨m0,w0⟩,turn⟩:=hq;refine⟨fun m σ H=>∃ q,dR K dl H₀ hs H σ q/\W m q,⟨m0,q,r,w0⟩,?_⟩
 rintro m σ H ⟨q,⟨F,r⟩,w⟩
 refine hc.s dl H σ q _ _ r.rd (turn m q w) fun b H1 e1 hz=>?_
 cases b with
 | false=>exact E.nx H1 σ q ⟨F,r.evo e1⟩ hz
 | true =>
  obtain⟨N,hN,hz⟩:=hz;refine⟨fun σ' H'=>∃ q',dR K dl H₀ hs H' σ' q'/\N q',fun σ' H' ⟨q',r',n'⟩=>?_,?_⟩
  ·obtain⟨m',hm,w'⟩:=hN q' n';exact⟨m',hm,q',r',w'⟩
  ·exact hb.s dl H₀ hs H1 σ q _ _ ⟨F,r.evo e1⟩ hz ⟨fun H σ q r n=>⟨q,r,n⟩,fun H σ q r n=>E.nx H σ q r n,fun H σ q r n=>⟨q,r,n⟩,E.rt⟩⟩
end
abbrev PSp:=List T ->(T->Prop)->Prop
def spQ(K:W.Frag)(ps:PSp):Sp:=fun vs H Q _=>∃(dl:Dl)(ts:List T)(F:List Addr)(Qp:T->Prop),Dls dl H/\Rps K dl H vs ts F/\ps ts Qp /\
 ∀ v t F' H',Evo dl H H'->Rp K dl H' v t F' ->(∀ b∈F',H b=none)->F'.Nodup->Qp t->Q v H'
section
variable{X:Cx}{K:W.Frag}{e:Expr}{es:List Expr}{tl:TA}{ql:QA}{pos p:Pos}{k:Nat}{f:Addr}{fd:FuncData}{prs:List Str}{ps:PSp}
def bS(ps:PSp)(ql:QA):QE:=fun q Q=>ql q fun ts=>ps ts Q
theorem Fi(ha:Mu K n tl ql):kE K (rF (spQ K ps) [] E0 tl) (bS ps ql):=fun dl H σ q Q R rd hq k=>ha dl H σ q _ _ rd hq fun vs ts F H1 e1 r1 _ hz=>by
 show spQ K ps (vs ++ []) H1 R E0;rw[List.append_nil];exact⟨dl,ts,F,Q,e1.d,r1,hz,fun v t F' H' e r f n hz=>k v t F' H' (e1.trans e) r (fun b hb=>e1.free (f b hb)) n hz⟩
theorem KD(F:aU X.prog X.w X.K X.mg X.base CX0 k f fd prs (spQ K ps))(hr:cb k X.A)(hg:Gl X x)(hm:X.mg x=some (.ref f))(hk:W.keepIn X.K (.ref f)=true)(hb:Binds X.K fd prs [])(ha:QPA X K (e::es) tl ql)
  (hdb:(x ==("__debug__":Str))=false:=by decide) (he:starEach (e::es) X.env =(false,eval e X.env)::starEach es X.env:=by rfl) (hpl:(backTo pos (starEach es X.env)).any (·.1)=false:=by rfl) :
  QPF X K (.Call (.Name x p) (e::es) [] pos) (rF (spQ K ps) [] E0 tl) (bS ps ql):=⟨wm F hr hg hm hk hb .nil BQ ha.h hdb he hpl,Fi ha.s⟩
end
theorem oE{K:W.Frag}{vs:List V}{ts:List T}(D:Dls dl H)(r:Rps K dl H vs ts F)(hn:vs.length<=n):dR K dl H [] H (vs.map some++List.replicate (n - vs.length) none) (ts.map Sl.r++List.replicate (n - vs.length) .no):=by
 have hl:=r.r.len;have main:∀{vs:List V}{ts:List T}{F:List Addr},aw K dl H vs ts F ->(∀ b∈F,Nd dl b)->∃ Fs:Nat->List Addr,(∀(i:Nat)(t:T),ts[i]? = some t->∃ v,vs[i]? = some v/\Rp K dl H v t (Fs i))/\∀ i,ts.length<=i->Fs i = []:=by
  intro vs ts F h
  induction ts generalizing vs F with
  | nil=>intro _;exact⟨fun _=>[],fun i t e=>by simp at e,fun _ _=>rfl⟩
  | cons t ts ih =>
   cases h with
   | @cons v0 _ vs0 _ F1 G1 h1 h2 =>
    intro hn;obtain⟨Fs,g1,g2⟩:=ih h2 fun b hb=>hn b (List.mem_append_right _ hb)
    refine⟨fun i=>match i with | 0=>F1|i+1=>Fs i,fun i u e=>?_,fun i hi=>?_⟩
    ·cases i with
     | zero =>
      simp at e;subst e;exact⟨_,by simp,h1,fun b hb=>hn b (List.mem_append_left _ hb)⟩
     | succ i =>
      obtain⟨v,e1,e2⟩:=g1 i u (by simpa using e)
      exact⟨v,by simpa using e1,e2⟩
    ·cases i with
     | zero=>simp at hi
     | succ i=>exact g2 i (by simpa using hi)
 obtain⟨Fs,g1,g2⟩:=main r.r r.n;have lk:∀(i:Nat)(y:Sl),(ts.map Sl.r++List.replicate (n - vs.length) Sl.no)[i]? = some y ->(∃ t,ts[i]? = some t/\y = .r t)\/(ts.length<=i/\y = .no):=fun i y h=>by
  by_cases hi:i<ts.length
  ·rw[List.getElem?_append_left (by simpa using hi),List.getElem?_map,List.getElem?_eq_getElem hi]at h
   exact .inl ⟨ts[i],by simp,(Option.some.inj h).symm⟩
  ·rw[List.getElem?_append_right (by simpa using hi),List.getElem?_replicate]at h
   split at h
   ·exact .inr ⟨by omega,(Option.some.inj h).symm⟩
   ·cases h
 refine⟨Fs,D,fun i y t h1 h2=>?_,fun i y h1 h2=>?_,fun i hi=>?_,fun i t h1=>?_,fun p hp=>(by cases hp),.refl,by simp[hl]⟩
 ·rcases lk i y h1 with⟨u,e,rfl⟩ |⟨_,rfl⟩
  ·cases h2;obtain⟨v,e1,e2⟩:=g1 i t e;refine⟨v,?_,e2⟩;have hi:i<vs.length:=(List.getElem?_eq_some_iff.mp e1).1;rw[List.getElem?_append_left (by simpa using hi),List.getElem?_map,e1]
   rfl
  ·cases h2
 ·rcases lk i y h1 with⟨u,e,rfl⟩ |⟨hi,rfl⟩
  ·cases h2
  ·exact g2 i hi
 ·refine g2 i ?_;simp at hi;omega
 ·rcases lk i _ h1 with⟨u,e,z⟩ |⟨_,z⟩ <;> cases z
variable{P:Program}{mg:Str->Option Value}{base:Heap}{qual:Str}{st:Stmt}{fd:FuncData}{N:List Str}{ps:List Str}
theorem Fun.okQ{w:World}{K:W.Frag}{f:Addr}{k:Nat}{psp:PSp}(F:Fun K x qual st f fd)(S:aH N ps (au st))(len:∀ ts Q,psp ts Q->ts.length=ps.length)
  (fE:∀(cdv:Value)(A:Around)(outer:List Env)(s:Shared)(H:Hp)(E:XK),cb k (A.deeper (envOfC qual (au st) s.heap.objs.size f cdv)) ->
   ∃ t qs,nL (ma CX0 P w K mg base N qual (au st) f cdv A outer s H E).nox K (bA st) t qs/\∀ ts Q,psp ts Q->qs { nx:=fun _=>Q .n,rt:=Q } (ts.map Sl.r++List.replicate (N.length - ts.length) .no)):aU P w K mg base CX0 (k+1) f fd ps (spQ K psp):=by
 have hPN:ps.length<=N.length:=by have:=congrArg List.length S.pre;rw[List.length_take]at this;omega
 refine F.ok S (fun vs H Q E h=>?_) (fun cdv A outer s H vs Q E hr h=>?_)
 ·obtain⟨dl,ts,F,Qp,_,r,h,_⟩:=h;rw[r.r.len];exact len ts Qp h
 ·obtain⟨dl,ts,Fp,Qp,D,r,h,fin⟩:=h;obtain⟨t,qs,hb,hq⟩:=fE cdv A outer s H E hr;refine⟨t,hb.h,?_⟩;have hlen:=len ts Qp h;have hl:=r.r.len;have z:=hq ts Qp h;have R:=oE (n:=N.length) D r (by omega)
  rw[<- hl]at z;refine hb.s dl H [] H _ _ _ _ R z ⟨fun H' σ q ⟨F,r'⟩ hz=>?_,fun _ _ _ _ hz=>hz.elim,fun _ _ _ _ hz=>hz.elim,fun v t F H' D' r' f' n' fr hz=>?_⟩
  ·exact fin .non .n [] H' (r'.f.evo r'.d) ⟨.n,fun _ z=>nomatch z⟩ (fun _ z=>nomatch z) List.nodup_nil hz
  ·exact fin v t F H' (fr.evo D') r' f' n' hz
structure yO(K:W.Frag)(dl:Dl)(J:It)(xs:List T)(hv:List (V×T)):Prop where
 go:∀(H:Hp)(i:Nat),Dls dl H ->(∀ p∈hv,∃ F,Rp K dl H p.1 p.2 F)->i<xs.length->J.go i H
 yld:∀(H:Hp)(i:Nat)(x:T)(fp:V×T->List Addr)(v:V)(H':Hp),Dls dl H ->(∀ p∈hv,Rp K dl H p.1 p.2 (fp p))->xs[i]? = some x->J.yld i H v H'->Evo dl H H'/\∃ F,Rp K dl H' v x F/\∀ b∈F,H b=none\/∃ p∈hv,b∈fp p
 stop:∀(H:Hp),Dls dl H ->(∀ p∈hv,∃ F,Rp K dl H p.1 p.2 F)->J.stop xs.length H
variable{lo:Int}
section
variable{X:Cx}{K:W.Frag}
theorem B8{xs:List T}:yO K dl (Itl K a) xs [(.ref a,.l xs)] where
 go:=fun H i D h hi=>by
  obtain⟨F,r⟩:=h _ (List.mem_singleton.mpr rfl);obtain⟨p,vs,G,e,_,h1,h2⟩:=r.r.lst;cases e;exact⟨vs,vs[i]'(by rw[h2.len];exact hi),SqL.of h1,by simp[h2.len,hi]⟩
 yld:=fun H i x fp v H' D h hx y=>by
  have r:=h _ (List.mem_singleton.mpr rfl);obtain⟨p,vs,G,e,eF,h1,h2⟩:=r.r.lst;cases e;obtain⟨rfl,y⟩:=y;obtain⟨w,G',hw,rw',hs⟩:=h2.get hx;have e2:=y vs (SqL.of h1);rw[hw]at e2;cases e2;have sub:∀ b∈G',b∈fp (V.ref a,T.l xs):=fun b hb=>by
   rw[eF];exact List.mem_cons_of_mem _ (hs b hb)
  exact⟨.refl D,G',⟨rw',fun b hb=>r.n b (sub b hb)⟩,fun b hb=>.inr ⟨_,List.mem_singleton.mpr rfl,sub b hb⟩⟩
 stop:=fun H D h=>by
  obtain⟨F,r⟩:=h _ (List.mem_singleton.mpr rfl);obtain⟨p,vs,G,e,_,h1,h2⟩:=r.r.lst;cases e;exact⟨vs,SqL.of h1,by rw[h2.len];exact Nat.le_refl _⟩
theorem As{xs:List T}:yO K dl (Itt K a) xs [(.ref a,.t xs)] where
 go:=fun H i D h hi=>by
  obtain⟨F,r⟩:=h _ (List.mem_singleton.mpr rfl);obtain⟨p,vs,e,h1,h2⟩:=r.r.tup;cases e;exact⟨vs,vs[i]'(by rw[h2.len];exact hi),SqT.of h1,by simp[h2.len,hi]⟩
 yld:=fun H i x fp v H' D h hx y=>by
  have r:=h _ (List.mem_singleton.mpr rfl);obtain⟨p,vs,e,h1,h2⟩:=r.r.tup;cases e;obtain⟨rfl,y⟩:=y;obtain⟨w,G',hw,rw',hs⟩:=h2.get hx;have e2:=y vs (SqT.of h1);rw[hw]at e2;cases e2;exact⟨.refl D,G',⟨rw',fun b hb=>r.n b (hs b hb)⟩,fun b hb=>.inr ⟨_,List.mem_singleton.mpr rfl,hs b hb⟩⟩
 stop:=fun H D h=>by
  obtain⟨F,r⟩:=h _ (List.mem_singleton.mpr rfl);obtain⟨p,vs,e,h1,h2⟩:=r.r.tup;cases e;exact⟨vs,SqT.of h1,by rw[h2.len];exact Nat.le_refl _⟩
theorem Hj:yO K dl (Itr lo n) ((List.range n).map fun i=>.i (lo+(i:Nat))) [] where
 go:=fun H i D h hi=>by
  show i<n;simpa using hi
 yld:=fun H i x fp v H' D h hx y=>by
  obtain⟨rfl,rfl⟩:=y;rw[List.getElem?_map]at hx;cases e:(List.range n)[i]? with
  | none=>rw[e]at hx;cases hx
  | some j =>
   rw[e]at hx;have hj:j=i:=by
    have:=List.getElem?_eq_some_iff.mp e
    obtain⟨h1,h2⟩:=this;simp at h2;exact h2.symm
   subst hj;cases hx;exact⟨.refl D,[],.c (.i _),fun _ z=>nomatch z⟩
 stop:=fun H D h=>by show n<=_;simp
abbrev QI:=Sq ->(List T->Prop)->Prop
def Ti(K:W.Frag)(wi:TI)(iq:QI):Prop:=∀(dl:Dl)(H:Hp)(σ:St)(q:Sq)(Q:List T->Prop)(R:It->Hp->Prop),RdR K dl H σ q->iq q Q ->
 (∀ xs J hv H',Evo dl H H'->yO K dl J xs hv ->(∀ p∈hv,∃ F,Rp K dl H' p.1 p.2 F)->Q xs->R J H')->wi σ H R
structure QPI(X:Cx)(K:W.Frag)(tg iter:Expr)(wi:TI)(iq:QI):Prop where
 h:PI X tg iter wi
 s:Ti K wi iq
abbrev QJ:=Sq ->(List T->Sq->Prop)->Prop
def VW(K:W.Frag)(wi:TI)(iq:QJ):Prop:=∀(dl:Dl)(H₀:Hp)(hs:List (V×T))(H:Hp)(σ:St)(q:Sq)(Q:List T->Sq->Prop)(R:It->Hp->Prop),dR K dl H₀ hs H σ q->iq q Q ->
 (∀ xs J hv H' q',dR K dl H₀ (hv++hs) H' σ q'->yO K dl J xs hv->Q xs q'->R J H')->wi σ H R
structure QPJ(X:Cx)(K:W.Frag)(tg iter:Expr)(wi:TI)(iq:QJ):Prop where
 h:PI X tg iter wi
 s:VW K wi iq
variable{tg e a b:Expr}{te ta tb:TE}{qe qa qb:QE}{tl:TA}{ql:QA}{pos p:Pos}
theorem x8(hK:X.K=K)(h:PE X e te):PI X tg e (Cg K te):=by subst hK;exact qT h
theorem wk(hK:X.K=K)(h:PE X e te):PI X tg e (Hn K te):=by subst hK;exact OG h
def asL(qe:QE):QI:=fun q Q=>qe q fun t=>match t with | .l xs=>Q xs | _=>False
def asT(qe:QE):QI:=fun q Q=>qe q fun t=>match t with | .t xs=>Q xs | _=>False
theorem mS(h:QPE X K e te qe)(hK:X.K=K:=by rfl):QPI X K tg e (Cg K te) (asL qe):=⟨x8 hK h.h,fun dl H σ q Q R rd hq k=>h.s dl H σ q _ _ rd hq fun v t F H' e1 r hz=>by
 split at hz
 ·obtain⟨p,vs,G,rfl,rfl,h1,h2⟩:=r.r.lst;exact⟨p,rfl,⟨vs,SqL.of h1⟩,k _ _ _ H' e1 B8 (fun p hp=>by rw[List.mem_singleton.mp hp];exact⟨_,r⟩) hz⟩
 ·exact hz.elim⟩
theorem ju(h:QPE X K e te qe)(hK:X.K=K:=by rfl):QPI X K tg e (Hn K te) (asT qe):=⟨wk hK h.h,fun dl H σ q Q R rd hq k=>h.s dl H σ q _ _ rd hq fun v t F H' e1 r hz=>by
 split at hz
 ·obtain⟨p,vs,rfl,h1,h2⟩:=r.r.tup;exact⟨p,rfl,⟨vs,SqT.of h1⟩,k _ _ _ H' e1 As (fun p hp=>by rw[List.mem_singleton.mp hp];exact⟨_,r⟩) hz⟩
 ·exact hz.elim⟩
def Fx(lo:Int)(n:Nat):List T:=(List.range n).map fun i=>.i (lo+(i:Nat))
theorem il{i:Nat}{x:T}(h:(Fx lo n)[i]? = some x):x = .i (lo+(i:Nat))/\i<n:=by
 unfold Fx at h;rw[List.getElem?_map]at h;obtain⟨j,hj,rfl⟩:=Option.map_eq_some_iff.mp h;obtain⟨h1,h2⟩:=List.getElem?_eq_some_iff.mp hj;simp at h1 h2;subst h2;exact⟨rfl,h1⟩
theorem cQ:(Fx lo n).length=n:=by simp[Fx]
def S7(ql:QA):QI:=fun q Q=>ql q fun ts=>match ts with | [.i n]=>-(2 ^ 62)<=n/\n<2 ^ 62/\Q (Fx 0 n.toNat) | _=>False
theorem kg(hg:Gl X "range")(hm:X.mg "range" = none)(ha:QPA X K [a] tl ql)(hs:starEach [a] X.env = [(false,eval a X.env)]:=by rfl):QPI X K tg (.Call (.Name "range" p) [a] [] pos) (Ho tl) (S7 ql):=⟨u6 hg hm ha.h hs,fun dl H σ q Q R rd hq k=>ha.s dl H σ q _ _ rd hq fun vs ts F H' e1 r _ hz=>by
 split at hz
 ·obtain⟨v,rfl,r'⟩:=r.one;obtain⟨rfl,_⟩:=r'.r.int;exact⟨_,rfl,hz.1,hz.2.1,k _ _ [] H' e1 Hj (fun _ z=>nomatch z) hz.2.2⟩
 ·exact hz.elim⟩
def asJ(iq:QI):QJ:=fun q Q=>iq q fun xs=>Q xs q
theorem gC(hg:Gl X "range")(hm:X.mg "range" = none)(ha:QPA X K [a] tl ql)(hs:starEach [a] X.env = [(false,eval a X.env)]:=by rfl):QPJ X K tg (.Call (.Name "range" p) [a] [] pos) (Ho tl) (asJ (S7 ql)):=⟨u6 hg hm ha.h hs,fun dl H₀ hs H σ q Q R ⟨F0,r0⟩ hq k=>ha.s dl H σ q _ _ r0.rd hq fun vs ts F H' e1 r _ hz=>by
 split at hz
 ·obtain⟨v,rfl,r'⟩:=r.one;obtain⟨rfl,_⟩:=r'.r.int;exact⟨_,rfl,hz.1,hz.2.1,k _ _ [] H' q ⟨F0,r0.evo e1⟩ Hj hz.2.2⟩
 ·exact hz.elim⟩
theorem fX(h:QPF X K e te qe)(hK:X.K=K:=by rfl):QPJ X K tg e (Hn K te) (asJ (asT qe)):=⟨wk hK h.h,fun dl H₀ hs H σ q Q R ⟨F0,r0⟩ hq k=>h.s dl H σ q _ _ r0.rd hq fun v t F H' e1 r f n hz=>by
 split at hz
 ·have r1:=(r0.evo e1).hold r fun j u hj b hb z=>(r0.lG hb).no (f b z)
  obtain⟨p,vs,rfl,h1,h2⟩:=r.r.tup;exact⟨p,rfl,⟨vs,SqT.of h1⟩,k _ _ _ H' q ⟨F0,r1⟩ As hz⟩
 ·exact hz.elim⟩
inductive Tg where
 | nm(i:Nat)|tp (is:List Nat)
def qm(q:Sq):List Nat->List T->Option Sq
 | [],[]=>some q
 | i::is,x::xs=>if i<q.length then qm (q.set i (.r x)) is xs else none
 | _,_=>none
def Tg.put(g:Tg)(x:T)(q:Sq):Option Sq:=match g with
 | .nm i=>if i<q.length then some (q.set i (.r x))else none
 | .tp is=>match x with | .t xs=>qm q is xs | _=>none
def wQ:List Nat->TGs
 | []=>PY
 | i::is=>Cj (fG i) (wQ is)
def Tg.h(K:W.Frag):Tg->TG
 | .nm i=>fG i
 | .tp is=>LU K is.length (wQ is)
theorem uX{H₀ H:Hp}{hs:List (V×T)}:∀{is:List Nat}{vs:List V}{xs:List T}{G:List Addr}{σ:St}{q q':Sq}{F:Nat->List Addr}{R:St->Hp->Prop},Rel K dl H₀ hs H σ q F->aw K dl H vs xs G ->(∀ b∈G,Nd dl b) ->
  (∀(j:Nat)(u:T),q[j]? = some (.o u)->∀ b∈F j,b ∉ G)->qm q is xs=some q' ->(∀ σ',dR K dl H₀ hs H σ' q'->R σ' H)->wQ is vs σ H R
 | [],vs,xs,G,σ,q,q',F,R,r,rs,_,_,hp,k=>by
  cases xs with
  | cons _ _=>cases hp
  | nil =>
   cases rs;cases hp;exact⟨rfl,k σ ⟨F,r⟩⟩
 | i::is,vs,xs,G,σ,q,q',F,R,r,rs,hn,ho,hp,k=>by
  cases xs with
  | nil=>cases hp
  | cons x xs =>
   cases rs with
   | cons r1 r2 =>
    unfold qm at hp;by_cases hi:i<q.length
    ·rw[if_pos hi]at hp;refine⟨_,_,rfl,?_⟩;have r':=r.KG hi ⟨r1,fun b hb=>hn b (List.mem_append_left _ hb)⟩ fun j u hj _ b hb z=>ho j u hj b hb (List.mem_append_left _ z)
     refine uX r' r2 (fun b hb=>hn b (List.mem_append_right _ hb)) (fun j u hj b hb z=>?_) hp k
     rcases get_set hj with⟨_,z',_⟩ |⟨ne,hj⟩
     ·cases z'
     ·rw[aP ne]at hb;exact ho j u hj b hb (List.mem_append_right _ z)
    ·rw[if_neg hi]at hp;cases hp
variable{g:Tg}
theorem vX{hs:List (V×T)}{v:V}{x:T}{σ:St}{q':Sq}{F:Nat->List Addr}{R:St->Hp->Prop}(r:Rel K dl H₀ hs H σ q F)(rx:Rp K dl H v x G)
  (ho:∀(j:Nat)(u:T),q[j]? = some (.o u)->∀ b∈F j,b ∉ G) (hp:g.put x q=some q') (k:∀ σ',dR K dl H₀ hs H σ' q'->R σ' H):g.h K v σ H R:=by
 cases g with
 | nm i =>
  replace hp:(if i<q.length then some (q.set i (.r x))else none)=some q':=hp
  by_cases hi:i<q.length
  ·rw[if_pos hi]at hp;cases hp;exact k _ ⟨_,r.KG hi rx fun j u hj _=>ho j u hj⟩
  ·rw[if_neg hi]at hp;cases hp
 | tp is =>
  cases x with
  | t xs =>
   replace hp:qm q is xs=some q':=hp
   obtain⟨p,vs,rfl,h1,h2⟩:=rx.r.tup;have hl:∀{is:List Nat}{xs:List T}{q q':Sq},qm q is xs=some q'->xs.length=is.length:=fun{is}=>by
    induction is with
    | nil=>intro xs q q' h;cases xs with
     | nil=>rfl
     | cons _ _=>cases h
    | cons i is ih=>intro xs q q' h;cases xs with
     | nil=>cases h
     | cons x xs =>
      unfold qm at h;by_cases hi:i<q.length
      ·rw[if_pos hi]at h;simp[ih h]
      ·rw[if_neg hi]at h;cases h
   exact⟨p,vs,rfl,SqT.of h1,by rw[h2.len];exact hl hp,uX r h2 rx.n ho hp k⟩
  | _=>cases hp
end
variable{tg:Expr}{iter:Expr}{body:List Stmt}{g:Tg}{cap:List (Option Nat)}{iq:QI}{tst:TT}{oF:QT}{te:TE}{qe:QE}{N':List Str}{sc:Scope}{elt:Expr}{ifs:List Expr}
section
variable{X:Cx}{K:W.Frag}{hs:List (V×T)}{σ:St}{F:Nat->List Addr}
theorem Rel.mB{hv:List (V×T)}(r:Rel K dl H₀ (hv++hs) H σ q F):Rel K dl H₀ hs H σ q F:=⟨r.d,r.g,r.n,r.z,r.o,fun p hp=>r.h p (List.mem_append_right _ hp),r.f,r.l⟩
theorem Rel.fps{hv:List (V×T)}(r:Rel K dl H₀ (hv++hs) H σ q F):∃ fp:V×T->List Addr,∀ p∈hv,Rp K dl H p.1 p.2 (fp p)/\∀(i:Nat)(t:T),q[i]? = some (.o t)->∀ b∈F i,b ∉ fp p:=by
 classical
 refine⟨fun p=>if h:p∈hv then(r.h p (List.mem_append_left _ h)).choose else [],fun p hp=>?_⟩
 have z:=(r.h p (List.mem_append_left _ hp)).choose_spec;simp only[dif_pos hp];exact z
inductive VY(g:Tg)(qb:QS)(D:jb)(xs:List T)(q0:Sq):Prop
 | mk(I:Nat->Sq->Prop)(h0:I 0 q0)(step:∀ i x q,xs[i]? = some x->I i q->∃ q',g.put x q=some q'/\qb { D with nx:=I (i+1),ct:=I (i+1),bk:=D.nx } q')(fin:∀ q,I xs.length q->D.nx q)
def RB(iq:QJ)(g:Tg)(qb:QS):QS:=fun D q=>iq q fun xs q0=>VY g qb D xs q0
theorem dy{wi:TI}{iq:QJ}{tb:TS}{qb:QS}{pos:Pos}(hp:PassesOwn (model X.prog X.w) X.A X.env X.xe)(hc:X.calm=true)(hi:QPJ X K tg iter wi iq)(hg:PG X tg (g.h K))(hb:nL X K body tb qb)
  (hs:∀ x,foldedSetIterable iter X.env x=pure x:=by intro _;rfl):QPS X K (.For tg iter body [] pos) (NM wi (g.h K) tb) (RB iq g qb):=⟨zB hp hc hi.h hg hb.h hs,fun dl H₀ hs H σ q Dq D r hq E=>by
 refine hi.s dl H₀ hs H σ q _ _ r hq fun xs J hv H1 q1 r1 it hz=>?_
 obtain⟨I,i0,turn,fin⟩:=hz;refine⟨fun i m σ H=>m=xs.length - i/\i<=xs.length/\∃ q,dR K dl H₀ (hv++hs) H σ q/\I i q,⟨xs.length,by simp,Nat.zero_le _,q1,r1,i0⟩,?_⟩
 rintro i m σ H ⟨rfl,hi',q,⟨F,r⟩,hI⟩
 have held:∀ p∈hv,∃ F,Rp K dl H p.1 p.2 F:=fun p hp=>let⟨Fp,h,_⟩:=r.h p (List.mem_append_left _ hp);⟨Fp,h⟩
 by_cases hlt:i<xs.length
 ·refine .inr ⟨it.go H i r.d held hlt,fun σ' H'=>∃ q,dR K dl H₀ (hv++hs) H' σ' q/\I (i+1) q,fun σ' H' h=>⟨xs.length - (i+1),by omega,rfl,hlt,h⟩,fun v H' y=>?_⟩
  obtain⟨fp,hfp⟩:=r.fps;have hx:xs[i]? = some xs[i]:=by simp[hlt]
  obtain⟨e1,G,rx,hG⟩:=it.yld H i xs[i] fp v H' r.d (fun p hp=>(hfp p hp).1) hx y
  obtain⟨q',hq',hz⟩:=turn i xs[i] q hx hI;refine vX (r.evo e1) rx (fun j u hj b hb z=>?_) hq' fun σ2 r2=>hb.s dl H₀ (hv++hs) H' σ2 q' _ _ r2 hz ⟨fun H σ q r n=>⟨q,r,n⟩,fun H σ q ⟨F,r⟩ n=>E.nx H σ q ⟨F,r.mB⟩ n,fun H σ q r n=>⟨q,r,n⟩,E.rt⟩
  rcases hG b z with h |⟨p,hp,h⟩
  ·exact(r.lG hb).no h
  ·exact(hfp p hp).2 j u hj b hb h
 ·have e:i=xs.length:=by omega
  subst e;exact .inl ⟨it.stop H r.d held,E.nx H σ q ⟨F,r.mB⟩ (fin q hI)⟩⟩
def jS(cap:List (Option Nat))(q:Sq):Sq:=cap.map fun o=>match o with
 | none=>.no
 | some i=>match q[i]? with
  | some (.o t)=>.r t
  | some (.r t)=>.r t
  | _=>.no
theorem Kj(r:RdR K dl H σ q):RdR K dl H (nC cap σ) (jS cap q):=⟨r.d,fun j x t h1 h2=>by
 unfold jS at h1;rw[List.getElem?_map]at h1;cases e:cap[j]? with
 | none=>rw[e]at h1;cases h1
 | some o =>
  rw[e]at h1;cases o with
  | none=>cases h1;cases h2
  | some i =>
   have go:∀ y:Sl,q[i]? = some y->y.get=some t->∃ v F,(nC cap σ)[j]? = some (some v)/\Rp K dl H v t F:=fun y hy ht=>by
    obtain⟨v,F,h3,h4⟩:=r.g i y t hy ht;refine⟨v,F,?_,h4⟩;unfold nC;rw[List.getElem?_map,e];show some ((σ[i]?).join)=_;rw[h3];rfl
   replace h1:(match q[i]? with|some (.o t)=>Sl.r t|some (.r t)=>.r t | _=>.no)=x:=Option.some.inj h1
   split at h1
   ·rename_i u eq;subst h1;cases h2;exact go _ eq rfl
   ·rename_i u eq;subst h1;cases h2;exact go _ eq rfl
   ·subst h1;cases h2⟩
theorem RdR.set{i:Nat}{v:V}{x:T}{G:List Addr}(r:RdR K dl H σ q)(hl:i < σ.length)(rx:Rp K dl H v x G):RdR K dl H (σ.set i (some v)) (q.set i (.r x)):=⟨r.d,fun j y t h1 h2=>by
 rcases get_set h1 with⟨rfl,rfl,_⟩ |⟨ne,h1⟩
 ·cases h2;exact⟨v,G,by rw[List.getElem?_set_self hl],rx⟩
 ·obtain⟨w,F,h3,h4⟩:=r.g j y t h1 h2;exact⟨w,F,by rw[List.getElem?_set_ne (fun z=>ne z.symm)];exact h3,h4⟩⟩
theorem RdR.any{i:Nat}{o:Option V}(r:RdR K dl H σ q)(hn:q[i]? = some .no):RdR K dl H (σ.set i o) q:=⟨r.d,fun j y t h1 h2=>by
 obtain⟨w,F,h3,h4⟩:=r.g j y t h1 h2;refine⟨w,F,?_,h4⟩;rw[List.getElem?_set_ne]
 ·exact h3
 ·intro z;subst z;rw[hn]at h1;cases h1;cases h2⟩
def Tg.ixs:Tg->List Nat
 | .nm i=>[i]
 | .tp is=>is
theorem xQ:∀{is:List Nat}{vs:List V}{xs:List T}{G:List Addr}{σ:St}{q q0 q':Sq}{R:St->Hp->Prop},RdR K dl H σ q->RdR K dl H σ q0->σ.length=q.length->aw K dl H vs xs G ->(∀ b∈G,Nd dl b) ->(∀ i∈is,q0[i]? = some .no)->qm q is xs=some q' ->
  (∀ σ',RdR K dl H σ' q'->RdR K dl H σ' q0->σ'.length=σ.length->R σ' H)->wQ is vs σ H R
 | [],vs,xs,G,σ,q,q0,q',R,r,r0,_,rs,_,_,hp,k=>by
  cases xs with
  | cons _ _=>cases hp
  | nil =>
   cases rs;cases hp;exact⟨rfl,k σ r r0 rfl⟩
 | i::is,vs,xs,G,σ,q,q0,q',R,r,r0,hl,rs,hn,hf,hp,k=>by
  cases xs with
  | nil=>cases hp
  | cons x xs =>
   cases rs with
   | cons r1 r2 =>
    unfold qm at hp;by_cases hi:i<q.length
    ·rw[if_pos hi]at hp;refine⟨_,_,rfl,?_⟩;refine xQ (r.set (by omega) ⟨r1,fun b hb=>hn b (List.mem_append_left _ hb)⟩) (r0.any (hf i List.mem_cons_self)) (by simp[hl]) r2 (fun b hb=>hn b (List.mem_append_right _ hb)) (fun j hj=>hf j (List.mem_cons_of_mem _ hj)) hp fun σ' a b c=>k σ' a b (by simpa using c)
    ·rw[if_neg hi]at hp;cases hp
theorem x3:∀{is:List Nat}{xs:List T}{q q':Sq},qm q is xs=some q'->xs.length=is.length
 | [],[],_,_,_=>rfl
 | [],_::_,_,_,h=>by cases h
 | _::_,[],_,_,h=>by cases h
 | i::is,x::xs,q,q',h=>by
  unfold qm at h;by_cases hi:i<q.length
  ·rw[if_pos hi]at h;simp[x3 h]
  ·rw[if_neg hi]at h;cases h
theorem Q9{v:V}{x:T}{q':Sq}{R:St->Hp->Prop}(r:RdR K dl H σ q)(hl:σ.length=q.length)(rx:Rp K dl H v x G)(hf:∀ i∈g.ixs,q[i]? = some .no)(hp:g.put x q=some q')
  (k:∀ σ',RdR K dl H σ' q'->RdR K dl H σ' q->σ'.length=σ.length->R σ' H):g.h K v σ H R:=by
 cases g with
 | nm i =>
  replace hp:(if i<q.length then some (q.set i (.r x))else none)=some q':=hp
  by_cases hi:i<q.length
  ·rw[if_pos hi]at hp;cases hp;exact k _ (r.set (by omega) rx) (r.any (hf i (List.mem_singleton.mpr rfl))) (by simp)
  ·rw[if_neg hi]at hp;cases hp
 | tp is =>
  cases x with
  | t xs =>
   replace hp:qm q is xs=some q':=hp
   obtain⟨p,vs,rfl,h1,h2⟩:=rx.r.tup;exact⟨p,vs,rfl,SqT.of h1,by rw[h2.len];exact x3 hp,xQ r r hl h2 rx.n hf hp k⟩
  | _=>cases hp
def FY:QT:=fun _ Q=>Q true
theorem E5:mh K Bf FY:=fun dl H σ q Q R rd hq k=>k true H (.refl rd.d) hq
inductive CompI(cap:List (Option Nat))(g:Tg)(tst:QT)(qe:QE)(q:Sq)(Q:T->Prop)(xs:List T):Prop
 | mk (hl:xs.length<sizeLine) (I:Nat->List T->Prop) (h0:I 0 []) (step:∀ i x ys,xs[i]? = some x->I i ys->∃ q',g.put x (jS cap q)=some q'/\tst q' fun b=>if b=true then qe q' fun y=>I (i+1) (ys ++ [y])else I (i+1) ys) (fin:∀ ys,I xs.length ys->Q (.l ys))
def BA(cap:List (Option Nat))(iq:QI)(g:Tg)(tst:QT)(qe:QE):QE:=fun q Q=>iq q fun xs=>CompI cap g tst qe q Q xs
theorem xJ{wi:TI}(hi:Ti K wi iq)(ht:mh K tst oF)(he:kE K te qe)(hf:(g.ixs.all fun i=>cap[i]? == some none)=true):kE K (uV cap wi (g.h K) tst te) (BA cap iq g oF qe):=by
 intro dl H σ q Q R rd hq k;refine hi dl H σ q _ _ rd hq fun xs J hv H1 e1 it held hz=>?_
 obtain⟨hlen,I,i0,turn,fin⟩:=hz;have rd1:=Kj (cap:=cap) (rd.evo e1);have hno:∀ i∈g.ixs,(jS cap q)[i]? = some .no:=fun i hi=>by
  have z:=List.all_eq_true.mp hf i hi;have z:cap[i]? = some none:=by simpa using z
  unfold jS;rw[List.getElem?_map,z];rfl
 have hcl:(nC cap σ).length =(jS cap q).length:=by simp[nC,jS]
 refine⟨fun i m vs σ' H'=>m=xs.length - i/\i<=xs.length/\∃ ts F,Evo dl H1 H'/\RdR K dl H' σ' (jS cap q)/\σ'.length =(jS cap q).length/\(∀ p∈hv,∃ F,Rp K dl H' p.1 p.2 F)/\Rps K dl H' vs ts F/\(∀ b∈F,H b=none)/\F.Nodup/\vs.length<=i/\I i ts,
  ⟨xs.length,by simp,Nat.zero_le _,[],[],.refl e1.d,rd1,hcl,held,⟨.nil,fun _ z=>nomatch z⟩,(fun _ z=>nomatch z),List.nodup_nil,Nat.le_refl _,i0⟩,?_⟩
 rintro i m vs σ' H' ⟨rfl,hi',ts,F,e2,rd2,hl2,yu,rs,fr,nd,hvl,hI⟩
 by_cases hlt:i<xs.length
 ·refine .inr ⟨it.go H' i e2.d yu hlt,by omega,fun vs2 σ2 H2=>∃ ts F,Evo dl H1 H2/\RdR K dl H2 σ2 (jS cap q)/\σ2.length =(jS cap q).length/\(∀ p∈hv,∃ F,Rp K dl H2 p.1 p.2 F)/\Rps K dl H2 vs2 ts F/\(∀ b∈F,H b=none)/\F.Nodup/\vs2.length<=i+1/\I (i+1) ts,
   fun vs2 σ2 H2 h=>⟨xs.length - (i+1),by omega,rfl,hlt,h⟩,fun v H2 y=>?_⟩
  have hx:xs[i]? = some xs[i]:=by simp[hlt]
  obtain⟨fp,hfp⟩:∃ fp:V×T->List Addr,∀ p∈hv,Rp K dl H' p.1 p.2 (fp p):=by
   classical
   refine⟨fun p=>if h:p∈hv then(yu p h).choose else [],fun p hp=>?_⟩
   simp only[dif_pos hp];exact(yu p hp).choose_spec
  obtain⟨e3,G,rx,hG⟩:=it.yld H' i xs[i] fp v H2 e2.d hfp hx y;obtain⟨q',hq',hz⟩:=turn i xs[i] ts hx hI;have Ni:∀{H3:Hp},Evo dl H' H3->∀ p∈hv,∃ F,Rp K dl H3 p.1 p.2 F:=fun{H3} e p hp=>let⟨F,r⟩:=yu p hp;⟨F,r.evo e2.d e⟩
  refine Q9 (rd2.evo e3) hl2 rx hno hq' fun σ3 r3 r30 l3=>?_
  refine ht dl H2 σ3 q' _ _ r3 hz fun b H4 e4 hz=>?_
  cases b with
  | false=>exact⟨ts,F,(e2.trans e3).trans e4,r30.evo e4,by omega,Ni (e3.trans e4),(rs.evo e2.d e3).evo e3.d e4,fr,nd,by omega,hz⟩
  | true =>
   refine he dl H4 σ3 q' _ _ (r3.evo e4) hz fun w t G' H5 e5 rw' f5 n5 hz=>?_
   have E:=(e2.trans e3).trans (e4.trans e5);have rs5:=((rs.evo e2.d e3).evo e3.d (e4.trans e5));refine⟨ts ++ [t],F++(G' ++ []),E,r30.evo (e4.trans e5),by omega,Ni (e3.trans (e4.trans e5)),⟨rs5.r.append (.cons rw'.r .nil),fun b hb=>?_⟩,fun b hb=>?_,?_,by simp;omega,hz⟩
   ·rcases List.mem_append.mp hb with hb|hb
    ·exact rs.n b hb
    ·rw[List.append_nil]at hb;exact rw'.n b hb
   ·rcases List.mem_append.mp hb with hb|hb
    ·exact fr b hb
    ·rw[List.append_nil]at hb;exact((e1.trans e2).trans (e3.trans e4)).free (f5 b hb)
   ·rw[List.append_nil];refine List.nodup_append.mpr ⟨nd,n5,fun x hx y hy exy=>?_⟩
    subst exy;have rs4:=(rs.evo e2.d e3).evo e3.d e4;exact nI.no (rs4.r.there x hx) (f5 x hy)
 ·have e:i=xs.length:=by omega
  subst e;refine .inl ⟨it.stop H' e2.d yu,by omega,fun D hD=>?_⟩
  exact k _ _ _ _ ((e1.trans e2).new hD) (rs.lst e2.d hD) (fun b hb=>by
   rcases List.mem_cons.mp hb with e|hb
   ·rw[e];exact(e1.trans e2).free hD
   ·exact fr b hb) (rs.fresh hD nd) (fin ts hI)
structure QB(X:Cx)(K:W.Frag)(N':List Str)(sc:Scope)(tg:Expr)(g:Tg)(ifs:List Expr)(tst:TT)(oF:QT)(elt:Expr)(te:TE)(qe:QE):Prop where
 b:∀ cl C s₂ H₂ fp,PG (blk X N' sc cl C s₂ H₂ fp) tg (g.h K)/\PTs (blk X N' sc cl C s₂ H₂ fp) ifs tst/\PE (blk X N' sc cl C s₂ H₂ fp) elt te
 t:mh K tst oF
 e:kE K te qe
theorem cM(h:∀ cl C s₂ H₂ fp,PG (blk X N' sc cl C s₂ H₂ fp) tg (g.h K)/\QPF (blk X N' sc cl C s₂ H₂ fp) K elt te qe):QB X K N' sc tg g [] Bf FY elt te qe :=
 ⟨fun cl C s₂ H₂ fp=>⟨(h cl C s₂ H₂ fp).1,BE,(h cl C s₂ H₂ fp).2.h⟩,E5,(h [] 0 X.s₀ (fun _=>none) []).2.s⟩
theorem v8{c:Expr}(h:∀ cl C s₂ H₂ fp,PG (blk X N' sc cl C s₂ H₂ fp) tg (g.h K)/\QPT (blk X N' sc cl C s₂ H₂ fp) K c tst oF/\QPF (blk X N' sc cl C s₂ H₂ fp) K elt te qe):QB X K N' sc tg g [c] tst oF elt te qe :=
 ⟨fun cl C s₂ H₂ fp=>⟨(h cl C s₂ H₂ fp).1,BD (h cl C s₂ H₂ fp).2.1.h,(h cl C s₂ H₂ fp).2.2.h⟩,(h [] 0 X.s₀ (fun _=>none) []).2.1.s,(h [] 0 X.s₀ (fun _=>none) []).2.2.s⟩
theorem cE{pos:Pos}{wi:TI}(hc:X.calm=true)(hi:QPI X K tg iter wi iq)(uG:nU X sc N' cap)(hb:QB X K N' sc tg g ifs tst oF elt te qe)
  (hf:(g.ixs.all fun i=>cap[i]? == some none)=true:=by rfl)
  (gJ:sc.kind = .function:=by rfl) (gK:∀ y∈sc.names,y.2 ≠ .cell:=by decide) (iL:∀ y∈sc.names,y.2 = .local->sc.names.lookup y.1=some .local:=by decide)
  (i8:(sc.names.all fun y=>y.2 != .free ||(X.env.kindOf y.1==some .cell||X.env.kindOf y.1==some .free))=true:=by rfl)
  (hs:∀ x,foldedSetIterable iter X.env x=pure x:=by intro _;rfl):QPF X K (.ListComp elt [⟨tg,iter,ifs,0⟩] sc pos) (uV cap wi (g.h K) tst te) (BA cap iq g oF qe) :=
 ⟨BO hc hi.h uG hb.b gJ gK iL i8 hs,xJ hi.s hb.t hb.e hf⟩
theorem ix{i:Nat}{y:Str}{pos rG py:Pos}{wi:TI}(hN:X.N.Nodup)(hi':X.N[i]? = some y)(hy:Loc X.env.scope y)
  (hc:X.calm=true) (hi:QPI X K tg iter wi iq) (uG:nU X sc N' cap) (hb:QB X K N' sc tg g ifs tst oF elt te qe)
  (hf':(g.ixs.all fun i=>cap[i]? == some none)=true:=by rfl)
  (hsw:swapsWith (.ListComp elt [⟨tg,iter,ifs,0⟩] sc pos) (some (.Name y py)) rG.line X.env=pure true:=by rfl)
  (hf:X.fn y=true\/X.env.scope.names.lookup y=some .local:=by first|exact .inl rfl|exact .inr rfl|assumption)
  (gJ:sc.kind = .function:=by rfl) (gK:∀ y∈sc.names,y.2 ≠ .cell:=by decide) (iL:∀ y∈sc.names,y.2 = .local->sc.names.lookup y.1=some .local:=by decide)
  (i8:(sc.names.all fun y=>y.2 != .free ||(X.env.kindOf y.1==some .cell||X.env.kindOf y.1==some .free))=true:=by rfl)
  (hs:∀ x,foldedSetIterable iter X.env x=pure x:=by intro _;rfl):QPS X K (.Assign [.Name y py] (.ListComp elt [⟨tg,iter,ifs,0⟩] sc pos) rG) (jd (uV cap wi (g.h K) tst te) (fG i)) (kA i (BA cap iq g oF qe)) :=
 ⟨BH hN hi' hy hc hi.h uG hb.b hsw hf gJ gK iL i8 hs,Bo (xJ hi.s hb.t hb.e hf')⟩
end
section
variable{X:Cx}{K:W.Frag}{hs:List (V×T)}{σ:St}{F:Nat->List Addr}{e o:Expr}{pos apos bq:Pos}
theorem aE.uniq{v:V}{t:T}{F:List Addr}(h:aE K dl H v t F):∀{F':List Addr},aE K dl H v t F'->F=F' :=
 aE.rec (motive_1:=fun v t F _=>∀{F'},aE K dl H v t F'->F=F') (motive_2:=fun v t F _=>∀{F'},aw K dl H v t F'->F=F') (motive_3:=fun v t F _=>∀{F'},aR K dl H v t F'->F=F')
  (fun h=>(h.im rfl).symm) (fun _ _ h=>(h.im rfl).symm) (fun _ _ h=>(h.im rfl).symm) (fun _ _ h=>(h.im rfl).symm) (fun _ _ h=>(h.im rfl).symm)
  (fun h1 _ ih _ h=>by obtain⟨a,vs,e,h2,r⟩:=h.tup;cases e;rw[h1]at h2;cases h2;exact ih r)
  (fun h1 _ ih _ h=>by obtain⟨a,vs,G,e,rfl,h2,r⟩:=h.lst;cases e;rw[h1]at h2;cases h2;rw[ih r])
  (fun h1 _ ih _ h=>by obtain⟨a,vs,G,e,rfl,h2,r⟩:=h.dic;cases e;rw[h1]at h2;cases h2;rw[ih r])
  (fun _ _ h=>(h.im rfl).symm) (fun _ _ h=>(h.im rfl).symm) (fun _ _ h=>(h.im rfl).symm) (fun _ _ _ _ h=>(h.im rfl).symm) (fun _ _ h=>(h.im rfl).symm) (fun _ _ _ _ h=>(h.im rfl).symm)
  (fun _ _ _ h=>(h.im rfl).symm) (fun _ _ _ _ h=>(h.im rfl).symm) (fun h1 _ ih _ h=>by obtain⟨vs,G,e,rfl,h2,r⟩:=h.dpp;rw[h1]at h2;cases h2;rw[ih r]) (fun h1 _ ih _ h=>by obtain⟨vs,G,e,rfl,h2,r⟩:=h.lpp;rw[h1]at h2;cases h2;rw[ih r])
  (fun h=>by cases h;rfl) (fun _ _ i1 i2 _ h=>by cases h with|cons h2 r2=>rw[i1 h2,i2 r2])
  (fun h=>by cases h;rfl) (fun _ _ i1 i2 _ h=>by cases h with|cons h2 r2=>rw[i1 h2,i2 r2]) h
theorem Rel.LN(r:Rel K dl H₀ hs H σ q F)(e:Evo dl H H'){p:V×T}(hp:p∈hs){Fp:List Addr}(h:Rp K dl H' p.1 p.2 Fp){b:Addr}(hb:H b=none):b ∉ Fp:=fun z=>by
 obtain⟨Fq,h1,_⟩:=r.h p hp;have e1:=(h1.evo r.d e).r.uniq h.r;subst e1;exact nI.no (h1.r.there b z) hb
theorem Rel.vW{i:Nat}{p:Addr}{ws:List V}{xs ys:List T}{G':List Addr}(r:Rel K dl H₀ hs H σ q F)(hi:q[i]? = some (.o (.l xs)))(hv:σ[i]? = some (some (.ref p)))(hF:F i=p::G)(e:Evo dl H H')
  (rs:aw K dl H' ws ys G') (hn:G'.Nodup) (hG:∀ b∈G',b∈G\/(H b=none/\Nd dl b)):dR K dl H₀ hs (upd H' p (.lst ws)) σ (q.set i (.o (.l ys))):=by
 have r':=r.evo e;obtain⟨o1,o2,o3⟩:=r.o i _ hi;obtain⟨v',hv',rp⟩:=r'.g i _ _ hi rfl;rw[hv]at hv';cases hv';obtain⟨p2,vs2,G2,e2,eF,h1,h2⟩:=rp.r.lst;cases e2;rw[hF]at eF;cases eF;rw[hF]at o1;have pG:p ∉ G:=(List.nodup_cons.mp o1).1;have pth:nI H p:=r.lG (i:=i) (by rw[hF];exact List.mem_cons_self)
 have pG':p ∉ G':=fun z=>by
  rcases hG p z with z|z
  ·exact pG z
  ·exact pth.no z.1
 have pn:Nd dl p:=rp.n p (by rw[hF];exact List.mem_cons_self)
 have tf:TF H' (upd H' p (.lst ws)):=⟨fun a us h=>(by
  rw[ai];exact h;intro z;subst z;rw[h]at h1;cases h1),fun a ob u h=>(by
  rw[ai];exact h;intro z;subst z;rw[h]at h1;cases h1),fun a φ h=>(by
  rw[ai];exact h;intro z;subst z;rw[h]at h1;cases h1),fun a xs' h=>(by
  by_cases z:a=p
  ·subst z;exact⟨_,aj⟩
  ·exact⟨xs',by rw[ai z];exact h⟩),fun a x h=>⟨x,Int.le_refl _,by
  rw[ai];exact h;intro z;subst z;rw[h]at h1;cases h1⟩⟩
 have rs2:aw K dl (upd H' p (.lst ws)) ws ys G':=rs.cN tf (fun _ z=>z) fun b hb ob eb=>by
  have ne:b≠p:=by
   intro z;subst z;exact pG' hb
  rw[ai ne];exact eb
 refine⟨_,r'.write (t':=.l ys) (F':=p::G') hi hv (by rw[hF];exact List.mem_cons_self) (fun _ _=>⟨_,rfl⟩) ⟨.l aj rs2,fun b hb=>?_⟩ (List.nodup_cons.mpr ⟨pG',hn⟩) fun b hb=>?_⟩
 ·rcases List.mem_cons.mp hb with z|hb
  ·rw[z];exact pn
  ·rcases hG b hb with z|z
   ·exact rp.n b (by rw[hF];exact List.mem_cons_of_mem _ z)
   ·exact z.2
 ·rcases List.mem_cons.mp hb with z|hb
  ·rw[z,hF];exact .inl List.mem_cons_self
  ·rcases hG b hb with z|z
   ·rw[hF];exact .inl (List.mem_cons_of_mem _ z)
   ·exact .inr ⟨r.fz z.1,fun j hj=>(r.lG hj).no z.1,fun w u Fp h1 h2=>r.LN e (p:=(w,u)) h2 h1 z.1⟩
def wc(i:Nat)(qe:QE):QS:=fun D q=>match q[i]? with
 | some (.o (.l xs))=>xs.length<sizeLine/\qe q fun t=>D.nx (q.set i (.o (.l (xs ++ [t]))))
 | _=>False
theorem zY(hK:X.K=K){i:Nat}(ho:PE X o (b7 i))(he:PE X e te)(fF:attributeBase o "append" X.env (eval o X.env)=eval o X.env:=by rfl)
  (sZ:((backTo bq (starEach [e] X.env)).all (fun x=>!x.1)&&(backToKw bq (keywordEach [] X.env)).all (fun x=>x.1.isSome)
   && decide (([e]:List Expr).length+([]:List Keyword).length+(if([]:List Keyword).isEmpty then 0 else 1)<30))=true:=by rfl)
  (fD:(apos.endLine==bq.line)=true:=by rfl) (hs:starEach [e] X.env =(false,eval e X.env)::starEach [] X.env:=by rfl) (fC:(backTo bq (starEach [] X.env)).any (·.1)=false:=by rfl) :
  PE X (.Call (.Attribute o "append" apos) [e] [] bq) (tBM K "list" qO (b7 i) (cu te kz)):=by
 subst hK;exact GB PySem.F.plainAttrs_list PySem.F.slot_list_append PySem.F.type_list_append DI ho (bw he eB hs) fF sZ fD hs fC
theorem zi{i:Nat}(he:kE K te qe):nJ K (gu (tBM K "list" qO (b7 i) (cu te kz))) (wc i qe):=fun dl H₀ hs H σ q Dq D ⟨F,r⟩ hq E=>by
 unfold wc at hq
 split at hq
 ·rename_i xs ei;obtain⟨hz,hq⟩:=hq;obtain⟨v,hv,rp⟩:=r.g i _ _ ei rfl;obtain⟨o1,o2,o3⟩:=r.o i _ ei;obtain⟨p,vs,G,rfl,eF,h1,h2⟩:=rp.r.lst;refine⟨_,hv,.inl ⟨rfl,vs,SqL.of h1⟩,he dl H σ q _ _ r.rd hq fun w t F' H' e1 r1 f1 n1 hz'=>?_⟩
  have pn:Nd dl p:=rp.n p (by rw[eF];exact List.mem_cons_self)
  refine⟨p,vs,w,rfl,rfl,e1.k p _ h1 pn (fun _ z=>nomatch z),by rw[h2.len];exact hz,?_⟩
  have hG:∀ b∈G,Nd dl b:=fun b hb=>rp.n b (by rw[eF];exact List.mem_cons_of_mem _ hb)
  have rs2:aw K dl H' vs xs G:=h2.cN (e1.tf r.d) (fun _ z=>z) fun b hb o eo=>e1.k b o eo (hG b hb) (.of (h2.there b hb) eo)
  refine E.nx _ σ _ (r.vW ei hv eF e1 (rs2.append (.cons r1.r .nil)) ?_ fun b hb=>?_) hz'
  ·rw[List.append_nil];rw[eF]at o1;refine List.nodup_append.mpr ⟨(List.nodup_cons.mp o1).2,n1,fun x hx y hy exy=>?_⟩
   subst exy;exact nI.no (h2.there x hx) (f1 x hy)
  ·rcases List.mem_append.mp hb with hb|hb
   ·exact .inl hb
   ·rw[List.append_nil]at hb;exact .inr ⟨f1 b hb,r1.n b hb⟩
 ·exact hq.elim
theorem cD{i:Nat}{rG:Pos}(ho:PE X o (b7 i))(he:QPF X K e te qe)(hK:X.K=K:=by rfl)(fF:attributeBase o "append" X.env (eval o X.env)=eval o X.env:=by rfl)
  (sZ:((backTo bq (starEach [e] X.env)).all (fun x=>!x.1)&&(backToKw bq (keywordEach [] X.env)).all (fun x=>x.1.isSome)
   && decide (([e]:List Expr).length+([]:List Keyword).length+(if([]:List Keyword).isEmpty then 0 else 1)<30))=true:=by rfl)
  (fD:(apos.endLine==bq.line)=true:=by rfl) (hs:starEach [e] X.env =(false,eval e X.env)::starEach [] X.env:=by rfl) (fC:(backTo bq (starEach [] X.env)).any (·.1)=false:=by rfl)
  (hsw:swapsWith (.Call (.Attribute o "append" apos) [e] [] bq) none rG.line X.env=pure false:=by rfl) :
  QPS X K (.Expr (.Call (.Attribute o "append" apos) [e] [] bq) rG) (gu (tBM K "list" qO (b7 i) (cu te kz))) (wc i qe):=⟨kh (zY hK ho he.h fF sZ fD hs fC) hsw,zi he.s⟩
def wb(i:Nat)(qe:QE):QS:=fun D q=>match q[i]? with
 | some (.o (.l xs))=>qe q fun t=>match t with
  | .l ys=>xs.length+ys.length<=sizeLine/\D.nx (q.set i (.o (.l (xs++ys))))
  | _=>False
 | _=>False
theorem zX(hK:X.K=K){i:Nat}(ho:PE X o (b7 i))(he:PE X e te)(fF:attributeBase o "extend" X.env (eval o X.env)=eval o X.env:=by rfl)
  (sZ:((backTo bq (starEach [e] X.env)).all (fun x=>!x.1)&&(backToKw bq (keywordEach [] X.env)).all (fun x=>x.1.isSome)
   && decide (([e]:List Expr).length+([]:List Keyword).length+(if([]:List Keyword).isEmpty then 0 else 1)<30))=true:=by rfl)
  (fD:(apos.endLine==bq.line)=true:=by rfl) (hs:starEach [e] X.env =(false,eval e X.env)::starEach [] X.env:=by rfl) (fC:(backTo bq (starEach [] X.env)).any (·.1)=false:=by rfl) :
  PE X (.Call (.Attribute o "extend" apos) [e] [] bq) (tBM K "list" qN (b7 i) (cu te kz)):=by
 subst hK;exact GB PySem.F.plainAttrs_list PySem.F.slot_list_extend PySem.F.type_list_extend DH ho (bw he eB hs) fF sZ fD hs fC
theorem zh{i:Nat}(he:kE K te qe):nJ K (gu (tBM K "list" qN (b7 i) (cu te kz))) (wb i qe):=fun dl H₀ hs H σ q Dq D ⟨F,r⟩ hq E=>by
 unfold wb at hq
 split at hq
 ·rename_i xs ei;obtain⟨v,hv,rp⟩:=r.g i _ _ ei rfl;obtain⟨o1,o2,o3⟩:=r.o i _ ei;obtain⟨p,vs,G,rfl,eF,h1,h2⟩:=rp.r.lst;refine⟨_,hv,.inl ⟨rfl,vs,SqL.of h1⟩,he dl H σ q _ _ r.rd hq fun w t F' H' e1 r1 f1 n1 hz'=>?_⟩
  split at hz'
  ·rename_i ys _;obtain⟨p2,ws,G2,rfl,rfl,h3,h4⟩:=r1.r.lst;have pn:Nd dl p:=rp.n p (by rw[eF];exact List.mem_cons_self)
   refine⟨p,p2,vs,ws,rfl,rfl,e1.k p _ h1 pn (fun _ z=>nomatch z),h3,by rw[h2.len,h4.len];exact hz'.1,?_⟩
   have hG:∀ b∈G,Nd dl b:=fun b hb=>rp.n b (by rw[eF];exact List.mem_cons_of_mem _ hb)
   have rs2:aw K dl H' vs xs G:=h2.cN (e1.tf r.d) (fun _ z=>z) fun b hb o eo=>e1.k b o eo (hG b hb) (.of (h2.there b hb) eo)
   refine E.nx _ σ _ (r.vW ei hv eF e1 (rs2.append h4) ?_ fun b hb=>?_) hz'.2
   ·rw[eF]at o1;refine List.nodup_append.mpr ⟨(List.nodup_cons.mp o1).2,(List.nodup_cons.mp n1).2,fun x hx y hy exy=>?_⟩
    subst exy;exact nI.no (h2.there x hx) (f1 x (List.mem_cons_of_mem _ hy))
   ·rcases List.mem_append.mp hb with hb|hb
    ·exact .inl hb
    ·exact .inr ⟨f1 b (List.mem_cons_of_mem _ hb),r1.n b (List.mem_cons_of_mem _ hb)⟩
  ·exact hz'.elim
 ·exact hq.elim
theorem oG{i:Nat}{rG:Pos}(ho:PE X o (b7 i))(he:QPF X K e te qe)(hK:X.K=K:=by rfl)(fF:attributeBase o "extend" X.env (eval o X.env)=eval o X.env:=by rfl)
  (sZ:((backTo bq (starEach [e] X.env)).all (fun x=>!x.1)&&(backToKw bq (keywordEach [] X.env)).all (fun x=>x.1.isSome)
   && decide (([e]:List Expr).length+([]:List Keyword).length+(if([]:List Keyword).isEmpty then 0 else 1)<30))=true:=by rfl)
  (fD:(apos.endLine==bq.line)=true:=by rfl) (hs:starEach [e] X.env =(false,eval e X.env)::starEach [] X.env:=by rfl) (fC:(backTo bq (starEach [] X.env)).any (·.1)=false:=by rfl)
  (hsw:swapsWith (.Call (.Attribute o "extend" apos) [e] [] bq) none rG.line X.env=pure false:=by rfl) :
  QPS X K (.Expr (.Call (.Attribute o "extend" apos) [e] [] bq) rG) (gu (tBM K "list" qN (b7 i) (cu te kz))) (wb i qe):=⟨kh (zX hK ho he.h fF sZ fD hs fC) hsw,zh he.s⟩
end
variable{to:TE}
section
variable{X:Cx}{K:W.Frag}{hs:List (V×T)}{σ:St}{F:Nat->List Addr}{a b e o c:Expr}{ta tb tk tv:TE}{qa qb qk qv:QE}{pos apos bq:Pos}
theorem aw.last:∀{ts:List T}{x:T}{vs:List V}{F:List Addr},aw K dl H vs (ts ++ [x]) F->∃ us w F1 F2,vs=us ++ [w]/\aw K dl H us ts F1/\aE K dl H w x F2/\F=F1++F2
 | [],x,vs,F,h=>by
  cases h with
  | cons h1 h2 =>
   cases h2;exact⟨[],_,[],_,rfl,.nil,h1,by simp⟩
 | t::ts,x,vs,F,h=>by
  cases h with
  | cons h1 h2 =>
   obtain⟨us,w,F1,F2,rfl,r1,r2,rfl⟩:=aw.last h2;exact⟨_::us,w,_,F2,rfl,.cons h1 r1,r2,by rw[List.append_assoc]⟩
def Ol(i j:Nat):QS:=fun D q=>match q[i]? with
 | some (.o (.l xs))=>∃ ys x,xs=ys ++ [x]/\T.ims xs=true/\i≠j/\D.nx ((q.set i (.o (.l ys))).set j (.o x))
 | _=>False
theorem Av{xs ys:List T}:T.ims (xs++ys) =(T.ims xs&&T.ims ys):=by
 induction xs with
 | nil=>rfl
 | cons x r ih=>show(x.im&&T.ims (r++ys)) =((x.im&&T.ims r)&&T.ims ys);rw[ih,Bool.and_assoc]
theorem JY{i:Nat}:nJ K (jd (NN K "list" N7 (b7 i)) (fG j)) (Ol i j):=fun dl H₀ hs H σ q Dq D ⟨F,r⟩ hq E=>by
 unfold Ol at hq
 split at hq
 ·rename_i xs ei;obtain⟨ys,x,rfl,him,hij,hq⟩:=hq;obtain⟨v,hv,rp⟩:=r.g i _ _ ei rfl;obtain⟨p,vs,G,rfl,eF,h1,h2⟩:=rp.r.lst;obtain⟨us,w,F1,F2,rfl,r1,r2,rfl⟩:=h2.last;rw[Av,Bool.and_eq_true]at him;obtain rfl:=r1.im him.1;have hx:x.im=true:=by have:=him.2;simpa [T.ims]using this
  obtain rfl:=r2.im hx;refine⟨_,hv,.inl ⟨rfl,_,SqL.of h1⟩,p,_,w,rfl,rfl,h1,by simp,?_⟩
  rw[List.dropLast_concat];obtain⟨F3,r3⟩:=r.vW (H':=H) (ws:=us) (ys:=ys) (G':=[]) ei hv eF (.refl r.d) r1 List.nodup_nil (fun _ z=>nomatch z)
  have tf:aE K dl (upd H p (.lst us)) w x []:=by
   have tf:TF H (upd H p (.lst us)):=⟨fun a us' h=>(by
    rw[ai];exact h;intro z;subst z;rw[h]at h1;cases h1),fun a ob u h=>(by
    rw[ai];exact h;intro z;subst z;rw[h]at h1;cases h1),fun a φ h=>(by
    rw[ai];exact h;intro z;subst z;rw[h]at h1;cases h1),fun a xs' h=>(by
    by_cases z:a=p
    ·subst z;exact⟨_,aj⟩
    ·exact⟨xs',by rw[ai z];exact h⟩),fun a x h=>⟨x,Int.le_refl _,by
    rw[ai];exact h;intro z;subst z;rw[h]at h1;cases h1⟩⟩
   exact r2.cN tf (fun _ z=>z) fun _ z=>nomatch z
  exact E.nx _ _ _ (r3.Ov (i:=j) (.refl r3.d) (.c tf) (fun _ z=>nomatch z) List.nodup_nil) hq
 ·exact hq.elim
theorem FP{i:Nat}(hN:X.N.Nodup)(hi:X.N[j]? = some x)(hx:Loc X.env.scope x)(ho:PE X o (b7 i))(hK:X.K=K:=by rfl)(fF:attributeBase o "pop" X.env (eval o X.env)=eval o X.env:=by rfl)(fD:(apos.endLine==bq.line)=true:=by rfl)
  (hs:swapsWith (.Call (.Attribute o "pop" apos) [] [] bq) (some (.Name x pos')) pos.line X.env=pure false:=by rfl) (hf:X.fn x=true\/X.env.scope.names.lookup x=some .local:=by first|exact .inl rfl|exact .inr rfl|assumption) :
  QPS X K (.Assign [.Name x pos'] (.Call (.Attribute o "pop" apos) [] [] bq) pos) (jd (NN K "list" N7 (b7 i)) (fG j)) (Ol i j) :=
 ⟨by subst hK;exact iz hN hi hx (GA PySem.F.plainAttrs_list PySem.F.slot_list_pop PySem.F.type_list_pop GV ho fF fD) hs hf,JY⟩
def FX(g:Tg)(qe:QE):QS:=fun D q=>qe q fun t=>t.im=true/\∃ q',g.put t q=some q'/\D.nx q'
theorem JW(he:iV K te qe):nJ K (jd te (g.h K)) (FX g qe):=fun dl H₀ hs H σ q Dq D ⟨F,r⟩ hq E=>he dl H σ q _ _ r.rd hq fun v t F' H' e1 r1 ⟨him,q',hq',hz⟩=>by
 obtain rfl:=r1.r.im him;exact vX (r.evo e1) r1 (fun _ _ _ _ _ z=>nomatch z) hq' fun σ' r'=>E.nx _ _ _ r' hz
theorem iu(he:QPE X K e te qe)(hg:PG X tg (g.h K))(hs:swapsWithSole [tg] e pos.line X.env=pure false:=by rfl)(hw:swappedStores [tg] e X.env=pure none:=by rfl)
  (h1:(assignEach [tg] X.env).map (·.2) = [assign tg X.env]:=by rfl):QPS X K (.Assign [tg] e pos) (jd te (g.h K)) (FX g qe):=⟨wg he.h hg hs hw h1,JW he.s⟩
def T.key:T->Option Key
 | .i x=>some (.inl x)
 | .s x=>some (.inr x)
 | _=>none
theorem aE.key{v:V}{t:T}{F:List Addr}{k:Key}(h:aE K dl H v t F)(e:t.key=some k):v=kV k:=by
 cases h <;> first |(cases e;rfl)|cases e
def a7(ks:List (Key×T))(k:Key):Option T:=(ks.find? fun p=>decide (p.1=k)).map (·.2)
def oJ(ks:List (Key×T))(k:Key)(t:T):List (Key×T):=if(ks.any fun p=>decide (p.1=k))=true then ks.map (fun p=>if p.1=k then(p.1,t)else p)else ks ++ [(k,t)]
theorem aR.look{vs:List (Key×V)}{ts:List (Key×T)}{F:List Addr}(k:Key)(h:aR K dl H vs ts F):(a7 ts k=none/\d9 vs k=none)\/∃ t v G,a7 ts k=some t/\d9 vs k=some v/\aE K dl H v t G/\∀ b∈G,b∈F :=
 h.ind (M:=fun vs ts F=>(a7 ts k=none/\d9 vs k=none)\/∃ t v G,a7 ts k=some t/\d9 vs k=some v/\aE K dl H v t G/\∀ b∈G,b∈F) (.inl ⟨rfl,rfl⟩) fun k0 v x vs ts F G h r ih=>by
  by_cases e:k0=k
  ·subst e;exact .inr ⟨_,_,_,by simp[a7],by simp[d9],h,fun b hb=>List.mem_append_left _ hb⟩
  ·rcases ih with⟨h1,h2⟩ |⟨t,v,G,h1,h2,h3,h4⟩
   ·refine .inl ⟨?_,?_⟩
    ·unfold a7 at h1 ⊢;rw[List.find?_cons,decide_eq_false e];exact h1
    ·unfold d9 at h2 ⊢;rw[List.find?_cons,decide_eq_false e];exact h2
   ·refine .inr ⟨t,v,G,?_,?_,h3,fun b hb=>List.mem_append_right _ (h4 b hb)⟩
    ·unfold a7 at h1 ⊢;rw[List.find?_cons,decide_eq_false e];exact h1
    ·unfold d9 at h2 ⊢;rw[List.find?_cons,decide_eq_false e];exact h2
mutual
def T.imk:List (Key×T)->Bool
 | []=>true
 | (_,x)::r=>x.im&&T.imk r
end
theorem aR.im{vs:List (Key×V)}{ts:List (Key×T)}{F:List Addr}(h:aR K dl H vs ts F):T.imk ts=true->F = []:=h.ind (M:=fun _ t F=>T.imk t=true->F = []) (fun _=>rfl) (fun _ _ _ _ _ _ _ h _ ih=>Aw h.im ih)
theorem aR.keys{vs:List (Key×V)}{ts:List (Key×T)}{F:List Addr}(h:aR K dl H vs ts F)(k:Key):(vs.any fun p=>decide (p.1=k))=ts.any fun p=>decide (p.1=k) :=
 h.ind (M:=fun vs ts _=>(vs.any fun p=>decide (p.1=k))=ts.any fun p=>decide (p.1=k)) rfl fun _ _ _ _ _ _ _ _ _ ih=>by rw[List.any_cons,List.any_cons,ih]
theorem aR.put{k:Key}{w:V}{t:T}(hw:aE K dl H w t []):∀{vs:List (Key×V)}{ts:List (Key×T)},aR K dl H vs ts []->aR K dl H (putK vs k w) (oJ ts k t) []:=by
 have mp:∀{vs:List (Key×V)}{ts:List (Key×T)}{F:List Addr},aR K dl H vs ts F->F = []->aR K dl H (vs.map fun p=>if p.1=k then(p.1,w)else p) (ts.map fun p=>if p.1=k then(p.1,t)else p) []:=by
  intro vs ts F h
  induction ts generalizing vs F with
  | nil=>intro _;cases h;exact .nil
  | cons p ts ih =>
   cases h with
   | @cons k0 v x vs _ F1 F2 h1 h2 =>
    intro e;obtain⟨e1,e2⟩:=List.append_eq_nil_iff.mp e;subst e1 e2;have z:=ih h2 rfl;rw[List.map_cons,List.map_cons];by_cases e0:k0=k
    ·show aR K dl H ((if k0=k then(k0,w)else(k0,v))::_) ((if k0=k then(k0,t)else(k0,x))::_) ([] ++ [])
     rw[if_pos e0,if_pos e0];exact .cons hw z
    ·show aR K dl H ((if k0=k then(k0,w)else(k0,v))::_) ((if k0=k then(k0,t)else(k0,x))::_) ([] ++ [])
     rw[if_neg e0,if_neg e0];exact .cons h1 z
 have sn:∀{vs:List (Key×V)}{ts:List (Key×T)}{F:List Addr},aR K dl H vs ts F->aR K dl H (vs ++ [(k,w)]) (ts ++ [(k,t)]) F:=by
  intro vs ts F h
  induction ts generalizing vs F with
  | nil=>cases h;exact .cons (F:=[]) hw .nil
  | cons p ts ih =>
   cases h with
   | cons h1 h2=>exact .cons h1 (ih h2)
 intro vs ts h;unfold putK oJ;rw[h.keys k]
 split
 ·exact mp h rfl
 ·exact sn h
theorem qQ:QPF X K (.Dict [] [] pos) EU (qC (.d [])):=⟨Gy,fun dl H σ q Q R rd hq k=>fun p hp=>k _ _ [p] _ ((Evo.refl rd.d).new hp) ⟨.d aj .nil,fun b hb=>by rw[List.mem_singleton.mp hb];exact rd.d.nd0 hp⟩ (fun b hb=>by rw[List.mem_singleton.mp hb];exact hp) (by simp) hq⟩
def Oa(neg:Bool):R2:=fun y x H Q=>∃ a o,x = .ref a/\g9 H a y o/\Q (.bl (if neg then !o.isSome else o.isSome)) H
theorem GH(hu:X.A.units+1<cLine):OpR X (compareOp .In) (Oa false):=by
 intro gV s σ H y x u v Q I ry rx h;obtain⟨a,o,rfl,g,q⟩:=h;cases rx;exact VJ hu I g ry fun s' I'=>⟨.bl _,H,I',rfl,q⟩
theorem u9(hu:X.A.units+1<cLine):OpR X (compareOp .NotIn) (Oa true):=by
 intro gV s σ H y x u v Q I ry rx h;obtain⟨a,o,rfl,g,q⟩:=h;cases rx;exact L5 hu I g ry fun s' I'=>⟨.bl _,H,I',rfl,q⟩
def S6:T->Option Str
 | .s x=>some x
 | _=>none
abbrev txs:List T->Option (List Str):=picks S6
theorem aw.txs{vs:List V}{ts:List T}{F:List Addr}{bs:List Str}(h:aw K dl H vs ts F)(e:L2.txs ts=some bs):vs=bs.map V.str :=
 h.picks (f:=S6) (fun v t F a h e=>by cases t <;> first |(cases e;exact h.str.1)|cases e) e
theorem JK(bs:List Str):txs (bs.map T.s)=some bs:=by
 induction bs with
 | nil=>rfl
 | cons b r ih=>show(txs (r.map T.s)).map (b :: ·)=_;rw[ih];rfl
def Rw(qo qe:QE):QE:=fun q Q=>qo q fun s=>match s with
 | .s sep=>qe q fun t=>match t with
  | .l xs=>∃ ys,txs xs=some ys/\(ys.map (·.length)).sum+ys.length*sep.length<=16777216/\Q (.s (Txt.join sep ys))
  | _=>False
 | _=>False
theorem Ky{qo:QE}(ho:QPE X K o to qo)(he:QPE X K e te qe)(hK:X.K=K:=by rfl)(fF:attributeBase o "join" X.env (eval o X.env)=eval o X.env:=by rfl)
  (sZ:((backTo bq (starEach [e] X.env)).all (fun x=>!x.1)&&(backToKw bq (keywordEach [] X.env)).all (fun x=>x.1.isSome)
   && decide (([e]:List Expr).length+([]:List Keyword).length+(if([]:List Keyword).isEmpty then 0 else 1)<30))=true:=by rfl)
  (fD:(apos.endLine==bq.line)=true:=by rfl) (hs:starEach [e] X.env =(false,eval e X.env)::starEach [] X.env:=by rfl) (fC:(backTo bq (starEach [] X.env)).any (·.1)=false:=by rfl) :
  QPF X K (.Call (.Attribute o "join" apos) [e] [] bq) (tBM K "str" (rJoin K) to (cu te kz)) (Rw qo qe):=⟨by
 subst hK;exact GB PySem.F.plainAttrs_str PySem.F.slot_str_join PySem.F.type_str_join Ls ho.h (bw he.h eB hs) fF sZ fD hs fC,fun dl H σ q Q R rd hq k=>ho.s dl H σ q _ _ rd hq fun v t F H1 e1 r1 hq=>by
  split at hq
  ·obtain⟨rfl,_⟩:=r1.r.str;refine⟨rfl,he.s dl H1 σ q _ _ (rd.evo e1) hq fun w u F2 H2 e2 r2 hq=>?_⟩
   split at hq
   ·obtain⟨ys,hy,hz,hq⟩:=hq;obtain⟨p,vs,G,rfl,eF,h1,h2⟩:=r2.r.lst;have ev:=h2.txs hy;subst ev;exact⟨_,p,ys,rfl,rfl,SqL.of h1,hz,k _ _ [] H2 (e1.trans e2) (.c (.s _)) (fun _ z=>nomatch z) List.nodup_nil hq⟩
   ·exact hq.elim
  ·exact hq.elim⟩
def MK(i:Nat)(qk qv:QE):QS:=fun D q=>qv q fun t=>match q[i]? with
 | some (.o (.l xs))=>qk q fun u=>match u with
  | .i k=>∃ j,ixN xs.length k=some j/\T.ims xs=true/\t.im=true/\D.nx (q.set i (.o (.l (xs.set j t))))
  | _=>False
 | _=>False
end
def nj(vs ws:List V):Bool:=vs.length==ws.length&&(List.range vs.length).all fun j=>match vs[j]?,ws[j]? with|some x,some y=>eqV x y | _,_=>false
variable{its:List Value}
section
variable{X:Cx}{K:W.Frag}
theorem Vals.at'{vs:List V}(r:Vals vs its)(h:j<its.toArray.size):∃ v,vs[j]? = some v/\RelV v its.toArray[j]:=by
 have hl:=r.length;have hj:j<its.length:=by simpa using h
 have hv:j<vs.length:=by omega
 obtain⟨u,h1,h2⟩:=r.get (i:=j) (x:=vs[j]) (by simp[hv])
 have:its[j]? = some its[j]:=by simp[hj]
 rw[this]at h1;cases h1;exact⟨vs[j],by simp[hv],by simpa using h2⟩
theorem kl{vs:List V}{v:V}(h:vs.all eT=true)(e:vs[j]? = some v):eT v=true:=List.all_eq_true.mp h v (List.mem_of_getElem? e)
def Rl(K:W.Frag):R2:=fun x y H Q=>∃ p q vs ws,x = .ref p/\y = .ref q/\((SqL K H p vs/\SqL K H q ws)\/(SqT K H p vs/\SqT K H q ws))/\vs.all eT=true/\ws.all eT=true/\Q (.bl (nj vs ws)) H
theorem OU(hu:X.A.units+1<cLine):OpR X (compareOp .Eq) (Rl X.K):=by
 intro gV s σ H x y v u Q I rx ry h;obtain⟨p,q,vs,ws,rfl,rfl,hs,f1,f2,k⟩:=h;cases rx;cases ry;rcases hs with⟨h1,h2⟩ |⟨h1,h2⟩
 ·obtain⟨its,r1,p1,_⟩:=I.list h1;obtain⟨cc,r2,p2,_⟩:=I.list h2;have l1:=r1.length;have l2:=r2.length;by_cases hl:its.length=cc.length
  ·refine SeqAt.eq_listAt (e:=fun j=>match vs[j]?,ws[j]? with|some x,some y=>eqV x y | _,_=>false) p1.isList p2.isList (by simpa using hl) (by omega) (fun j g1 g2=>?_) ⟨.bl _,H,I,rfl,?_⟩
   ·obtain⟨a,ea,ra⟩:=r1.at' g1;obtain⟨b,eb,rb⟩:=r2.at' g2;simp only[ea,eb];exact oY ra rb (kl f1 ea) (kl f2 eb)
   ·have e:nj vs ws =(List.range its.toArray.size).all fun j=>match vs[j]?,ws[j]? with|some x,some y=>eqV x y | _,_=>false:=by
     unfold nj;rw[show(vs.length==ws.length)=true from by simp;omega,Bool.true_and,List.size_toArray,l1]
    rw[<- e];exact k
  ·refine SeqAt.eq_list_lengthsAt p1.isList p2.isList (by simpa using hl) (by omega) ⟨.bl _,H,I,rfl,?_⟩
   have e:nj vs ws=false:=by
    unfold nj;rw[show(vs.length==ws.length)=false from by simp;omega,Bool.false_and]
   rw[<- e];exact k
 ·obtain⟨its,r1,p1,_⟩:=I.tuple h1;obtain⟨cc,r2,p2,_⟩:=I.tuple h2;have l1:=r1.length;have l2:=r2.length;refine SeqAt.eq_tupleAt (e:=fun j=>match vs[j]?,ws[j]? with|some x,some y=>eqV x y | _,_=>false) (show s.heap.IsTuple p its.toArray from p1) (show s.heap.IsTuple q cc.toArray from p2) (by omega) (fun j g1 g2=>?_) ⟨.bl _,H,I,rfl,?_⟩
  ·obtain⟨a,ea,ra⟩:=r1.at' g1;obtain⟨b,eb,rb⟩:=r2.at' g2;simp only[ea,eb];exact oY ra rb (kl f1 ea) (kl f2 eb)
  ·have e:nj vs ws =((List.range (min its.toArray.size cc.toArray.size)).all (fun j=>match vs[j]?,ws[j]? with|some x,some y=>eqV x y | _,_=>false)&&its.toArray.size==cc.toArray.size):=by
    unfold nj;rw[List.size_toArray,List.size_toArray,<- l1,<- l2,Bool.and_comm];by_cases hl:vs.length=ws.length
    ·rw[hl,Nat.min_self]
    ·rw[show(vs.length==ws.length)=false from by simpa using hl,Bool.and_false,Bool.and_false]
   rw[<- e];exact k
def eqF(xs ys:List T):Bool:=nj (xs.map T.v) (ys.map T.v)
def qj:Q2:=fun t u Q=>match t,u with
 | .l xs,.l ys=>(fls xs&&fls ys)=true/\Q (.b (eqF xs ys))
 | .t xs,.t ys=>(fls xs&&fls ys)=true/\Q (.b (eqF xs ys))
 | t,u=>qEq t u Q
def Km(K:W.Frag):R2:=fun x y H Q=>rEq x y H Q\/Rl K x y H Q
theorem zO(hu:X.A.units+1<cLine)(hK:X.K=K):OpR X (compareOp .Eq) (Km K):=by subst hK;exact MR.or (OU hu)
theorem vP:cL K (Km K) qj:=by
 intro dl H x y t u F G Q R D r1 r2 hq k;unfold qj at hq
 split at hq
 ·obtain⟨p,vs,G1,rfl,rfl,h1,h2⟩:=r1.r.lst;obtain⟨p',vs',G2,rfl,rfl,h3,h4⟩:=r2.r.lst;obtain⟨f,hq⟩:=hq;rw[Bool.and_eq_true]at f;obtain⟨rfl,rfl⟩:=h2.vs f.1;obtain⟨rfl,rfl⟩:=h4.vs f.2;exact .inr ⟨p,p',_,_,rfl,rfl,.inl ⟨SqL.of h1,SqL.of h3⟩,lX f.1,lX f.2,k _ _ [] H (.refl D) (.c (.b _)) (fun _ z=>nomatch z) List.nodup_nil hq⟩
 ·obtain⟨p,vs,rfl,h1,h2⟩:=r1.r.tup;obtain⟨p',vs',rfl,h3,h4⟩:=r2.r.tup;obtain⟨f,hq⟩:=hq;rw[Bool.and_eq_true]at f;obtain⟨rfl,rfl⟩:=h2.vs f.1;obtain⟨rfl,rfl⟩:=h4.vs f.2;exact .inr ⟨p,p',_,_,rfl,rfl,.inr ⟨SqT.of h1,SqT.of h3⟩,lX f.1,lX f.2,k _ _ [] H (.refl D) (.c (.b _)) (fun _ z=>nomatch z) List.nodup_nil hq⟩
 ·exact .inl (N1 dl H x y t u F G Q R D r1 r2 hq k)
end
end L2
namespace PySem
open Sem (wp)
section
variable{prog:Program}{w:World}{A:Around}{E:Value->Shared->Prop}
theorem qD:typeLookup (.type "tuple") "keys" = pure none:=am_miss_of_fast (by decide +kernel)
theorem sT:typeLookup (.type "list") "keys" = pure none:=am_miss_of_fast (by decide +kernel)
set_option maxRecDepth 8000 in
theorem qE{s:Shared}{a:Addr}{o:Obj}{xs:Array Value}{k:Nat}{Q:Option Value->Shared->Prop}
  (hx:s.heap.get? a=some o) (hc:o.cls = .type "tuple") (Hu:o.data = .seq xs k) (hd:o.dict=none) (hA:A.handled=none)
  (h:∀ h' tk,(∀ b o,s.heap.get? b=some o->h'.get? b=some o)->Q none { s with heap:=h',toks:=tk }) :
  wpAny (model prog w) A (getAttr? (.ref a) "keys") Q E s:=by
 obtain⟨c,dct,dat,sl⟩:=o;simp only at hc Hu hd;subst hc Hu hd;obtain⟨hp,g,d,tk,os⟩:=s;have hT:∀ tk',(⟨hp,g,d,tk',os⟩:Shared).TypeIs (.ref a) "tuple":=fun _=>⟨_,hx,rfl⟩
 have f1:=sub_AttributeError;have f3:=F.slot_tuple_getattribute.lookup;have f4:=F.slot_tuple_getattribute.bind (.ref a);have f5:=am_tuple_getattr_none;unfold getAttr? getAttrBy? getAttrBy
 repeat (any_goals (first|assumption|exact hT _ |((with_reducible show wpAny _ _ (call (Value.builtin "tuple.__getattribute__") _ _) _ _ _);refine call_meets F.slot_tuple_getattribute (hT _) am_entry_tuple_getattribute (F.args_tuple_getattribute_2 _ _) (meets_getattribute_miss_tuple a xs k sl "keys" _ qD (by decide +kernel) (by decide +kernel)) ⟨hx,hA,fun h' tk' e hx'=>?_⟩)|wp_step))
 obtain⟨t',u',he⟩:=hx'.there;show wpAny _ _ (getattributeRaised _ _ _ _ _ _ _) _ _ _;unfold getattributeRaised
 repeat (any_goals (first|assumption|wp_step))
 exact h _ _ hx'.keeps
set_option maxRecDepth 8000 in
theorem sS{s:Shared}{a:Addr}{o:Obj}{xs:Array Value}{k:Nat}{Q:Option Value->Shared->Prop}
  (hx:s.heap.get? a=some o) (hc:o.cls = .type "list") (Hu:o.data = .seq xs k) (hd:o.dict=none) (hA:A.handled=none)
  (h:∀ h' tk,(∀ b o,s.heap.get? b=some o->h'.get? b=some o)->Q none { s with heap:=h',toks:=tk }) :
  wpAny (model prog w) A (getAttr? (.ref a) "keys") Q E s:=by
 obtain⟨c,dct,dat,sl⟩:=o;simp only at hc Hu hd;subst hc Hu hd;obtain⟨hp,g,d,tk,os⟩:=s;have hT:∀ tk',(⟨hp,g,d,tk',os⟩:Shared).TypeIs (.ref a) "list":=fun _=>⟨_,hx,rfl⟩
 have f1:=sub_AttributeError;have f3:=F.slot_list_getattribute.lookup;have f4:=F.slot_list_getattribute.bind (.ref a);have f5:=am_list_getattr_none;unfold getAttr? getAttrBy? getAttrBy
 repeat (any_goals (first|assumption|exact hT _ |((with_reducible show wpAny _ _ (call (Value.builtin "list.__getattribute__") _ _) _ _ _);refine call_meets F.slot_list_getattribute (hT _) am_entry_list_getattribute (F.args_list_getattribute_2 _ _) (meets_getattribute_miss_list a xs k sl "keys" _ sT (by decide +kernel) (by decide +kernel)) ⟨hx,hA,fun h' tk' e hx'=>?_⟩)|wp_step))
 obtain⟨t',u',he⟩:=hx'.there;show wpAny _ _ (getattributeRaised _ _ _ _ _ _ _) _ _ _;unfold getattributeRaised
 repeat (any_goals (first|assumption|wp_step))
 exact h _ _ hx'.keeps
end
end PySem
namespace PySem
open Sem (wp)
namespace F
theorem di:entryFor table "dict.update.loop" = some Builtin.«dict.update.loop»:=entryFor_of_tree (by kernel_rfl)
theorem bo:plainId "dict.update.loop" = true:=by decide +kernel
end F
section
variable{prog:Program}{w:World}{A:Around}{R:Result->Shared->Prop}{I:Addr}{fp wr:List Addr}{n:Nat}{P:Nat->Value->Prop}{St:Nat->Heap->Prop}{κ:Type}[DecidableEq κ]{knd:KeyKind prog w κ}
theorem uo(kvs:List (κ×Value))(k:κ)(v:Value):(stored kvs k v).length<=kvs.length+1:=by
 unfold stored
 split <;> simp
theorem uB(kvs:List (κ×Value)):∀(more:List (κ×Value)),(merged kvs more).length<=kvs.length+more.length:=by
 intro more
 induction more generalizing kvs with
 | nil=>exact Nat.le_refl _
 | cons p r ih =>
  have h1:=ih (stored kvs p.1 p.2);have h2:=uo kvs p.1 p.2;show(merged (stored kvs p.1 p.2) r).length<=_;simp only[List.length_cons];omega
theorem gm(W:Walks prog w A.in1 I fp wr n P St)(S:Addr)(hSf:S ∉ fp)(res:Value)(h0:Heap)(kvs pairs:List (κ×Value))(hsz:kvs.length+pairs.length<=sizeLine)(hnl:pairs.length=n)
  (hp:∀ i v,P i v->∃(a:Addr)(o:Obj)(key val:Value)(k:κ)(m:Nat),v = .ref a/\pairs[i]? = some (k,val)/\knd.is k key=true/\h0.get? a=some o/\o.cls = .type "tuple" /\ o.data = .seq #[key,val] m/\a ∉ wr/\a≠S) :
  ∀(j i:Nat)(s:Shared),n - i=j->i<=n->St i s.heap->s.heap.DictOf knd S (merged kvs (pairs.take i)) ->(∀ b o,b ∉ wr->b≠S->h0.get? b=some o->s.heap.get? b=some o) ->
  (∀ h' tk,(∀ b o,b ∉ wr->b≠S->s.heap.get? b=some o->h'.get? b=some o)->h'.DictOf knd S (merged kvs pairs)->R (.ok (.ret res)) { s with heap:=h',toks:=tk }) ->
  codeAny (model prog w) A (.builtin "dict.update.loop" ⟨[.ref S,.ref I,rawInt i,res],[]⟩) R s:=by
 have hSw:S ∉ wr:=fun h=>hSf (W.sub _ h)
 intro j
 induction j with
 | zero =>
  intro i s hk hi hst hS hk0 hR;have hin:i=n:=by omega
  subst hin;refine codeAny_builtin F.di ?_;rw[Around.under_plainId F.bo _];show wpAny _ A.in1 (pyNext (.ref I) >>= _) _ _ s;refine wpAny_bind (W.done s _ _ hst fun h' tk hk'=>?_)
  show wpAny _ A.in1 (Builtin.Dict.addKeywords S [] >>= _) _ _ _;refine wpAny_bind (wpAny_pure (wpAny_pure (hR h' tk (fun b o hb _ e=>hk' b o hb e) ?_)))
  rw[<- hnl,List.take_length]at hS;obtain⟨o,es,ep,ho,r⟩:=hS;exact⟨o,es,ep,hk' S o hSw ho,r⟩
 | succ j ih =>
  intro i s hk hi hst hS hk0 hR;have hlt:i<n:=by omega
  refine codeAny_builtin F.di ?_;rw[Around.under_plainId F.bo _];show wpAny _ A.in1 (pyNext (.ref I) >>= _) _ _ s;refine wpAny_bind (W.item i s _ _ hlt hst fun v h' tk hP Vq hk'=>?_)
  obtain⟨a,o,key,val,k,m,rfl,hpi,PQ,ho,hc,hd,haw,haS⟩:=hp i v hP;have ho':h'.get? a=some o:=hk' a o haw (hk0 a o haw haS ho);have hS':h'.DictOf knd S (merged kvs (pairs.take i)):=by
   obtain⟨o,es,ep,ho,r⟩:=hS;exact⟨o,es,ep,hk' S o hSw ho,r⟩
  show wpAny _ A.in1 (holding [Value.ref a] _ >>= _) _ _ _;refine wpAny_bind (wpAny_holding ?_);refine wpAny_bind (wpAny_tryCatch ?_);unfold Builtin.Dict.pairItems;refine wpAny_bind (wpAny_typeOf (T:="tuple") ⟨o,ho',hc⟩ ?_);rw[if_pos (by decide)]
  refine wpAny_bind (wpAny_seqItems ho' hd (wpAny_pure ?_));show wpAny _ A.in1 (holding [key,val] (dictSet S key val)) _ _ _;have hml:(merged kvs (pairs.take i)).length<=sizeLine:=by
   have h1:=uB kvs (pairs.take i);rw[List.length_take]at h1;omega
  refine wpAny_holding (wpAny_dictSet_pairs (hsz:=hml) PQ hS' fun h'' SH hsb=>?_)
  have e:=merged_take_succ kvs pairs i (k,val) hpi;rw[<- e]at SH;have fr:∀ b o,b≠S->h'.get? b=some o->h''.get? b=some o:=fun b o hb eb=>(hsb.2 b hb).trans eb
  refine wpAny_pure ⟨plainId_quiet F.bo _,ih (i+1) _ (by omega) hlt (W.frame _ _ _ Vq fun b hb o eb=>fr b o (fun z=>hSf (z▸hb)) eb) SH (fun b o hb hbS eb=>fr b o hbS (hk' b o hb (hk0 b o hb hbS eb))) fun h3 tk3 hk3 hS3=>?_⟩
  exact hR h3 tk3 (fun b o hb hbS eb=>hk3 b o hb hbS (fr b o hbS (hk' b o hb eb))) hS3
end
end PySem
namespace PySem
open Sem (wp)
section
variable{prog:Program}{w:World}{A:Around}{E:Value->Shared->Prop}{s:Shared}{κ:Type}[DecidableEq κ]{knd:KeyKind prog w κ}
theorem om{S p:Addr}{its:Array Value}{kvs pairs:List (κ×Value)}{id:String}{res:Value}{R:Result->Shared->Prop}(hh:A.handled=none)(hS:s.heap.DictOf knd S kvs)(hpS:p≠S)
  (ho:∃(o:Obj)(n:Nat),s.heap.get? p=some o/\o.dict=none/\o.data = .seq its n/\(o.cls = .type "tuple" \/ o.cls = .type "list")) (hsz:kvs.length+pairs.length<=sizeLine) (hnl:pairs.length=its.size)
  (hp:∀(i:Nat)(v:Value),its[i]? = some v->∃(a:Addr)(o:Obj)(key val:Value)(k:κ)(m:Nat),v = .ref a/\pairs[i]? = some (k,val)/\knd.is k key=true/\s.heap.get? a=some o/\o.cls = .type "tuple" /\ o.data = .seq #[key,val] m)
  (hR:∀ h' tk,(∀ b o,b≠S->s.heap.get? b=some o->h'.get? b=some o)->h'.DictOf knd S (merged kvs pairs)->R (.ok (.ret res)) { s with heap:=h',toks:=tk }) :
  wpAny (model prog w) A.in1 (Builtin.Dict.updateFrom id S (.ref p) [] res) (fun fin s'=>match fin with | .done f=>R (.ok f) s' | .again c'=>c'.quiet=true/\codeAny (model prog w) A c' R s') (fun e s'=>R (.error e) s') s:=by
 obtain⟨o,n,hg,hdn,hdt,hcl⟩:=ho;have V2:p<s.heap.objs.size:=Heap.lt_size hg;have V4:S<s.heap.objs.size:=by obtain⟨_,_,_,e,_⟩:=hS;exact Heap.lt_size e
 have fin:∀(h1:Heap)(tk:Nat)(h2:Heap)(I:Addr)(St:Nat->Heap->Prop),(∀ b o,s.heap.get? b=some o->h1.get? b=some o) ->(∀ b o,h1.get? b=some o->h2.get? b=some o)->h1.objs.size<=I->Walks prog w A.in1 I [I,p] [I] its.size (fun i v=>its[i]? = some v) St->St 0 h2 ->
   codeAny (model prog w) A (.builtin "dict.update.loop" ⟨[.ref S,.ref I,rawInt 0,res],[]⟩) R { s with heap:=h2,toks:=tk }:=by
  intro h1 tk h2 I St k1 k2 hI W hst;have lt1:∀ b o,s.heap.get? b=some o->b≠I:=fun b o e z=>by
   have:b<h1.objs.size:=Heap.lt_size (k1 b o e)
   exact absurd (Nat.lt_of_lt_of_le this hI) (by rw[z];exact Nat.lt_irrefl _)
  have hSI:S ∉ [I,p]:=fun z=>by
   obtain⟨o,_,_,e,_⟩:=hS;rcases List.mem_cons.mp z with z|z
   ·exact lt1 S o e z
   ·exact hpS (List.mem_singleton.mp z).symm
  refine gm (knd:=knd) W S hSI res s.heap kvs pairs hsz hnl (fun i v hP=>?_) its.size 0 _ rfl (Nat.zero_le _) hst ?_ (fun b o _ _ e=>k2 b o (k1 b o e)) fun h' tk' hk hS'=>?_
  ·obtain⟨a,oa,key,val,k,m,e1,e2,e3,e4,e5,e6⟩:=hp i v hP;refine⟨a,oa,key,val,k,m,e1,e2,e3,e4,e5,e6,fun z=>lt1 a oa e4 (List.mem_singleton.mp z),fun z=>?_⟩
   obtain⟨o,_,_,e,hc,hd,_⟩:=hS;rw[<- z,e4]at e;cases e;rw[e6]at hd;cases hd
  ·obtain⟨o,es,ep,e,r⟩:=hS;exact⟨o,es,ep,k2 _ _ (k1 _ _ e),r⟩
  ·exact hR h' tk' (fun b o hb e=>hk b o (fun z=>lt1 b o e (List.mem_singleton.mp z)) hb (k2 b o (k1 b o e))) hS'
 unfold Builtin.Dict.updateFrom;rcases hcl with hcl|hcl
 ·refine wpAny_bind (wpAny_typeOf (T:="tuple") ⟨o,hg,hcl⟩ ?_);rw[if_pos (by decide)]
  refine wpAny_bind (qE hg hcl hdt hdn hh fun h1 tk k1=>?_)
  rw[if_pos (show(none:Option Value).isNone=true from rfl)];refine wpAny_bind (wpAny_rule ?_);have hT:h1.IsTuple p its:=⟨o,k1 _ _ hg,hcl,n,hdt⟩;refine wpAny_bind (wpAny_pyIter_tuple hT ?_);refine wpAny_pure ⟨plainId_quiet F.bo _,?_⟩;exact fin h1 tk _ h1.objs.size _ k1 (fun b o e=>Heap.get?_push_of_some _ e) (Nat.le_refl _) (Walks.tuple (show A.in1.handled=none from hh) _ p (Nat.ne_of_lt (Heap.lt_size (k1 _ _ hg))) its) ⟨⟨_,Heap.get?_push_size _ rfl,rfl,rfl⟩,hT.push _⟩
 ·refine wpAny_bind (wpAny_typeOf (T:="list") ⟨o,hg,hcl⟩ ?_);rw[if_pos (by decide)]
  refine wpAny_bind (sS hg hcl hdt hdn hh fun h1 tk k1=>?_)
  rw[if_pos (show(none:Option Value).isNone=true from rfl)];refine wpAny_bind (wpAny_rule ?_);have hT:h1.IsList p its:=⟨o,k1 _ _ hg,hcl,n,hdt⟩;refine wpAny_bind (wpAny_pyIter_list hT ?_);refine wpAny_pure ⟨plainId_quiet F.bo _,?_⟩;exact fin h1 tk _ h1.objs.size _ k1 (fun b o e=>Heap.get?_push_of_some _ e) (Nat.le_refl _) (Walks.list (show A.in1.handled=none from hh) _ p (Nat.ne_of_lt (Heap.lt_size (k1 _ _ hg))) its) ⟨⟨_,Heap.get?_push_size _ rfl,rfl,rfl⟩,hT.push _⟩
end
end PySem
namespace L2
open PySem PySem.Spec PyProof.Rows
variable{gV:List (Addr×Obj)}{H:Hp}{a:Addr}{xs:List V}
section
variable{X:Cx}{K:W.Frag}
theorem Inv.ND{σ:St}{s:Shared}(I:Inv X gV σ H s)(h:H a=some (.tup xs)):∃ its:List Value,Vals xs its/\mq s.heap a its.toArray/\xs.length<=sizeLine:=by
 obtain⟨z,its,r,p⟩:=(show aW X.prog X.w H s.heap a (.tup xs)from I.hok a _ h);exact⟨its,r,p,z⟩
theorem GC{σ:St}{s:Shared}(I:Inv X gV σ H s):∀{ps:List Addr}{kvs:List (Key×V)}{us:List Value},Vals (ps.map V.ref) us->ps.length=kvs.length ->(∀(i:Nat)(p:Addr)(kv:Key×V),ps[i]? = some p->kvs[i]? = some kv->H p=some (.tup [kV kv.1,kv.2])) ->
  ∃ pairs:List (Key×Value),KV kvs pairs/\∀(i:Nat)(v:Value),us[i]? = some v->∃(a:Addr)(o:Obj)(key val:Value)(k:Key)(m:Nat),v = .ref a/\pairs[i]? = some (k,val)/\(bp X.prog X.w).is k key=true/\s.heap.get? a=some o/\o.cls = .type "tuple" /\ o.data = .seq #[key,val] m:=by
 intro ps
 induction ps with
 | nil =>
  intro kvs us r hl _;have e:kvs = []:=by cases kvs with|nil=>rfl|cons _ _=>simp at hl
  subst e;cases r;exact⟨[],.nil,fun i v h=>by simp at h⟩
 | cons p ps ih =>
  intro kvs us r hl h;cases kvs with
  | nil=>simp at hl
  | cons kv kvs =>
   cases r with
   | @cons _ u _ us r1 r2 =>
    obtain⟨pairs,h1,h2⟩:=ih (kvs:=kvs) (us:=us) r2 (by simpa using hl) fun i p kv e1 e2=>h (i+1) p kv (by simpa using e1) (by simpa using e2)
    have hp:=h 0 p kv (by simp) (by simp)
    obtain⟨its,ri,⟨o,ho,hc,m,hd⟩,_⟩:=I.tuple (SqT.of (K:=X.K) hp);cases ri with
    | @cons _ key _ rest k1 k2 =>
     cases k2 with
     | @cons _ val _ V0 k3 k4 =>
      cases k4;refine⟨(kv.1,val)::pairs,.cons ⟨rfl,k3⟩ h1,fun i v hv=>?_⟩
      cases i with
      | zero =>
       simp at hv;subst hv
       cases(show u=Value.ref p from r1)
       exact⟨p,o,key,val,kv.1,m,rfl,by simp,nc k1,ho,hc,hd⟩
      | succ i =>
       obtain⟨a,oa,Vj,UP,k,m',e1,e2,e3⟩:=h2 i v (by simpa using hv)
       exact⟨a,oa,Vj,UP,k,m',e1,by simpa using e2,e3⟩
def vY:List V->Hp->VK->Prop:=fun xs H Q=>∃(p:Addr)(ps:List Addr)(kvs:List (Key×V)),xs = [.ref p]/\(H p=some (.tup (ps.map V.ref))\/H p=some (.lst (ps.map V.ref)))/\ps.length=kvs.length /\
 (∀(i:Nat)(a:Addr)(kv:Key×V),ps[i]? = some a->kvs[i]? = some kv->H a=some (.tup [kV kv.1,kv.2]))/\∀ d,H d=none->Q (.ref d) (upd H d (.dK (eC [] kvs)))
theorem nF(hc:X.calm=true):cj X (.type "dict") vY:=by
 intro gV s σ H xs us Q I r h;obtain⟨p,ps,kvs,rfl,hp,hl,hps,q⟩:=h;obtain⟨u,rfl,ru⟩:=vals1 r;cases ru;have hh:X.A.handled=none:=I.ok.hd hc;obtain⟨its,rv,hz,ob⟩:∃ its:List Value,Vals (ps.map V.ref) its/\(ps.map V.ref).length<=sizeLine/\∃(o:Obj)(n:Nat),s.heap.get? p=some o/\o.dict=none/\o.data = .seq its.toArray n/\(o.cls = .type "tuple" \/ o.cls = .type "list"):=by
  rcases hp with hp|hp
  ·obtain⟨its,rv,⟨⟨o,ho,h1,n,h2⟩,o',ho',h3⟩,hz⟩:=I.ND hp;rw[ho]at ho';cases ho';exact⟨its,rv,hz,o,n,ho,h3,h2,.inl h1⟩
  ·obtain⟨hz,its,n,rv,e⟩:=(show aW X.prog X.w H s.heap p (.lst (ps.map V.ref))from I.hok p _ hp);exact⟨its,rv,hz,_,n,e,rfl,rfl,.inr rfl⟩
 obtain⟨pairs,kv,PL⟩:=GC I rv hl hps;refine callType_codes (Q₁:=fun obj s₁=>obj = .ref s.heap.objs.size/\s₁ ={ s with heap:=s.heap.push { cls:=.type "dict",data:=.dict #[] } }) F.kt_called_dict (F.kt_typeCall_dict_1 _) F.entry_dict_init (kt_code_dict_new _ ⟨rfl,rfl⟩) ?_
 rintro obj s₁ ⟨rfl,rfl⟩
 have Ay:(s.heap.push { cls:=.type "dict",data:=.dict #[] }).DictOf (bp X.prog X.w) s.heap.objs.size []:=Heap.DictOf.new s.heap;refine⟨Ay.typeIs,F.args_dict_init_2 _ _,?_⟩;unfold Builtin.«dict.__init__»;refine wpAny_bind ?_;unfold Builtin.Dict.selfAndRest;refine wpAny_bind (wpAny_notOrdered_dict Ay.typeIs ?_);show wpAny _ _ (pure (s.heap.objs.size,[Value.ref p])) _ _ _;refine wpAny_pure ?_;show wpAny _ _ (Builtin.Dict.updateFrom "dict.__init__" s.heap.objs.size (.ref p) [] .none) _ _ _;obtain⟨o,n,ho,hdn,hdt,hcl⟩:=ob;have hlv:=rv.length;rw[List.length_map]at hlv hz;have hkl:=kv.length;refine om (A:=X.A.in1) (knd:=bp X.prog X.w) (kvs:=[]) (pairs:=pairs) (its:=its.toArray) hh Ay (Nat.ne_of_lt (Heap.lt_size ho)) ⟨o,n,Heap.get?_push_of_some _ ho,hdn,hdt,hcl⟩ (by simp only[List.length_nil];omega) (by rw[List.size_toArray];omega) (fun i v hv=>?_) fun h' tk hk hd=>?_
 ·obtain⟨a,oa,key,val,k,m,e1,e2,e3,e4,e5,e6⟩:=PL i v (by simpa using hv)
  exact⟨a,oa,key,val,k,m,e1,e2,e3,Heap.get?_push_of_some _ e4,e5,e6⟩
 ·refine⟨rfl,.ref s.heap.objs.size,_,I.laid (t':=tk) (h':=h') (a:=s.heap.objs.size) (o:=.dK (eC [] kvs)) (fun b u e=>hk b u (Nat.ne_of_lt (Heap.lt_size e)) (Heap.get?_push_of_some _ e)) (Nat.le_refl _) ?_,rfl,q _ (I.hok.fresh (Nat.le_refl _))⟩
  refine wZ ?_ ?_ (KV.merge kv .nil) hd
  ·have:=gf kvs []
   simp only[List.length_nil]at this;omega
  ·have:=I.big
   exact beq_eq_false_iff_ne.mpr (Nat.ne_of_gt this)
end
def jx:List T->Option (List (Key×T))
 | []=>some []
 | .t [k,x]::r=>match k.key,jx r with
  | some k,some r=>some ((k,x)::r)
  | _,_=>none
 | _=>none
def dA(ks more:List (Key×T)):List (Key×T):=more.foldl (fun acc p=>oJ acc p.1 p.2) ks
section
variable{X:Cx}{K:W.Frag}{dl:Dl}
theorem aw.pairs:∀{vs:List V}{xs:List T}{F:List Addr}{kts:List (Key×T)},aw K dl H vs xs F->F = []->jx xs=some kts ->
  ∃(ps:List Addr)(kvs:List (Key×V)),vs=ps.map V.ref/\ps.length=kvs.length/\(∀(i:Nat)(a:Addr)(kv:Key×V),ps[i]? = some a->kvs[i]? = some kv->H a=some (.tup [kV kv.1,kv.2]))/\aR K dl H kvs kts []
 | _,_,_,kts,.nil,_,h=>by
  cases h;exact⟨[],[],rfl,rfl,fun i a kv h=>by simp at h,.nil⟩
 | _,x::xs,_,kts,.cons (F:=F1) h r,e,q=>by
  obtain⟨e1,e2⟩:=List.append_eq_nil_iff.mp e;unfold jx at q
  split at q
  ·rename_i z;cases z
  ·rename_i k y r' z;cases z
   split at q
   ·rename_i k0 r0 ek er;cases q;obtain⟨ps,kvs,rfl,hl,ht,hk⟩:=aw.pairs r e2 er;obtain⟨a,ws,rfl,ha,hws⟩:=h.tup;cases hws with
    | @cons w1 _ _ _ G1 G2 w1r w2r =>
     cases w2r with
     | @cons w2 _ _ _ G3 G4 h2 h3 =>
      cases h3;have e3:=w1r.key ek;subst e3;obtain⟨z1,z2⟩:=List.append_eq_nil_iff.mp e1;rw[List.append_nil]at z2;subst z1 z2;refine⟨a::ps,(k0,w2)::kvs,rfl,by simp[hl],fun i b kv h1 h2=>?_,.cons (F:=[]) h2 hk⟩
      cases i with
      | zero =>
       simp at h1 h2;subst h1 h2;exact ha
      | succ i=>exact ht i b kv (by simpa using h1) (by simpa using h2)
   ·cases q
  ·cases q
theorem aR.dA{kvs':List (Key×V)}{kts':List (Key×T)}{kvs:List (Key×V)}{kts:List (Key×T)}{F:List Addr}(h:aR K dl H kvs kts F):F = []->∀{vs:List (Key×V)}{ts:List (Key×T)},aR K dl H vs ts []->aR K dl H (eC vs kvs) (L2.dA ts kts) [] :=
 h.ind (M:=fun kvs kts F=>F = []->∀{vs:List (Key×V)}{ts:List (Key×T)},aR K dl H vs ts []->aR K dl H (eC vs kvs) (L2.dA ts kts) []) (fun _ _ _ h=>h) fun _ _ _ _ _ _ _ h1 _ ih e _ _ h=>by
  obtain⟨e1,e2⟩:=List.append_eq_nil_iff.mp e;subst e1;exact ih e2 (aR.put h1 h)
def Bz:QC:=fun ts Q=>match ts with
 | [.t xs]=>T.ims xs=true/\∃ kts,jx xs=some kts/\Q (.d (dA [] kts))
 | [.l xs]=>T.ims xs=true/\∃ kts,jx xs=some kts/\Q (.d (dA [] kts))
 | _=>False
theorem rN:t6 K vY Bz:=by
 intro dl H vs ts F Q R D r hq k;have go:∀(p:Addr)(ws:List V)(xs:List T),vs = [.ref p] ->(H p=some (.tup ws)\/H p=some (.lst ws))->aw K dl H ws xs [] ->(∃ kts,jx xs=some kts/\Q (.d (dA [] kts)))->vY vs H R:=by
  rintro p ws xs rfl hp rs ⟨kts,e,hq⟩
  obtain⟨ps,kvs,rfl,hl,ht,hk⟩:=rs.pairs rfl e;refine⟨p,ps,kvs,rfl,hp,hl,ht,fun d hd=>?_⟩
  have ev:=(Evo.refl D).new (o:=.dK (eC [] kvs)) hd;have h2:aR K dl H (eC [] kvs) (dA [] kts) []:=aR.dA (kvs':=[]) (kts':=[]) hk rfl .nil;exact k _ _ [d] _ ev ⟨.d aj (h2.cN (ev.tf D) (fun _ z=>z) fun _ z=>nomatch z),fun b hb=>by rw[List.mem_singleton.mp hb];exact D.nd0 hd⟩ (fun b hb=>by rw[List.mem_singleton.mp hb];exact hd) (by simp) hq
 unfold Bz at hq
 split at hq
 ·obtain⟨v,rfl,r'⟩:=r.one;obtain⟨p,ws,rfl,h1,h2⟩:=r'.r.tup;have e:=h2.im hq.1;subst e;exact go p ws _ rfl (.inl h1) h2 hq.2
 ·obtain⟨v,rfl,r'⟩:=r.one;obtain⟨p,ws,G,rfl,_,h1,h2⟩:=r'.r.lst;have e:=h2.im hq.1;subst e;exact go p ws _ rfl (.inr h1) h2 hq.2
 ·exact hq.elim
end
variable{P:Program}{mg:Str->Option Value}{base:Heap}{fd:FuncData}{ps:List Str}
section
variable{X:Cx}{K:W.Frag}{a b:Expr}{ta tb:TE}{qa qb:QE}{pos:Pos}
theorem OT:OpR X (compareOp .Is) (fun x y H Q=>∃ c d,x = .bl c/\y = .bl d/\Q (.bl (c==d)) H):=by
 intro gV s σ H x y v u Q I rx ry h;obtain⟨c,d,rfl,rfl,q⟩:=h;cases rx;cases ry;exact is_bool ⟨.bl _,H,I,rfl,q⟩
def Rz:Q2:=fun t u Q=>match t,u with
 | .b c,.b d=>Q (.b (c==d))
 | _,_=>False
theorem J8:cL K (fun x y H Q=>∃ c d,x = .bl c/\y = .bl d/\Q (.bl (c==d)) H) Rz:=by
 intro dl H x y t u F G Q R D r1 r2 hq k;unfold Rz at hq
 split at hq
 ·obtain⟨rfl,rfl⟩:=r1.r.bl;obtain⟨rfl,rfl⟩:=r2.r.bl;exact⟨_,_,rfl,rfl,k _ _ [] H (.refl D) (.c (.b _)) (fun _ z=>nomatch z) List.nodup_nil hq⟩
 ·exact hq.elim
def ft:PSp:=fun ts Q=>match ts with
 | [.cq,.i m]=>0<m/\m<18446744073709551616/\∀ r,0<=r->r<m->Q (.i r)
 | _=>False
theorem gj{w:World}{K:W.Frag}{k:Nat}{f:Addr}(F:aU P w K mg base CX0 k f fd ps EY):aU P w K mg base CX0 k f fd ps (spQ K ft):=by
 refine F.imp fun vs H Q E h=>?_
 obtain⟨dl,ts,Fp,Qp,D,r,h,fin⟩:=h;unfold ft at h
 split at h
 ·obtain⟨v,w',F1,F2,rfl,r1,r2⟩:=r.two;obtain⟨a,l,rfl,hm,_⟩:=r1.r.dea;obtain⟨rfl,_⟩:=r2.r.int;refine⟨a,l,_,rfl,D _ hm,h.1,h.2.1,fun r H' r0 r1' D' K'=>fin _ _ [] H' ⟨fun b o e n _=>K' b o e (n _ hm).1 (n _ hm).2,fun p hp=>?_,fun b x e=>⟨x,Int.le_refl _,by
   obtain⟨s2,n2,l2,Q2⟩:=D _ hm;exact K' b _ e (i6 e Q2.hd (fun z=>nomatch z)) (i6 e Q2.hl (fun z=>nomatch z))⟩⟩ (.c (.i _)) (fun _ z=>nomatch z) List.nodup_nil (h.2.2 r r0 r1')⟩
  by_cases e:p =(a,l)
  ·rw[e];exact D'
  ·obtain⟨s1,n1,l1,Q1⟩:=D p hp;obtain⟨s2,n2,l2,Q2⟩:=D _ hm;obtain⟨s3,n3,l3,Q3⟩:=D';have pa:p.1≠a:=fun z=>by
    have z1:=Q1.hd;have z2:=Q2.hd;rw[z]at z1;rw[z1]at z2;have z3:dk s1 n1 p.2=dk s2 n2 l:=by injection (Option.some.inj z2)
    have z4:=congrArg (fun kv=>d9 kv (.inr "left":Key)) z3
    simp only[Cr]at z4;exact e (Prod.ext z (V.ref.inj (Option.some.inj z4)))
   have pl:p.1≠l:=i6 Q1.hd Q2.hl (fun z=>nomatch z)
   have p2a:p.2≠a:=i6 Q1.hl Q2.hd (fun z=>nomatch z)
   by_cases p2l:p.2=l
   ·exact⟨s1,n1,l3,K' _ _ Q1.hd pa pl,by rw[p2l];exact Q3.hl,Q1.s0,Q1.s1,Q1.n0,Q3.l0⟩
   ·exact⟨s1,n1,l1,K' _ _ Q1.hd pa pl,K' _ _ Q1.hl p2a p2l,Q1.s0,Q1.s1,Q1.n0,Q1.l0⟩
 ·exact h.elim
end
section
variable{X:Cx}{K:W.Frag}{a b c e o:Expr}{ta tb tk tv te:TE}{qa qb qk qv qe:QE}{pos pos':Pos}
theorem aw.set{dl:Dl}{H:Hp}{w:V}{t:T}(hw:aE K dl H w t []):∀{vs:List V}{xs:List T}{F:List Addr}(j:Nat),aw K dl H vs xs F->F = []->aw K dl H (vs.set j w) (xs.set j t) []
 | _,_,_,_,.nil,_=>.nil
 | _,_,_,0,.cons h r,e=>by
  obtain⟨e1,e2⟩:=List.append_eq_nil_iff.mp e;subst e1 e2;exact .cons (F:=[]) hw r
 | _,_,_,j+1,.cons h r,e=>by
  obtain⟨e1,e2⟩:=List.append_eq_nil_iff.mp e;subst e1 e2;exact .cons (F:=[]) h (aw.set hw j r rfl)
theorem E7{i:Nat}(hk:iV K tk qk)(hv:iV K tv qv):nJ K (jd tv (Hz (b7 i) tk FD)) (MK i qk qv):=fun dl H₀ hs H σ q Dq D ⟨F,r⟩ hq E=>by
 refine hv dl H σ q _ _ r.rd hq fun w t F1 H1 e1 r1 hq=>?_
 split at hq
 ·rename_i xs ei;obtain⟨v,hv',rp⟩:=(r.evo e1).g i _ _ ei rfl;refine⟨v,hv',hk dl H1 σ q _ _ (r.rd.evo e1) hq fun y u F2 H2 e2 r2 hq=>?_⟩
  split at hq
  ·obtain⟨j,hj,hm,ht,hq⟩:=hq;obtain⟨rfl,_⟩:=r2.r.int;obtain rfl:=r1.r.im ht;have rp2:=rp.evo e1.d e2;obtain⟨p,vs,G,rfl,eF,h1,h2⟩:=rp2.r.lst;have eG:=h2.im hm;subst eG;refine⟨p,vs,_,j,rfl,rfl,h1,by rw[h2.len];exact hj,?_⟩
   exact E.nx _ _ _ (r.vW ei hv' eF (e1.trans e2) (aw.set (r1.evo e1.d e2).r j h2 rfl) List.nodup_nil fun _ z=>nomatch z) hq
  ·exact hq.elim
 ·exact hq.elim
theorem Ks{i:Nat}(ho:PE X o (b7 i))(hk:QPE X K a tk qk)(hv:QPE X K b tv qv)(hs:swapsWithSole [.Subscript o a pos'] b pos.line X.env=pure false:=by rfl)(hw:swappedStores [.Subscript o a pos'] b X.env=pure none:=by rfl)
  (h1:(assignEach [.Subscript o a pos'] X.env).map (·.2) = [assign (.Subscript o a pos') X.env]:=by rfl)
  (ha:∀ v,assign (.Subscript o a pos') X.env v =(do
   let ov <- holding [v] (eval o X.env)
   let iv <- holding [v,ov] (eval a X.env)
   standAt pos'
   holding [v,ov,iv] (setItem ov iv v)
   release [v,ov,iv] []):=by intro _;rfl):QPS X K (.Assign [.Subscript o a pos'] b pos) (jd tv (Hz (b7 i) tk FD)) (MK i qk qv) :=
 ⟨wg hv.h (Gs ho hk.h set_list ha) hs hw h1,E7 hk.s hv.s⟩
end
variable{elts:List Expr}{pos':Pos}{t1:Bool}{t2:Bool}
section
variable{X:Cx}{K:W.Frag}{dl:Dl}
def vH(xs ys:List T):List T:=(xs.zip ys).map fun p=>.t [p.1,p.2]
theorem qH{xs ys:List T}{i:Nat}{z:T}(h:(vH xs ys)[i]? = some z):∃ x y,xs[i]? = some x/\ys[i]? = some y/\z = .t [x,y]:=by
 unfold vH at h;rw[List.getElem?_map]at h;obtain⟨p,hp,rfl⟩:=Option.map_eq_some_iff.mp h;rw[List.getElem?_zip_eq_some]at hp;exact⟨p.1,p.2,hp.1,hp.2,rfl⟩
theorem jf{xs ys:List T}:(vH xs ys).length=min xs.length ys.length:=by simp[vH]
theorem Hi{b:Addr}{xs ys:List T}:yO K dl (Itz K true true a b) (vH xs ys) [(.ref a,.t xs),(.ref b,.t ys)] where
 go:=fun H i D h hi=>by
  obtain⟨F,r⟩:=h (.ref a,.t xs) (by simp)
  obtain⟨F',r'⟩:=h (.ref b,.t ys) (by simp)
  obtain⟨p,vs,e,h1,h2⟩:=r.r.tup;cases e;obtain⟨p',vs',e',h1',h2'⟩:=r'.r.tup;cases e';rw[jf]at hi;have l1:i<vs.length:=by rw[h2.len];omega
  have l2:i<vs'.length:=by rw[h2'.len];omega
  exact⟨vs,vs',vs[i],vs'[i],SqT.of h1,SqT.of h1',by simp[l1],by simp[l2]⟩
 yld:=fun H i x fp v H' D h hx y=>by
  have r:=h (.ref a,.t xs) (by simp)
  have r':=h (.ref b,.t ys) (by simp)
  obtain⟨p,vs,e,h1,h2⟩:=r.r.tup;cases e;obtain⟨p',vs',e',h1',h2'⟩:=r'.r.tup;cases e';obtain⟨x1,y1,hx1,hy1,rfl⟩:=qH hx;obtain⟨w1,G1,hw1,rw1,hs1⟩:=h2.get hx1;obtain⟨w2,G2,hw2,rw2,hs2⟩:=h2'.get hy1;obtain⟨q,u1,u2,hq,rfl,rfl,y1',y2'⟩:=y;have e1:=y1' vs (SqT.of h1);rw[hw1]at e1;cases e1;have e2:=y2' vs' (SqT.of h1');rw[hw2]at e2;cases e2;have rs:Rps K dl H [w1,w2] [x1,y1] (G1++(G2 ++ [])):=Rps.cons ⟨rw1,fun b hb=>r.n b (hs1 b hb)⟩ (Rps.cons ⟨rw2,fun b hb=>r'.n b (hs2 b hb)⟩ ⟨.nil,fun _ z=>nomatch z⟩)
  refine⟨(Evo.refl D).new hq,_,rs.tup D hq,fun c hb=>.inr ?_⟩
  rw[List.append_nil]at hb;rcases List.mem_append.mp hb with z|z
  ·exact⟨_,by simp,hs1 c z⟩
  ·exact⟨(.ref b,.t ys),by simp,hs2 c z⟩
 stop:=fun H D h=>by
  obtain⟨F,r⟩:=h (.ref a,.t xs) (by simp)
  obtain⟨F',r'⟩:=h (.ref b,.t ys) (by simp)
  obtain⟨p,vs,e,h1,h2⟩:=r.r.tup;cases e;obtain⟨p',vs',e',h1',h2'⟩:=r'.r.tup;cases e';refine⟨vs,vs',SqT.of h1,SqT.of h1',?_⟩;rw[jf,h2.len,h2'.len];omega
variable{tg e a b:Expr}{te ta tb:TE}{qe qa qb:QE}{tl:TA}{ql:QA}{pos p:Pos}
def asZ(ql:QA):QI:=fun q Q=>ql q fun ts=>match ts with | [.t xs,.t ys]=>Q (vH xs ys) | _=>False
theorem BM{x1}{ta:TA}(hK:X.K=K)(hg:Gl X "zip")(hm:X.mg "zip" = none)(d6:bootBuiltins "zip" = some (.type "zip"))(ha:PA X [a,b] ta)(hs:starEach [a,b] X.env = [(false,eval a X.env),(false,eval b X.env)])(hs2:starEach [b] X.env = [(false,eval b X.env)]) :
  PI X (.Tuple elts x1 pos') (.Call (.Name "zip" p) [a,b] [] pos) (LI K t1 t2 ta):=by subst hK;exact OE hg hm d6 ha hs hs2
theorem Od{x1}(hg:Gl X "zip")(hm:X.mg "zip" = none)(d6:bootBuiltins "zip" = some (.type "zip"))(ha:QPA X K [a,b] tl ql)(hs:starEach [a,b] X.env = [(false,eval a X.env),(false,eval b X.env)]:=by rfl)(hs2:starEach [b] X.env = [(false,eval b X.env)]:=by rfl)(hK:X.K=K:=by rfl) :
  QPI X K (.Tuple elts x1 pos') (.Call (.Name "zip" p) [a,b] [] pos) (LI K true true tl) (asZ ql):=⟨BM hK hg hm d6 ha.h hs hs2,fun dl H σ q Q R rd hq k=>ha.s dl H σ q _ _ rd hq fun vs ts F H' e1 r _ hz=>by
 split at hz
 ·obtain⟨v,w,F1,F2,rfl,r1,r2⟩:=r.two;obtain⟨l1,vs1,rfl,h1,h2⟩:=r1.r.tup;obtain⟨l2,vs2,rfl,h3,h4⟩:=r2.r.tup;exact⟨l1,l2,rfl,⟨vs1,SqT.of h1⟩,⟨vs2,SqT.of h3⟩,k _ _ _ H' e1 Hi (fun p hp=>by
   simp only[List.mem_cons,List.not_mem_nil,or_false]at hp;rcases hp with rfl|rfl
   ·exact⟨_,r1⟩
   ·exact⟨_,r2⟩) hz⟩
 ·exact hz.elim⟩
end
def rK(K:W.Frag):Sp:=fun vs H Q _=>∃(a:Addr)(ns:List Int),vs = [.ref a]/\FzL K H a (ns.map V.int)/\ns.length<=63/\∀ H',Q (.bl true) H'
theorem SM{K:W.Frag}(h:Mv H)(hS:SqL K H a xs):FzL K H a xs:=by
 rcases hS with(z |⟨o,z⟩)|z
 ·rcases h a with e |⟨o,ys,e⟩
  ·rw[e]at z;cases z
  ·rw[e]at z;cases z
 ·exact .inl ⟨o,z⟩
 ·exact .inr z
variable{H':Hp}
theorem FzL.same{K:W.Frag}(h:FzL K H a xs)(s:mj H H'):FzL K H' a xs:=by
 rcases h with⟨o,z⟩|z
 ·exact .inl ⟨o,s _ _ z⟩
 ·exact .inr z
variable{x:Str}{qual:Str}{st:Stmt}{N:List Str}{n:Nat}{rest:List Stmt}
theorem Fun.Vh{w:World}{K:W.Frag}{f:Addr}{k:Nat}{s1:Stmt}(F:Fun K x qual st f fd)(S:aH N ["_law_script"] (au st))(hN:N.length=n+2)(hst:bA st=s1::rest)
  (fE:∀(cdv:Value)(A:Around)(outer:List Env)(s:Shared)(H:Hp)(E:XK),cb k (A.deeper (envOfC qual (au st) s.heap.objs.size f cdv)) ->
   ∃ t1 t qs,PS (ma CX0 P w K mg base N qual (au st) f cdv A outer s H E).nox s1 t1/\nL (ma CX0 P w K mg base N qual (au st) f cdv A outer s H E).nox K rest t qs /\
    (∀(a:Addr)(ns:List Int)(D:Ends),SqL K H a (ns.map V.int)->ns.length<=63 ->(∀(d l:Addr)(H':Hp),H d=none->H l=none->nS H' d l->mj H H'->D.nx ([some (.ref a),some (.ref d)]++List.replicate n none) H')->t1 D ([some (.ref a),none]++List.replicate n none) H) /\
    ∀ ns:List Int,ns.length<=63->qs { nx:=fun _=>False,rt:=fun t=>t = .b true } ([.r (.z ns),.r .cq]++List.replicate n .no)):aU P w K mg base CX0 (k+1) f fd ["_law_script"] (rK K):=by
 refine F.ok S (fun vs H Q E h=>?_) (fun cdv A outer s H vs Q E hr h=>?_)
 ·obtain⟨a,ns,rfl,_⟩:=h;rfl
 ·obtain⟨a,ns,rfl,hS,hlen,k⟩:=h;obtain⟨t1,t,qs,h1,hb,r1,hq⟩:=fE cdv A outer s H E hr;rw[hst];refine⟨_,bE h1 hb.h,?_⟩;have es:start N [V.ref a] = [some (.ref a),none]++List.replicate n none:=by
   unfold start;rw[hN];rfl
  rw[es];refine r1 a ns _ hS.sq hlen fun d l H' hd hl D1 sm=>?_
  have Dq:Dls [(d,l)] H':=fun p hp=>by rw[List.mem_singleton.mp hp];exact D1
  have rp:Rps K [(d,l)] H' [.ref a,.ref d] [.z ns,.cq] ([]++([] ++ [])):=⟨.cons (.z (hS.same sm)) (.cons (.x (l:=l) (List.mem_singleton.mpr rfl)) .nil),fun _ z=>nomatch z⟩
  have R:=oE (n:=n+2) Dq rp (by simp)
  refine hb.s [(d,l)] H' [] H' _ _ _ _ R (hq ns hlen) ⟨fun _ _ _ _ z=>z.elim,fun _ _ _ _ z=>z.elim,fun _ _ _ _ z=>z.elim,fun v t F H2 _ r' _ _ _ hz=>?_⟩
  subst hz;obtain⟨rfl,_⟩:=r'.r.bl;exact k H2
variable{tp:Bool}{F:List Addr}
section
variable{X:Cx}{K:W.Frag}{dl:Dl}
def jQ(xs:List T):List T:=xs.zipIdx.map fun p=>.t [.i (p.2:Nat),p.1]
theorem gQ{xs:List T}{i:Nat}{z:T}(h:(jQ xs)[i]? = some z):∃ x,xs[i]? = some x/\z = .t [.i (i:Nat),x]:=by
 unfold jQ at h;rw[List.getElem?_map]at h;obtain⟨p,hp,rfl⟩:=Option.map_eq_some_iff.mp h;rw[List.getElem?_zipIdx]at hp;obtain⟨x,hx,rfl⟩:=Option.map_eq_some_iff.mp hp;exact⟨x,hx,by simp⟩
theorem cn{xs:List T}:(jQ xs).length=xs.length:=by simp[jQ]
theorem B9{xs:List T}:yO K dl (Ite K true a) (jQ xs) [(.ref a,.t xs)] where
 go:=fun H i D h hi=>by
  obtain⟨F,r⟩:=h (.ref a,.t xs) (by simp)
  obtain⟨p,vs,e,h1,h2⟩:=r.r.tup;cases e;rw[cn]at hi;have l1:i<vs.length:=by rw[h2.len];omega
  exact⟨vs,vs[i],SqT.of h1,by simp[l1]⟩
 yld:=fun H i x fp v H' D h hx y=>by
  have r:=h (.ref a,.t xs) (by simp)
  obtain⟨p,vs,e,h1,h2⟩:=r.r.tup;cases e;obtain⟨x1,hx1,rfl⟩:=gQ hx;obtain⟨w1,G1,hw1,rw1,hs1⟩:=h2.get hx1;obtain⟨q,u1,hq,rfl,rfl,y1'⟩:=y;have e1:=y1' vs (SqT.of h1);rw[hw1]at e1;cases e1;have rs:Rps K dl H [.int (i:Nat),w1] [.i (i:Nat),x1] ([]++(G1 ++ [])):=Rps.cons ⟨.i _,fun _ z=>nomatch z⟩ (Rps.cons ⟨rw1,fun b hb=>r.n b (hs1 b hb)⟩ ⟨.nil,fun _ z=>nomatch z⟩)
  refine⟨(Evo.refl D).new hq,_,rs.tup D hq,fun c hb=>.inr ?_⟩
  rw[List.append_nil]at hb;exact⟨_,by simp,hs1 c hb⟩
 stop:=fun H D h=>by
  obtain⟨F,r⟩:=h (.ref a,.t xs) (by simp)
  obtain⟨p,vs,e,h1,h2⟩:=r.r.tup;cases e;exact⟨vs,SqT.of h1,by rw[cn,h2.len];exact Nat.le_refl _⟩
variable{tg e a b c:Expr}{te ta tb:TE}{qe qa qb:QE}{tl:TA}{ql:QA}{pos p:Pos}
def VP(ql:QA):QI:=fun q Q=>ql q fun ts=>match ts with | [.t xs]=>Q (jQ xs) | _=>False
theorem si{x1}{ta:TA}(hK:X.K=K)(hg:Gl X "enumerate")(hm:X.mg "enumerate" = none)(d6:bootBuiltins "enumerate" = some (.type "enumerate"))(ha:PA X [a] ta)(hs:starEach [a] X.env = [(false,eval a X.env)]) :
  PI X (.Tuple elts x1 pos') (.Call (.Name "enumerate" p) [a] [] pos) (yr K tp ta):=by subst hK;exact KZ hg hm d6 ha hs
theorem By{x1}(hg:Gl X "enumerate")(hm:X.mg "enumerate" = none)(d6:bootBuiltins "enumerate" = some (.type "enumerate"))(ha:QPA X K [a] tl ql)(hs:starEach [a] X.env = [(false,eval a X.env)]:=by rfl)(hK:X.K=K:=by rfl) :
  QPI X K (.Tuple elts x1 pos') (.Call (.Name "enumerate" p) [a] [] pos) (yr K true tl) (VP ql):=⟨si hK hg hm d6 ha.h hs,fun dl H σ q Q R rd hq k=>ha.s dl H σ q _ _ rd hq fun vs ts F H' e1 r _ hz=>by
 split at hz
 ·obtain⟨v,rfl,r1⟩:=r.one;obtain⟨l1,vs1,rfl,h1,h2⟩:=r1.r.tup;exact⟨l1,rfl,⟨vs1,SqT.of h1⟩,k _ _ _ H' e1 B9 (fun p hp=>by rw[List.mem_singleton.mp hp];exact⟨_,r1⟩) hz⟩
 ·exact hz.elim⟩
theorem aw.snoc{v:V}{t:T}(hv:aE K dl H v t []){vs:List V}{ts:List T}(h:aw K dl H vs ts F):F = []->aw K dl H (vs ++ [v]) (ts ++ [t]) [] :=
 h.ind (M:=fun vs ts F=>F = []->aw K dl H (vs ++ [v]) (ts ++ [t]) []) (fun _=>.cons (F:=[]) (G:=[]) hv .nil) fun _ _ _ _ _ _ h _ ih e=>by
  obtain⟨e1,e2⟩:=List.append_eq_nil_iff.mp e;subst e1;exact .cons (F:=[]) (G:=[]) h (ih e2)
theorem aw.rev{vs:List V}{ts:List T}(h:aw K dl H vs ts F):F = []->aw K dl H vs.reverse ts.reverse [] :=
 h.ind (M:=fun vs ts F=>F = []->aw K dl H vs.reverse ts.reverse []) (fun _=>.nil) fun _ _ _ _ _ _ h _ ih e=>by
  obtain⟨e1,e2⟩:=List.append_eq_nil_iff.mp e;subst e1;rw[List.reverse_cons,List.reverse_cons];exact aw.snoc h (ih e2) rfl
variable{o:Expr}{apos bq:Pos}
end
variable{d:Addr}{l:Addr}{o:HO}
section
variable{X:Cx}{K:W.Frag}{dl:Dl}{v:V}
theorem aE.VH{o:Obj}{vs:List (Key×V)}{ts:List (Key×T)}(h:aE K dl H v (.fd o vs ts) F):∃ a,v = .ref a/\F = []/\H a=some (.frz o (.dK vs))/\aR K dl H vs ts []:=by cases h with|fd h r=>exact⟨_,rfl,rfl,h,r⟩
variable{tg e a b:Expr}{te ta tb:TE}{qe qa qb:QE}{pos:Pos}
theorem nS.oth{a:Addr}(D:nS H d l)(h1:a≠d)(h2:a≠l):nS (upd H a o) d l:=by
 obtain⟨s,n,ls,Q⟩:=D;exact⟨s,n,ls,by rw[ai h1.symm];exact Q.hd,by rw[ai h2.symm];exact Q.hl,Q.s0,Q.s1,Q.n0,Q.l0⟩
end
variable{C:Addr}{ns:List Str}
section
variable{X:Cx}{K:W.Frag}{dl:Dl}{v:V}
theorem aE.exc{ts:List T}(h:aE K dl H v (.xc C ns ts) F):∃ a b vs,v = .ref a/\F = []/\ExH H a C b (ns.zip vs)/\aw K dl H vs ts []:=h.inv
theorem aw.lookup{f:Str}:∀{ns:List Str}{vs:List V}{ts:List T}{F:List Addr}{u:T},aw K dl H vs ts F ->(ns.zip ts).lookup f=some u->∃ w G,(ns.zip vs).lookup f=some w/\aE K dl H w u G/\∀ b∈G,b∈F
 | [],_,_,_,_,_,h=>by simp at h
 | _::_,_,_,_,_,.nil,h=>by simp at h
 | n::ns,_,_,_,u,.cons h1 r,h=>by
  rw[List.zip_cons_cons,List.lookup_cons]at h ⊢;cases e:(f==n)with
  | true =>
   rw[e]at h;cases h;exact⟨_,_,rfl,h1,fun b hb=>List.mem_append_left _ hb⟩
  | false =>
   rw[e]at h;obtain⟨w,G,a1,a2,a3⟩:=aw.lookup (ns:=ns) r h;exact⟨w,G,a1,a2,fun b hb=>List.mem_append_right _ (a3 b hb)⟩
end
def MN(K:W.Frag)(fn:List Str)(f:Str)(qe:QE):QE:=fun q Q=>qe q fun t=>match t with
 | .xc C ns ts=>∃ bm ini u,bF K fn C bm ini/\(ns.zip ts).lookup f=some u/\Q u
 | _=>False
variable{dl:Dl}{o1:HO}{o2:HO}{u:Value}
section
variable{X:Cx}{K:W.Frag}{e:Expr}{es:List Expr}{te:TE}{qe:QE}{tl:TA}{ql:QA}{pos p p2:Pos}{f y:Str}{fn fsN:List Str}{C' fa:Addr}{bm bm':List Value}{uE:Option Addr}{k:Nat}
theorem Fg(hf:f∈fn)(fo:FOk f)(h:iV K te qe):kE K (ET K fn te f) (MN K fn f qe):=by
 intro dl H σ q Q R rd hq k;refine h dl H σ q _ _ rd hq fun v t F H1 e1 r1 hz=>?_
 split at hz
 ·obtain⟨bm,ini,u,c,l,hz⟩:=hz;obtain⟨a,b,vs,rfl,rfl,ex,rs⟩:=r1.r.exc;obtain⟨w,G,l2,rw',hG⟩:=rs.lookup l;have hG0:G = []:=List.eq_nil_iff_forall_not_mem.mpr fun b hb=>nomatch hG b hb
  subst hG0;exact⟨a,_,b,bm,ini,_,w,rfl,ex,c,hf,fo,l2,k w u [] H1 e1 ⟨rw',fun _ z=>nomatch z⟩ (fun _ z=>nomatch z) List.nodup_nil hz⟩
 ·exact hz.elim
theorem qP(hK:X.K=K)(hf:f∈fn)(fo:FOk f)(he:QPE X K e te qe)(hb:attributeBase e f X.env (eval e X.env)=eval e X.env:=by rfl):QPF X K (.Attribute e f pos) (ET K fn te f) (MN K fn f qe):=by
 subst hK;exact⟨K5 he.h hb,Fg hf fo he.s⟩
theorem HE(D:Dls dl H)(ha:H a=none)(hd:H d=none)(ne:d≠a):Evo dl H (upd (upd H d o1) a o2):=((Evo.refl D).new hd).new (by rw[ai (Ne.symm ne)];exact ha)
def N9(K:W.Frag)(fn:List Str)(c:Value):List V->Hp->VK->Prop:=fun xs H Q=>∃ a C b fs bm ini r y,xs = [.ref a,y]/\RelV y c/\ExH H a C b fs/\bF K fn C bm ini/\W.kitOne K (.ref C) c=some r/\Q (.bl r) H
theorem jt(h:RelV (.ref a) u):u = .ref a:=h
theorem Ih{c:Value}(hc:∀ y u,RelV y u->RelV y c->u=c):cj X (.builtin "isinstance") (N9 X.K fn c):=by
 intro gV s σ H xs us Q I r h;obtain⟨a,C,b,fs,bm,ini,rb,y,rfl,ry,ex,cx,ek,q⟩:=h;cases r with
 | cons h1 r2 =>
  cases r2 with
  | cons h2 r3 =>
   cases r3
   cases(jt h1)
   cases hc _ _ h2 ry;exact Pr I ex cx ek fun tk=>⟨.bl rb,H,I.tok tk,rfl,q⟩
def Ry(K:W.Frag)(fn:List Str)(c:Value)(qe:QE):QE:=fun q Q=>qe q fun t=>match t with
 | .xc C _ _=>∃ bm ini,bF K fn C bm ini/\Q (.b ((Value.ref C::bm).contains c))
 | _=>False
theorem J6{c:Value}{y:V}(ry:RelV y c)(hk:∀ C bm ini,bF K fn C bm ini->W.kitOne K (.ref C) c=some ((Value.ref C::bm).contains c))(h:iV K te qe):kE K (tCB (N9 K fn c) (cu te (cu (tC y) kz))) (Ry K fn c qe):=by
 intro dl H σ q Q R rd hq k;refine h dl H σ q _ _ rd hq fun v t F H1 e1 r1 hz=>?_
 split at hz
 ·obtain⟨bm,ini,cx,hz⟩:=hz;obtain⟨a,b,vs,rfl,rfl,ex,rs⟩:=r1.r.exc;exact⟨a,_,b,_,bm,ini,_,y,rfl,ry,ex,cx,hk _ bm ini cx,k _ _ [] H1 e1 ⟨.b _,fun _ z=>nomatch z⟩ (fun _ z=>nomatch z) List.nodup_nil hz⟩
 ·exact hz.elim
theorem Og{n:String}(hK:X.K=K)(hT:W.kitMeta n=true)(hg:Gl X "isinstance")(hm:X.mg "isinstance" = none)(hg2:Gl X y)(hm2:X.mg y=none)(hv:bootBuiltins y=some (.type n))(h:QPE X K e te qe)(hn:y ≠ "__name__":=by decide)(hd:(y ==("__debug__":Str))=false:=by decide)
  (he:starEach [e,.Name y p2] X.env =(false,eval e X.env)::starEach [.Name y p2] X.env:=by rfl) (he2:starEach [.Name y p2] X.env =(false,eval (.Name y p2) X.env)::starEach [] X.env:=by rfl) (hpl:(backTo pos (starEach [.Name y p2] X.env)).any (·.1)=false:=by rfl) :
  QPF X K (.Call (.Name "isinstance" p) [e,.Name y p2] [] pos) (tCB (N9 K fn (.type n)) (cu te (cu (tC (.ty n)) kz))) (Ry K fn (.type n) qe):=by
 subst hK;exact⟨jw (Ih fun y u h1 h2=>by
  cases y with
  | ref b=>cases(jt h2)
  | non=>cases(show Value.type n=Value.none from h2)
  | bl b=>cases(show Value.type n=Value.bool b from h2)
  | int i=>obtain⟨_,z⟩:=(show ∃ t,Value.type n=Value.int i t from h2);cases z
  | str i=>obtain⟨_,z⟩:=(show ∃ t,Value.type n=Value.str i t from h2);cases z
  | flt i=>obtain⟨_,z⟩:=(show ∃ t,Value.type n=Value.float i t from h2);cases z
  | byt i=>(obtain⟨_,z⟩:=h2;cases z)
  | ty m =>
   have z1:u=Value.type m:=h1;have z2:Value.type n=Value.type m:=h2;rw[z1,z2]) hg hm rfl (bw h.h (bw (BP hg2 hm2 hv rfl hn hd) eB he2) he) (by decide) (by decide) he hpl,J6 (y:=.ty n) rfl (fun C bm ini c=>by
    rw[Hb c hT,List.contains_cons];rfl) h.s⟩
end
abbrev QW:=Addr->List Str->List T->Prop
abbrev QX:=Sq ->(T->Prop)->QW->Prop
def VT(K:PySem.W.Frag)(te:(St->XK)->TE)(qx:QX):Prop:=∀(dl:Dl)(H:Hp)(σ:St)(q:Sq)(Q:T->Prop)(W:QW)(R:V->Hp->Prop)(Es:St->XK),RdR K dl H σ q->qx q Q W ->
 (∀ v t F H',Evo dl H H'->Rp K dl H' v t F ->(∀ b∈F,H b=none)->F.Nodup->Q t->R v H') ->(∀ a C ns us H',Evo dl H H'->Rp K dl H' (.ref a) (.xc C ns us) []->W C ns us->Es σ (.ref C) (some a) H')->te Es σ H R
structure QPX(X:Cx)(K:W.Frag)(e:Expr)(te:(St->XK)->TE)(qx:QX):Prop where
 h:∀ Es,iW (CX1 X.prog X.w) X Es->PE X e (te Es)
 s:VT K te qx
abbrev QSX:=(Sq->QW)->QS
def XOk(K:PySem.W.Frag)(dl:Dl)(H₀:Hp)(hs:List (V×T))(W:Sq->QW)(Es:St->XK):Prop:=∀ H σ q a C ns us,dR K dl H₀ hs H σ q->Rp K dl H (.ref a) (.xc C ns us) []->W q C ns us->Es σ (.ref C) (some a) H
def CP(K:PySem.W.Frag)(ts:(St->XK)->TS)(qs:QSX):Prop:=∀(dl:Dl)(H₀:Hp)(hs:List (V×T))(H:Hp)(σ:St)(q:Sq)(Dq:jb)(D:Ends)(W:Sq->QW)(Es:St->XK),dR K dl H₀ hs H σ q->qs W Dq q->Be K dl H₀ hs Dq D->XOk K dl H₀ hs W Es->ts Es D σ H
structure t8(X:Cx)(K:W.Frag)(st:Stmt)(ts:(St->XK)->TS)(qs:QSX):Prop where
 h:∀ Es,iW (CX1 X.prog X.w) X Es->nK X Es->PS X st (ts Es)
 s:CP K ts qs
structure kO(X:Cx)(K:W.Frag)(st:List Stmt)(ts:(St->XK)->TS)(qs:QSX):Prop where
 h:∀ Es,iW (CX1 X.prog X.w) X Es->nK X Es->PSs X st (ts Es)
 s:CP K ts qs
variable{H₀:Hp}{q:Sq}{ini:Option Addr}
section
variable{X:Cx}{K:W.Frag}{sa sb:List Stmt}{e c:Expr}{es:List Expr}{pos p bq:Pos}{te:TE}{qe:QE}{tx:(St->XK)->TE}{qx:QX}{tc:TT}{qc:QT}{t u:TS}{qt qu:QS}{ts us:(St->XK)->TS}{qs qr:QSX}{tl:TA}{ql:QA}
theorem fW(h:QPS X K st t qt):t8 X K st (fun _=>t) (fun _=>qt):=⟨fun _ _ _=>h.h,fun dl H₀ hs H σ q Dq D _ _ r hq E _=>h.s dl H₀ hs H σ q Dq D r hq E⟩
theorem Bw(h:nL X K rest t qt):kO X K rest (fun _=>t) (fun _=>qt):=⟨fun _ _ _=>h.h,fun dl H₀ hs H σ q Dq D _ _ r hq E _=>h.s dl H₀ hs H σ q Dq D r hq E⟩
theorem bx(h:t8 X K st ts qs):kO X K [st] ts qs:=⟨fun Es a b=>eZ (h.h Es a b),h.s⟩
theorem bt(h1:t8 X K st ts qs)(h2:kO X K rest us qr):kO X K (st::rest) (fun Es=>NG (ts Es) (us Es)) (fun W D q=>qs W { D with nx:=fun q'=>qr W D q' } q) :=
 ⟨fun Es a b=>bE (h1.h Es a b) (h2.h Es a b),fun dl H₀ hs H σ q Dq D W Es r hq E x=>h1.s dl H₀ hs H σ q _ _ W Es r hq ⟨fun H σ q r' hq'=>h2.s dl H₀ hs H σ q _ _ W Es r' hq' E x,E.bk,E.ct,E.rt⟩ x⟩
theorem FN(hc:QPT X K c tc qc)(ha:kO X K sa ts qs)(hb:kO X K sb us qr):t8 X K (.If c sa sb pos) (fun Es=>NL tc (ts Es) (us Es)) (fun W D q=>qc q fun b=>if b=true then qs W D q else qr W D q) :=
 ⟨fun Es a b=>Gi hc.h (ha.h Es a b) (hb.h Es a b),fun dl H₀ hs H σ q Dq D W Es ⟨F,r⟩ hq E x=>hc.s dl H σ q _ _ r.rd hq fun b H' e1 hz=>by
  cases b with
  | true=>exact ha.s dl H₀ hs H' σ q Dq D W Es ⟨F,r.evo e1⟩ hz E x
  | false=>exact hb.s dl H₀ hs H' σ q Dq D W Es ⟨F,r.evo e1⟩ hz E x⟩
theorem XOk.at{hs:List (V×T)}{W:Sq->QW}{Es:St->XK}{σ:St}{F:Nat->List Addr}(x:XOk K dl H₀ hs W Es)(r:Rel K dl H₀ hs H σ q F):∀ a C ns us H',Evo dl H H'->Rp K dl H' (.ref a) (.xc C ns us) []->W q C ns us->Es σ (.ref C) (some a) H' :=
 fun a C ns us H' e1 r1 hw=>x H' σ q a C ns us ⟨F,r.evo e1⟩ r1 hw
theorem gA(he:QPX X K e tx qx)(hs:swapsWith e none pos.line X.env=pure false:=by rfl):t8 X K (.Expr e pos) (fun Es=>gu (tx Es)) (fun W D q=>qx q (fun _=>D.nx q) (W q)) :=
 ⟨fun Es a _=>kh (he.h Es a) hs,fun dl H₀ hs H σ q Dq D W Es ⟨F,r⟩ hq E x=>he.s dl H σ q _ _ _ Es r.rd hq (fun v t F' H' e1 _ _ _ hz=>E.nx H' σ q ⟨F,r.evo e1⟩ hz) (x.at r)⟩
theorem Kq{i:Nat}(hN:X.N.Nodup)(hi:X.N[i]? = some x)(hx:Loc X.env.scope x)(he:QPX X K e tx qx)(hs:swapsWith e (some (.Name x pos')) pos.line X.env=pure false:=by rfl)(hf:X.fn x=true\/X.env.scope.names.lookup x=some .local:=by first|exact .inl rfl|exact .inr rfl|assumption) :
  t8 X K (.Assign [.Name x pos'] e pos) (fun Es=>jd (tx Es) (fG i)) (fun W D q=>qx q (fun t=>D.nx (q.set i (.o t))) (W q)) :=
 ⟨fun Es a _=>iz hN hi hx (he.h Es a) hs hf,fun dl H₀ hs H σ q Dq D W Es ⟨F,r⟩ hq E x=>he.s dl H σ q _ _ _ Es r.rd hq (fun v t F' H' e1 r1 f1 n1 hz=>E.nx H' _ _ (r.Ov e1 r1 f1 n1) hz) (x.at r)⟩
variable{fa:Addr}{fn fsN:List Str}{bm:List Value}{k:Nat}
theorem US{o':HO}:upd (upd H a o) a o'=upd H a o':=by
 funext b
 by_cases h:b=a
 ·rw[h,aj,aj]
 ·rw[ai h,ai h,ai h]
theorem zg(M:bF K fn C bm ini)(h:Mu K n tl ql):CP K (fun Es=>y9 K fn Es (zc C fsN tl)) (fun W _ q=>ql q fun ts=>T.ims ts=true/\ts.length=fsN.length/\ts.length<=1000/\W q C fsN ts):=by
 intro dl H₀ hs H σ q Dq D W Es ⟨F,r⟩ hq E x;refine h dl H σ q _ _ r.rd hq fun vs ts F1 H1 e1 r1 _ hz=>?_
 obtain⟨z1,z2,z3,z4⟩:=hz;have f:=r1.r.im z1;subst f;have hl:=r1.r.len;refine⟨hl.trans z2,by rw[hl];exact z3,fun a d ha hd ne=>⟨a,C,bm,ini,some d,rfl,M,aj,?_⟩⟩
 rw[US];have ev:=HE (o1:=.ext (XD d (fsN.zip vs))) (o2:=.ext (XAt a C (some d) false)) e1.d ha hd ne;have r2:=r1.evo e1.d ev;exact x.at r a C fsN ts _ (e1.trans ev) ⟨.e (.inr ⟨d,ne,aj,by rw[ai ne,aj]⟩) r2.r,fun _ z=>nomatch z⟩ z4
theorem uZ(hK:X.K=K)(hc:X.calm=true)(M:bF K fn C bm (some fa))(hfn:W.isFn K (.ref fa)=true)(kp:W.keepIn K (.ref C)=true)(F:aU X.prog X.w X.K X.mg X.base CX0 k fa fd ps (xI C fsN))(hr:cb (k+1) X.A)(hg:Gl X x)(hm:X.mg x=some (.ref C))(hb:Binds X.K fd ps [])
  (ha:QPA X K (e::es) tl ql) (hdb:(x ==("__debug__":Str))=false:=by decide) (he:starEach (e::es) X.env =(false,eval e X.env)::starEach es X.env:=by rfl) (hpl:(backTo bq (starEach es X.env)).any (·.1)=false:=by rfl) :
  t8 X K (.Raise (some (.Call (.Name x p) (e::es) [] bq)) none pos) (fun Es=>y9 K fn Es (zc C fsN tl)) (fun W _ q=>ql q fun ts=>T.ims ts=true/\ts.length=fsN.length/\ts.length<=1000/\W q C fsN ts):=by
 subst hK;exact⟨fun Es _ b=>Gg hc b (Gv M hfn kp F hr hg hm hb ha.h hdb he hpl),zg M ha.s⟩
end
abbrev ml:=List T ->(T->Prop)->QW->Prop
def rJ(K:W.Frag)(ps:ml):Sp:=fun vs H Q E=>∃(dl:Dl)(ts:List T)(F:List Addr)(Qp:T->Prop)(Wp:QW),Dls dl H/\Rps K dl H vs ts F/\ps ts Qp Wp /\
 (∀ v t F' H',Evo dl H H'->Rp K dl H' v t F' ->(∀ b∈F',H b=none)->F'.Nodup->Qp t->Q v H')/\∀ a C ns us H',Evo dl H H'->Rp K dl H' (.ref a) (.xc C ns us) []->Wp C ns us->E (.ref C) (some a) H'
section
variable{X:Cx}{K:W.Frag}{e:Expr}{es:List Expr}{tl:TA}{ql:QA}{pos p:Pos}{k:Nat}{f:Addr}{prs:List Str}{ps:ml}
theorem Ko(F:aU X.prog X.w X.K X.mg X.base (CX1 X.prog X.w) k f fd prs (rJ K ps))(hr:cb k X.A)(hg:Gl X x)(hm:X.mg x=some (.ref f))(hk:W.keepIn X.K (.ref f)=true)(hb:Binds X.K fd prs [])(ha:QPA X K (e::es) tl ql)
  (hdb:(x ==("__debug__":Str))=false:=by decide) (he:starEach (e::es) X.env =(false,eval e X.env)::starEach es X.env:=by rfl) (hpl:(backTo pos (starEach es X.env)).any (·.1)=false:=by rfl) :
  QPX X K (.Call (.Name x p) (e::es) [] pos) (fun Es=>ou (rJ K ps) Es tl) (fun q Q W=>ql q fun ts=>ps ts Q W) :=
 ⟨fun Es a=>yc F hr hg hm hk hb a ha.h hdb he hpl,fun dl H σ q Q W R Es rd hq k1 k2=>ha.s dl H σ q _ _ rd hq fun vs ts F H1 e1 r1 _ hz =>
  ⟨dl,ts,F,Q,W,e1.d,r1,hz,fun v t F' H' e r f n hz=>k1 v t F' H' (e1.trans e) r (fun b hb=>e1.free (f b hb)) n hz,fun a C ns us H' e r hw=>k2 a C ns us H' (e1.trans e) r hw⟩⟩
end
theorem Fun.GN{w:World}{K:PySem.W.Frag}{f:Addr}{k:Nat}{psp:ml}(F:Fun K x qual st f fd)(S:aH N ps (au st))(len:∀ ts Q W,psp ts Q W->ts.length=ps.length)
  (fE:∀(cdv:Value)(A:Around)(outer:List Env)(s:Shared)(H:Hp)(E:XK),cb k (A.deeper (envOfC qual (au st) s.heap.objs.size f cdv)) ->
   ∃ t qs,kO (ma (CX1 P w) P w K mg base N qual (au st) f cdv A outer s H E) K (bA st) t qs/\∀ ts Q W,psp ts Q W->qs (fun _=>W) { nx:=fun _=>Q .n,rt:=Q } (ts.map Sl.r++List.replicate (N.length - ts.length) .no)):aU P w K mg base (CX1 P w) (k+1) f fd ps (rJ K psp):=by
 have hPN:ps.length<=N.length:=by have:=congrArg List.length S.pre;rw[List.length_take]at this;omega
 refine F.okX S (fun vs H Q E h=>?_) (fun cdv A outer s H vs Q E hr h=>?_)
 ·obtain⟨dl,ts,F,Qp,Wp,_,r,h,_⟩:=h;rw[r.r.len];exact len ts Qp Wp h
 ·obtain⟨dl,ts,Fp,Qp,Wp,D,r,h,fin,fix⟩:=h;obtain⟨t,qs,hb,hq⟩:=fE cdv A outer s H E hr;refine⟨t fun _=>E,hb.h _ sk rX,?_⟩
  have hlen:=len ts Qp Wp h;have hl:=r.r.len;have z:=hq ts Qp Wp h;have R:=oE (n:=N.length) D r (by omega)
  rw[<- hl]at z;refine hb.s dl H [] H _ _ _ _ _ _ R z ⟨fun H' σ q ⟨F,r'⟩ hz=>?_,fun _ _ _ _ hz=>hz.elim,fun _ _ _ _ hz=>hz.elim,fun v t F H' D' r' f' n' fr hz=>?_⟩ fun H' σ q a C ns us ⟨F,r'⟩ rp hw=>?_
  ·exact fin .non .n [] H' (r'.f.evo r'.d) ⟨.n,fun _ z=>nomatch z⟩ (fun _ z=>nomatch z) List.nodup_nil hz
  ·exact fin v t F H' (fr.evo D') r' f' n' hz
  ·exact fix a C ns us H' (r'.f.evo r'.d) rp hw
abbrev QH:=Addr->List Str->List T->QS
def VX(K:W.Frag)(th:TH)(qh:QH):Prop:=∀(dl:Dl)(H₀:Hp)(hs:List (V×T))(H:Hp)(σ:St)(q:Sq)(Dq:jb)(D:Ends)(a C:Addr)(ns:List Str)(us:List T),dR K dl H₀ hs H σ q->Rp K dl H (.ref a) (.xc C ns us) []->qh C ns us Dq q->Be K dl H₀ hs Dq D->th a C D σ H
structure QPH(X:Cx)(K:W.Frag)(hs:List ExceptHandler)(th:TH)(qh:QH):Prop where
 h:PH X hs th
 s:VX K th qh
def jb.go(D:jb)(i:Nat):jb:={ nx:=fun q=>D.nx (q.set i .no),rt:=D.rt,bk:=fun q=>D.bk (q.set i .no),ct:=fun q=>D.ct (q.set i .no) }
theorem dR.clear{K:W.Frag}{hs:List (V×T)}{σ:St}(r:dR K dl H₀ hs H σ q)(i:Nat):dR K dl H₀ hs H (σ.set i none) (q.set i .no):=by
 obtain⟨F,r⟩:=r;refine⟨xM F i [],r.d,fun j x t h1 h2=>?_,fun j x h1 h2=>?_,fun j hj=>?_,fun j u h1=>?_,fun p hp=>?_,r.f,by simp[r.l]⟩
 ·rcases get_set h1 with⟨rfl,rfl,_⟩ |⟨ne,h1⟩
  ·cases h2
  ·obtain⟨w,h3,h4⟩:=r.g j x t h1 h2;exact⟨w,by rw[List.getElem?_set_ne (fun z=>ne z.symm)];exact h3,by rw[aP ne];exact h4⟩
 ·rcases get_set h1 with⟨rfl,rfl,_⟩ |⟨ne,h1⟩
  ·rw[aX]
  ·rw[aP ne];exact r.n j x h1 h2
 ·by_cases ej:j=i
  ·rw[ej,aX]
  ·rw[aP ej];rw[List.length_set]at hj;exact r.z j hj
 ·rcases get_set h1 with⟨rfl,e,_⟩ |⟨ne,h1⟩
  ·cases e
  ·rw[aP ne];obtain⟨o1,o2,o3⟩:=r.o j u h1;refine⟨o1,o2,fun k hk b hb=>?_⟩
   by_cases ek:k=i
   ·rw[ek,aX];exact fun z=>nomatch z
   ·rw[aP ek];exact o3 k hk b hb
 ·obtain⟨Fp,h1,h2⟩:=r.h p hp;refine⟨Fp,h1,fun j u hj b hb z=>?_⟩
  rcases get_set hj with⟨rfl,e,_⟩ |⟨ne,hj⟩
  ·cases e
  ·rw[aP ne]at hb;exact h2 j u hj b hb z
variable{hs:List ExceptHandler}{body:List Stmt}
section
variable{X:Cx}{K:W.Frag}{fn:List Str}{C':Addr}{bm':List Value}{uE:Option Addr}{n:Str}{p pos:Pos}{b0:Stmt}{mG:List Stmt}{rest:List ExceptHandler}{ts:TS}{qs:QS}{tr:TH}{qr:QH}{i:Nat}
def Ku:QH:=fun _ _ _ _ _=>False
theorem xW:QPH X K hs Hw Ku:=⟨Gr,fun _ _ _ _ _ _ _ _ _ _ _ _ _ _ h _=>h.elim⟩
def MI(K:W.Frag)(fn:List Str)(C':Addr)(qs:QS)(qr:QH):QH:=fun C ns us D q=>∃ bm ini,bF K fn C bm ini/\if(Value.ref C::bm).contains (.ref C')=true then qs D q else qr C ns us D q
def Rr(K:W.Frag)(fn:List Str)(C':Addr)(i:Nat)(qs:QS)(qr:QH):QH:=fun C ns us D q=>∃ bm ini,bF K fn C bm ini/\if(Value.ref C::bm).contains (.ref C')=true then qs (D.go i) (q.set i (.r (.xc C ns us)))else qr C ns us D q
theorem Oe(hK:X.K=K)(hg:Gl X x)(hm:X.mg x=some (.ref C'))(c':bF K fn C' bm' uE)(hsu:∀ a,nL (X.inX a) K (b0::mG) ts qs)(hr:QPH X K rest tr qr)(hdb:(x ==("__debug__":Str))=false:=by decide) :
  QPH X K (.ExceptHandler (some (.Name x p)) none (b0::mG) pos::rest) (SI K fn C' ts tr) (MI K fn C' qs qr):=by
 subst hK;refine⟨OH hg hm c' (fun a=>(hsu a).h) hr.h hdb,fun dl H₀ hs H σ q Dq D a C ns us r rp hq E=>?_⟩
 obtain⟨bm,ini,c,hq⟩:=hq;refine⟨bm,ini,c,fun z=>?_,fun z=>?_⟩
 ·rw[if_pos z]at hq;exact(hsu a).s dl H₀ hs H σ q Dq D r hq E
 ·rw[if_neg (by rw[z];decide)]at hq;exact hr.s dl H₀ hs H σ q Dq D a C ns us r rp hq E
theorem Rq(hK:X.K=K)(hN:X.N.Nodup)(hi:X.N[i]? = some n)(hk:X.env.scope.names.lookup n=some .local)(hg:Gl X x)(hm:X.mg x=some (.ref C'))(c':bF K fn C' bm' uE)(hsu:∀ a,nL (X.inX a) K (b0::mG) ts qs)(hr:QPH X K rest tr qr)(hdb:(x ==("__debug__":Str))=false:=by decide) :
  QPH X K (.ExceptHandler (some (.Name x p)) (some n) (b0::mG) pos::rest) (hAs K fn C' i ts tr) (Rr K fn C' i qs qr):=by
 subst hK;refine⟨RN hN hi hk hg hm c' (fun a=>(hsu a).h) hr.h hdb,fun dl H₀ hs H σ q Dq D a C ns us r rp hq E=>?_⟩
 obtain⟨bm,ini,c,hq⟩:=hq;refine⟨bm,ini,c,fun z=>?_,fun z=>?_⟩
 ·rw[if_pos z]at hq;have r2:dR X.K dl H₀ hs H (σ.set i (some (.ref a))) (q.set i (.r (.xc C ns us))):=by
   obtain⟨F,r⟩:=r;by_cases hiq:i<q.length
   ·exact⟨_,r.KG hiq rp fun _ _ _ _ _ _ z=>nomatch z⟩
   ·have hl:=r.l;rw[List.set_eq_of_length_le (by omega),List.set_eq_of_length_le (by omega)]
    exact⟨F,r⟩
  exact(hsu a).s dl H₀ hs H _ _ (Dq.go i) (D.go i) r2 hq ⟨fun H σ q r h=>E.nx H _ _ (r.clear i) h,fun H σ q r h=>E.bk H _ _ (r.clear i) h,fun H σ q r h=>E.ct H _ _ (r.clear i) h,E.rt⟩
 ·rw[if_neg (by rw[z];decide)]at hq;exact hr.s dl H₀ hs H σ q Dq D a C ns us r rp hq E
theorem FO{h0:ExceptHandler}{th:TH}{qh:QH}{tb:(St->XK)->TS}{qb:QSX}(hb:∀ pn xe,kO (X.qi pn xe) K body tb qb)(hh:QPH X K (h0::hs) th qh)(hst:X.stack=X.env::X.outer:=by rfl)(hf:X.env.frame=some X.env.locals:=by rfl) :
  QPS X K (.Try body (h0::hs) [] [] pos) (QU th tb) (fun D q=>qb (fun q' C ns us=>qh C ns us D q') D q) :=
 ⟨Ox hst hf (fun Es pn xe a b=>(hb pn xe).h Es a b) hh.h,fun dl H₀ hs H σ q Dq D r hq E=>(hb [] fun _ _=>False).s dl H₀ hs H σ q Dq D _ _ r hq E fun H σ q a C ns us r rp hw=>⟨a,C,rfl,rfl,hh.s dl H₀ hs H σ q Dq D a C ns us r rp hw E⟩⟩
end
section
variable{X:Cx}{K:W.Frag}{a b e:Expr}{ta tb te:TE}{qa qb qe:QE}{pos:Pos}
def U2(qa qb:QE):QE:=fun q Q=>qa q fun t=>qb q fun u=>match t,u with
 | .l xs,.i k=>∃ x,atI xs k=some x/\Q x
 | _,_=>False
theorem jv(ha:QPF X K a ta qa)(hb:QPE X K b tb qb)(hs:nM b:=by intro _ _;rfl)(hK:X.K=K:=by rfl):QPF X K (.Subscript a b pos) (tOp (rIx K) ta tb) (U2 qa qb):=by
 refine⟨by subst hK;exact yb Hg ha.h hb.h hs,fun dl H σ q Q R rd hq k=>?_⟩
 refine ha.s dl H σ q _ _ rd hq fun v t F H1 e1 r1 f1 n1 hq1=>?_
 refine hb.s dl H1 σ q _ _ (rd.evo e1) hq1 fun w u G H2 e2 r2 hq2=>?_
 have r1:=r1.evo e1.d e2
 split at hq2
 ·obtain⟨rfl,rfl⟩:=r2.r.int;obtain⟨p,vs,G,rfl,rfl,h1,h2⟩:=r1.r.lst;obtain⟨z,hz,hq⟩:=hq2;obtain⟨j,hj,hi⟩:=q5 hz h2.len.symm;obtain⟨v,G',hv,rv,hs⟩:=h2.PV hj;have sub:∀ c∈G',c∈p::G:=fun c hc=>List.mem_cons_of_mem _ (hs.subset hc)
  exact .inl ⟨p,vs,_,v,rfl,rfl,SqL.of h1,tY hi hv,k v z G' H2 (e1.trans e2) (Rp.sub rv r1.n sub) (fun c hc=>f1 c (sub c hc)) ((List.nodup_cons.mp n1).2.sublist hs) hq⟩
 ·exact hq2.elim
def N8(K:W.Frag):R2:=fun x y H Q=>∃ p q vs ws,x = .ref p/\y = .ref q/\SqL K H p vs/\SqL K H q ws/\vs.all eT=true/\ws.all eT=true/\Q (.bl (!nj vs ws)) H
theorem OR(hu:X.A.units+1<cLine):OpR X (compareOp .NotEq) (N8 X.K):=by
 intro gV s σ H x y v u Q I rx ry h;obtain⟨p,q,vs,ws,rfl,rfl,h1,h2,f1,f2,k⟩:=h;cases rx;cases ry;obtain⟨its,r1,p1,_⟩:=I.list h1;obtain⟨cc,r2,p2,_⟩:=I.list h2;have l1:=r1.length;have l2:=r2.length;by_cases hl:its.length=cc.length
 ·refine SeqAt.RcNeAt.lists (e:=fun j=>match vs[j]?,ws[j]? with|some x,some y=>eqV x y | _,_=>false) p1.isList p2.isList (by simpa using hl) (by omega) (fun j g1 g2=>?_) X.prog X.w X.xe _ ⟨.bl _,H,I,rfl,?_⟩
  ·obtain⟨a,ea,ra⟩:=r1.at' g1;obtain⟨b,eb,rb⟩:=r2.at' g2;simp only[ea,eb];exact oY ra rb (kl f1 ea) (kl f2 eb)
  ·have e:nj vs ws =(List.range its.toArray.size).all fun j=>match vs[j]?,ws[j]? with|some x,some y=>eqV x y | _,_=>false:=by
    unfold nj;rw[show(vs.length==ws.length)=true from by simp;omega,Bool.true_and,List.size_toArray,l1]
    try rfl
   rw[<- e];exact k
 ·refine SeqAt.RcNeAt.lists_lengths p1.isList p2.isList (by simpa using hl) (by omega) X.prog X.w X.xe _ ⟨.bl _,H,I,rfl,?_⟩
  have e:nj vs ws=false:=by
   unfold nj;rw[show(vs.length==ws.length)=false from by simp;omega,Bool.false_and]
  rw[e]at k;exact k
def Rv:Q2:=fun t u Q=>match t,u with
 | .l xs,.l ys=>(fls xs&&fls ys)=true/\Q (.b (!eqF xs ys))
 | _,_=>False
theorem OQ(hu:X.A.units+1<cLine)(hK:X.K=K):OpR X (compareOp .NotEq) (N8 K):=by subst hK;exact OR hu
theorem J0:cL K (N8 K) Rv:=by
 intro dl H x y t u F G Q R D r1 r2 hq k;unfold Rv at hq
 split at hq
 ·obtain⟨p,vs,G1,rfl,rfl,h1,h2⟩:=r1.r.lst;obtain⟨p',vs',G2,rfl,rfl,h3,h4⟩:=r2.r.lst;obtain⟨f,hq⟩:=hq;rw[Bool.and_eq_true]at f;obtain⟨rfl,rfl⟩:=h2.vs f.1;obtain⟨rfl,rfl⟩:=h4.vs f.2;exact⟨p,p',_,_,rfl,rfl,SqL.of h1,SqL.of h3,lX f.1,lX f.2,k _ _ [] H (.refl D) (.c (.b _)) (fun _ z=>nomatch z) List.nodup_nil hq⟩
 ·exact hq.elim
theorem HG{xs:List T}(h:∀ x∈xs,eqV x.v x.v=true):eqF xs xs=true:=by
 unfold eqF nj;simp only[beq_self_eq_true,Bool.true_and,List.all_eq_true,List.mem_range,List.length_map];intro i hi;simp only[List.getElem?_map,List.getElem?_eq_getElem hi,Option.map_some];exact h _ (List.getElem_mem hi)
end
variable{p1:Pos}{p2:Pos}{lN:Pos}
section
variable{X:Cx}{K:W.Frag}{a e:Expr}{te:TE}{qe:QE}{tl:TA}{ql:QA}{pos p:Pos}
def S8(ql:QA):QJ:=fun q Q=>ql q fun ts=>match ts with | [.t xs]=>T.ims xs=true/\Q (jQ xs) q | _=>False
theorem Kt{x1}(hg:Gl X "enumerate")(hm:X.mg "enumerate" = none)(d6:bootBuiltins "enumerate" = some (.type "enumerate"))(ha:QPA X K [a] tl ql)(hs:starEach [a] X.env = [(false,eval a X.env)]:=by rfl)(hK:X.K=K:=by rfl) :
  QPJ X K (.Tuple elts x1 pos') (.Call (.Name "enumerate" p) [a] [] pos) (yr K true tl) (S8 ql):=⟨si hK hg hm d6 ha.h hs,fun dl H₀ hs H σ q Q R ⟨F0,r0⟩ hq k=>ha.s dl H σ q _ _ r0.rd hq fun vs ts F H' e1 r _ hz=>by
 split at hz
 ·obtain⟨i1,hz⟩:=hz;obtain⟨v,rfl,r1⟩:=r.one;obtain rfl:=r1.r.im (t:=.t _) i1;have q1:=(r0.evo e1).hold r1 fun j u hj b hb z=>nomatch z
  obtain⟨l1,vs1,rfl,h1,h2⟩:=r1.r.tup;exact⟨l1,rfl,⟨vs1,SqT.of h1⟩,k _ _ _ H' q ⟨F0,q1⟩ B9 hz⟩
 ·exact hz.elim⟩
def Oo(qe:QE):QE:=fun q Q=>qe q fun t=>match t with | .l xs=>T.ims xs=true/\Q (.l xs.reverse) | _=>False
theorem ya(hK:X.K=K)(hc:X.calm=true)(hg1:Gl X "list")(hm1:X.mg "list" = none)(hg2:Gl X "reversed")(hm2:X.mg "reversed" = none)(he:PE X e te)
  (hs1:starEach [e] X.env = [(false,eval e X.env)]) (hs2:starEach [.Call (.Name "reversed" p2) [e] [] lN] X.env = [(false,eval (.Call (.Name "reversed" p2) [e] [] lN) X.env)]) :
  PE X (.Call (.Name "list" p1) [.Call (.Name "reversed" p2) [e] [] lN] [] pos) (rE K te):=by subst hK;exact sj hc hg1 hm1 hg2 hm2 he hs1 hs2
theorem xX{p1 p2 lN:Pos}(hc:X.calm=true)(hg1:Gl X "list")(hm1:X.mg "list" = none)(hg2:Gl X "reversed")(hm2:X.mg "reversed" = none)(he:QPE X K e te qe)
  (hs1:starEach [e] X.env = [(false,eval e X.env)]:=by rfl) (hs2:starEach [.Call (.Name "reversed" p2) [e] [] lN] X.env = [(false,eval (.Call (.Name "reversed" p2) [e] [] lN) X.env)]:=by rfl) (hK:X.K=K:=by rfl) :
  QPF X K (.Call (.Name "list" p1) [.Call (.Name "reversed" p2) [e] [] lN] [] pos) (rE K te) (Oo qe) :=
 ⟨ya hK hc hg1 hm1 hg2 hm2 he.h hs1 hs2,fun dl H σ q Q R rd hq k=>he.s dl H σ q _ _ rd hq fun v t F H1 e1 r hz=>by
  split at hz
  ·obtain⟨i1,hz⟩:=hz;obtain⟨l,vs,G,rfl,rfl,h1,h2⟩:=r.r.lst;obtain rfl:=h2.im i1;refine⟨l,vs,rfl,SqL.of h1,fun p hp=>?_⟩
   have rs:Rps K dl H1 vs.reverse _ []:=⟨h2.rev rfl,fun _ z=>nomatch z⟩
   exact k _ _ [p] _ (e1.new hp) (rs.lst e1.d hp) (fun b hb=>by rw[List.mem_singleton.mp hb];exact e1.free hp) (by simp) hz
  ·exact hz.elim⟩
end
variable{j:Nat}{A:Around}
section
variable{X:Cx}{K:W.Frag}
variable{tg e o:Expr}{te to:TE}{qe qo:QE}
theorem gx{vs:List V}{ts:List T}(h:aw K dl H vs ts F){v:V}(hv:vs[j]? = some v):∃ t G,ts[j]? = some t/\aE K dl H v t G:=by
 have hl:=h.len;have hj:j<ts.length:=by rw[<- hl];exact(List.getElem?_eq_some_iff.mp hv).1
 obtain⟨w,G,hw,r,_⟩:=h.get (show ts[j]? = some ts[j]from by simp[hj])
 rw[hv]at hw;cases hw;exact⟨_,G,by simp[hj],r⟩
theorem Sn{k:Nat}(hr:cb k A):A.units+150<cLine:=by have:=hr.un;omega
variable{es:List Expr}{tl:TA}{ql:QA}
end
section
variable{X:Cx}{K:W.Frag}{ek ev:Expr}{tk tv:TE}{qk qv:QE}{pos:Pos}
theorem TF.dict{p:Addr}{kv kw:List (Key×V)}(hp:H p=some (.dK kv)):TF H (upd H p (.dK kw)) :=
 have ne:∀{a:Addr}{o:HO},H a=some o ->(∀ kv,o ≠ .dK kv)->a≠p:=fun h n e=>by rw[e,hp]at h;exact n _ (Option.some.inj h).symm
 ⟨fun a vs h=>by rw[ai (ne h fun _ z=>nomatch z)];exact h,fun a o u h=>by rw[ai (ne h fun _ z=>nomatch z)];exact h,fun a φ h=>by rw[ai (ne h fun _ z=>nomatch z)];exact h,fun a xs h=>⟨xs,by rw[ai (ne h fun _ z=>nomatch z)];exact h⟩,fun a x h=>⟨x,Int.le_refl _,by rw[ai (ne h fun _ z=>nomatch z)];exact h⟩⟩
end
section
variable{X:Cx}{σ:St}{s:Shared}{x:Int}
theorem Inv.MU(I:Inv X gV σ H s){u:HO}(ha:H a=some u)(hu:∀ o v,u ≠ .frz o v):∀ o v,X.H₀ a≠some (.frz o v):=fun o v e=>by
 have:=I.base.jP a o v e
 rw[ha]at this;exact hu o v (Option.some.inj this)
theorem Inv.EN(I:Inv X gV σ H s)(ha:H a=some (.lst [.int x])):Inv X gV σ (upd H a (.room x)) s:=by
 obtain⟨_,its,n,r,e⟩:=(show aW X.prog X.w H s.heap a (.lst [.int x])from I.hok a _ ha);exact I.Fz ha (fun _ z=>nomatch z) (fun _ z=>nomatch z) (fun _ z=>nomatch z) (I.MU ha (fun _ _ z=>nomatch z)) ⟨its,n,r,e⟩
theorem Inv.OZ(I:Inv X gV σ H s)(ha:H a=some (.room x)):Inv X gV σ (upd H a (.lst [.int x])) s:=by
 obtain⟨its,n,r,e⟩:=(show aW X.prog X.w H s.heap a (.room x)from I.hok a _ ha);exact I.Fz ha (fun _ z=>nomatch z) (fun _ z=>nomatch z) (fun _ z=>nomatch z) (I.MU ha (fun _ _ z=>nomatch z)) ⟨by show 1<=sizeLine;decide,its,n,r,e⟩
end
section
variable{X:Cx}{K:W.Frag}{a b e o:Expr}{ta tb te:TE}{qa qb qe:QE}{pos:Pos}
def FH:R2:=fun x y H Q=>∃ p r,x = .ref p/\y = .int 0/\H p=some (.room r)/\Q (.int r) H
theorem B6:IxR X FH:=by
 intro value slice gV s σ H x y v u Q I rx ry h hs;obtain⟨p,m,rfl,rfl,hq,q⟩:=h;cases rx;obtain⟨t,rfl⟩:=ry;obtain⟨its,n,r,e⟩:=(show aW X.prog X.w H s.heap p (.room m)from I.hok p _ hq);have pl:PlainL s.heap p its.toArray:=⟨_,n,e,rfl,rfl,rfl⟩;obtain⟨w,ew,rw'⟩:=r.get (show [V.int m][0]? = some (.int m)from rfl);have hl:=r.length;have hn:=jA;have fin:EP X gV σ Q w s:=⟨.int m,H,I,rw',q⟩;have hl':its.length=1:=hl.symm;exact item_listR pl.isList (Int.le_refl 0) (by decide) (by simpa using ew) fin hs
def FC:Mt:=fun o i v H Q=>∃ p x y,o = .ref p/\i = .int 0/\v = .int y/\H p=some (.room x)/\Q (upd H p (.room y))
theorem Fo:Qj X FC:=by
 intro gV s σ H o i v ov iv u Q I ro ri rv h;obtain⟨p,x,y,rfl,rfl,rfl,hp,q⟩:=h;have I1:=I.OZ hp;refine thn (set_list (X:=X) gV s σ _ (.ref p) (.int 0) (.int y) ov iv u (fun H'=>H'=upd H p (.lst [.int y])) I1 ro ri rv ⟨p,[.int x],0,0,rfl,rfl,aj,rfl,by rw[qI];rfl⟩) fun _ s' z=>?_
 obtain⟨H',I',z⟩:=z;subst z;have I2:=I'.EN aj;rw[qI]at I2;exact⟨_,I2,q⟩
def Mz(te:TE):TE:=fun σ H Q=>te σ H fun v H1=>∃ a x,v = .ref a/\H1 a=some (.lst [.int x])/\Q v (upd H1 a (.room x))
theorem K0(he:PE X e te):PE X e (Mz te):=by
 intro gV s σ H Q I h;refine thn (he gV s σ H _ I h) fun u s' hPP=>?_
 obtain⟨v,H',I',r,a,x,e1,e2,q⟩:=hPP;exact⟨v,_,I'.EN e2,r,q⟩
theorem Evo.fresh{a:Addr}{o:HO}(e:Evo dl H H')(ha:H a=none)(nd:Nd dl a):Evo dl H (upd H' a o) :=
 ⟨fun b u h n r=>by rw[ai (aI h ha)];exact e.k b u h n r,fun p hp=>(e.d p hp).oth (nd p hp).1 (nd p hp).2,fun b x h=>let⟨y,hy,e'⟩:=e.r b x h;⟨y,hy,by rw[ai (aI h ha)];exact e'⟩⟩
def Rt(qe:QE):QE:=fun q Q=>qe q fun t=>match t with
 | .l [.i x]=>Q (.rm x)
 | _=>False
theorem Kw(he:QPF X K e te qe):QPF X K e (Mz te) (Rt qe):=⟨K0 he.h,fun dl H σ q Q R rd hq k=>he.s dl H σ q _ _ rd hq fun v t F H1 e1 r1 f1 n1 hz=>by
 split at hz
 ·rename_i x;obtain⟨p,vs,G,rfl,rfl,h1,h2⟩:=r1.r.lst;cases h2 with
  | cons h3 h4 =>
   cases h4;obtain⟨rfl,rfl⟩:=h3.int;exact⟨p,x,rfl,h1,k _ (.rm x) [] _ (e1.fresh (f1 p List.mem_cons_self) (r1.n p List.mem_cons_self)) ⟨.rm aj (Int.le_refl _),fun _ z=>nomatch z⟩ (fun _ z=>nomatch z) List.nodup_nil hz⟩
 ·exact hz.elim⟩
def Oq:Q2:=fun t u Q=>match t,u with
 | .rm m,.i k=>k=0/\∀ r,r<=m->Q (.i r)
 | _,_=>False
theorem J5:Iv K FH Oq:=by
 intro dl H x y t u F G Q R D r1 r2 hq k;unfold Oq at hq
 split at hq
 ·obtain⟨p,m,rfl,h1,h2,_⟩:=r1.r.roo;obtain⟨rfl,_⟩:=r2.r.int;obtain⟨rfl,hq⟩:=hq;exact⟨p,m,rfl,rfl,h1,k _ (.i m) [] H (.refl D) ⟨.i m,fun _ z=>nomatch z⟩ (hq m h2)⟩
 ·exact hq.elim
theorem Kx(ha:QPE X K a ta qa)(hb:QPE X K b tb qb)(hs:nM b:=by intro _ _;rfl):QPE X K (.Subscript a b pos) (tOp FH ta tb) (qOp Oq qa qb):=⟨yb B6 ha.h hb.h hs,vO J5 ha.s hb.s⟩
def zy(i:Nat)(qe:QE):QS:=fun D q=>match q[i]? with
 | some x=>match x.get with
  | some (.rm u)=>qe q fun t=>match t with
   | .i k=>0<=k/\D.nx (q.set i (.r (.rm (u - k))))
   | _=>False
  | _=>False
 | none=>False
def MH:R2:=rI0 fun i j=>.int (i - j)
theorem dZ{α:Type}{xs:List α}{i:Nat}{x:α}(h:xs[i]? = some x):xs.set i x=xs:=by
 obtain⟨hl,e⟩:=List.getElem?_eq_some_iff.mp h;subst e;exact List.set_getElem_self hl
theorem Df{i:Nat}(he:iV K te qe):nJ K (jd (tOp MH (tOp FH (b7 i) (tC (.int 0))) te) (Hz (b7 i) (tC (.int 0)) FC)) (zy i qe):=fun dl H₀ hs H σ q Dq D ⟨F,r⟩ hq E=>by
 unfold zy at hq
 split at hq
 ·rename_i x ex
  split at hq
  ·rename_i u eg;obtain⟨v,hv,rp⟩:=r.g i x _ ex eg;obtain⟨p,m,rfl,h1,h2,hF⟩:=rp.r.roo;refine⟨_,hv,p,m,rfl,rfl,h1,he dl H σ q _ _ r.rd hq fun w t F1 H1 e1 r1 hz=>?_⟩
   split at hz
   ·rename_i k;obtain⟨hk,hz⟩:=hz;obtain⟨rfl,_⟩:=r1.r.int;obtain⟨y,hy,e2⟩:=e1.r p m h1;have nd:Nd dl p:=r.d.nd h1 (fun _ z=>nomatch z) (fun _ z=>nomatch z)
    refine⟨m,k,rfl,rfl,_,hv,p,y,m - k,rfl,rfl,rfl,e2,?_⟩;have ev:Evo dl H (upd H1 p (.room (m - k))):=by
     refine⟨fun b o hb n nr=>?_,fun d hd=>(e1.d d hd).oth (nd d hd).1 (nd d hd).2,fun b z hb=>?_⟩
     ·have ne:b≠p:=fun z=>by rw[z,h1]at hb;exact nr _ (Option.some.inj hb).symm
      rw[ai ne];exact e1.k b o hb n nr
     ·by_cases eb:b=p
      ·subst eb;rw[h1]at hb;cases hb;exact⟨_,Int.sub_le_self _ hk,aj⟩
      ·obtain⟨z',hz',e3⟩:=e1.r b z hb;exact⟨z',hz',by rw[ai eb];exact e3⟩
    have R2:=(r.evo ev).KG (i:=i) (v:=.ref p) (t:=.rm (u - k)) (F':=[]) (List.getElem?_eq_some_iff.mp ex).1 ⟨.rm aj (by omega),fun _ z=>nomatch z⟩ (fun _ _ _ _ _ _=>List.not_mem_nil)
    rw[dZ hv]at R2;exact E.nx _ _ _ ⟨_,R2⟩ hz
   ·exact hz.elim
  ·exact hq.elim
 ·exact hq.elim
theorem xV{i:Nat}{p3 p4 p5 p6 p7:Pos}{j1 j2:Nat}(ho:PE X (.Name x p1) (b7 i))(ho':PE X (.Name x p3) (b7 i))(he:QPE X K e te qe)
  (hs:swapsWithSole [.Subscript (.Name x p1) (.Constant (.int 0) j1 p4) pos'] (.BinOp (.Subscript (.Name x p3) (.Constant (.int 0) j2 p5) p6) .Sub e p7) pos.line X.env=pure false:=by rfl) (hw:swappedStores [.Subscript (.Name x p1) (.Constant (.int 0) j1 p4) pos'] (.BinOp (.Subscript (.Name x p3) (.Constant (.int 0) j2 p5) p6) .Sub e p7) X.env=pure none:=by rfl)
  (h1:(assignEach [.Subscript (.Name x p1) (.Constant (.int 0) j1 p4) pos'] X.env).map (·.2) = [assign (.Subscript (.Name x p1) (.Constant (.int 0) j1 p4) pos') X.env]:=by rfl)
  (ha:∀ v,assign (.Subscript (.Name x p1) (.Constant (.int 0) j1 p4) pos') X.env v =(do
   let ov <- holding [v] (eval (.Name x p1) X.env)
   let iv <- holding [v,ov] (eval (.Constant (.int 0) j1 p4) X.env)
   standAt pos'
   holding [v,ov,iv] (setItem ov iv v)
   release [v,ov,iv] []):=by intro _;rfl) :
  QPS X K (.Assign [.Subscript (.Name x p1) (.Constant (.int 0) j1 p4) pos'] (.BinOp (.Subscript (.Name x p3) (.Constant (.int 0) j2 p5) p6) .Sub e p7) pos) (jd (tOp MH (tOp FH (b7 i) (tC (.int 0))) te) (Hz (b7 i) (tC (.int 0)) FC)) (zy i qe) :=
 ⟨wg (cw zM (yb B6 ho' bD (fun _ _=>rfl)) he.h) (Gs ho bD Fo ha) hs hw h1,Df he.s⟩
end
def kJ(H:Hp)(a:Addr):Hp:=fun b=>if b=a then none else H b
theorem lQ:kJ H a a=none:=if_pos rfl
theorem sN{b:Addr}(h:b≠a):kJ H a b=H b:=if_neg h
def spM(K:W.Frag)(j:Nat)(ps:PSp):Sp:=fun vs H Q _=>∃(dl:Dl)(ts:List T)(a:Addr)(ks:List (Key×T))(Qp:T->Prop),Dls dl H/\vs.length=ts.length/\vs[j]? = some (.ref a)/\ts[j]? = some (.dp a ks)/\Rp K dl H (.ref a) (.dp a ks) [a] /\
 (∀ i v t,i≠j->vs[i]? = some v->ts[i]? = some t->Rp K dl H v t [])/\ps ts Qp /\
 ∀ ks' H',Frm dl (kJ H a) H'->Dls dl H'->Rp K dl H' (.ref a) (.dp a ks') [a]->Qp (.dp a ks')->Q .non H'
theorem rW{K:W.Frag}{vs:List V}{ts:List T}{ks:List (Key×T)}(D:Dls dl H)(hl:vs.length=ts.length)(hv:vs[j]? = some (.ref a))(ht:ts[j]? = some (.dp a ks))(r0:Rp K dl H (.ref a) (.dp a ks) [a])(ro:∀ i v t,i≠j->vs[i]? = some v->ts[i]? = some t->Rp K dl H v t [])(hj:j<ts.length):Rel K dl (kJ H a) [] H (start N vs) ((ts.map Sl.r).set j (.o (.dp a ks))++List.replicate (N.length - ts.length) .no) (fun i=>if i=j then [a]else []):=by
 have lk:∀(i:Nat)(y:Sl),((ts.map Sl.r).set j (.o (.dp a ks))++List.replicate (N.length - ts.length) Sl.no)[i]? = some y ->(i=j/\y = .o (.dp a ks))\/(i≠j/\∃ t,ts[i]? = some t/\y = .r t)\/(ts.length<=i/\y = .no):=fun i y h=>by
  by_cases hi:i<ts.length
  ·rw[List.getElem?_append_left (by simpa using hi)]at h
   rcases get_set h with⟨e1,e2,_⟩ |⟨e1,e2⟩
   ·exact .inl ⟨e1,e2⟩
   ·rw[List.getElem?_map,List.getElem?_eq_getElem hi]at e2;exact .inr (.inl ⟨e1,ts[i],by simp,(Option.some.inj e2).symm⟩)
  ·rw[List.getElem?_append_right (by simpa using hi),List.getElem?_replicate]at h
   split at h
   ·exact .inr (.inr ⟨by omega,(Option.some.inj h).symm⟩)
   ·cases h
 have vat:∀(i:Nat)(v:V),vs[i]? = some v ->(start N vs)[i]? = some (some v):=fun i v e=>by
  have hi:i<vs.length:=(List.getElem?_eq_some_iff.mp e).1;show(vs.map some++List.replicate (N.length - vs.length) none)[i]? = _;rw[List.getElem?_append_left (by simpa using hi),List.getElem?_map,e]
  rfl
 refine⟨D,fun i y t h1 h2=>?_,fun i y h1 h2=>?_,fun i hi=>?_,fun i t h1=>?_,fun p hp=>(by cases hp),⟨fun b o h _ _=>?_,fun b x h=>⟨x,Int.le_refl _,?_⟩⟩,?_⟩
 ·rcases lk i y h1 with⟨rfl,rfl⟩ |⟨ne,u,e,rfl⟩ |⟨_,rfl⟩
  ·cases h2;refine⟨.ref a,vat _ _ hv,?_⟩;rw[if_pos rfl];exact r0
  ·cases h2;obtain⟨v,ev⟩:∃ v,vs[i]? = some v:=⟨vs[i]'(by rw[hl];exact(List.getElem?_eq_some_iff.mp e).1),List.getElem?_eq_getElem _⟩
   refine⟨v,vat _ _ ev,?_⟩;show Rp K dl H v t (if i=j then [a]else [])
   rw[if_neg ne];exact ro i v t ne ev e
  ·cases h2
 ·rcases lk i y h1 with⟨rfl,rfl⟩ |⟨ne,u,e,rfl⟩ |⟨hi,rfl⟩
  ·cases h2
  ·cases h2
  ·exact if_neg (by omega)
 ·refine if_neg ?_;simp at hi;omega
 ·rcases lk i _ h1 with⟨rfl,e⟩ |⟨ne,u,e,z⟩ |⟨_,z⟩
  ·refine⟨by simp,fun b hb=>?_,fun k hk b hb=>?_⟩
   ·simp only[if_pos]at hb;rw[List.mem_singleton.mp hb];exact lQ
   ·simp only[if_neg hk];exact List.not_mem_nil
  ·cases z
  ·cases z
 ·by_cases e:b=a
  ·rw[e,lQ]at h;cases h
  ·rw[sN e]at h;exact h
 ·by_cases e:b=a
  ·rw[e,lQ]at h;cases h
  ·rw[sN e]at h;exact h
 ·show _ =(vs.map some++List.replicate (N.length - vs.length) none).length;simp[hl]
theorem Fun.okM{w:World}{K:W.Frag}{f:Addr}{k:Nat}{psp:PSp}(F:Fun K x qual st f fd)(S:aH N ps (au st))(len:∀ ts Q,psp ts Q->ts.length=ps.length)
  (fE:∀(cdv:Value)(A:Around)(outer:List Env)(s:Shared)(H:Hp)(E:XK),cb k (A.deeper (envOfC qual (au st) s.heap.objs.size f cdv)) ->
   ∃ t qs,nL (ma CX0 P w K mg base N qual (au st) f cdv A outer s H E).nox K (bA st) t qs/\∀ ts Q a ks,psp ts Q->ts[j]? = some (.dp a ks)->qs { nx:=fun q=>∃ ks',q[j]? = some (.o (.dp a ks'))/\T.imk ks'=true/\Q (.dp a ks'),rt:=fun _=>False } ((ts.map Sl.r).set j (.o (.dp a ks))++List.replicate (N.length - ts.length) .no)):aU P w K mg base CX0 (k+1) f fd ps (spM K j psp):=by
 have hPN:ps.length<=N.length:=by have:=congrArg List.length S.pre;rw[List.length_take]at this;omega
 refine F.ok S (fun vs H Q E h=>?_) (fun cdv A outer s H vs Q E hr h=>?_)
 ·obtain⟨dl,ts,a,ks,Qp,_,hl,_,_,_,_,h,_⟩:=h;rw[hl];exact len ts Qp h
 ·obtain⟨dl,ts,a,ks,Qp,D,hl,hv,ht,r0,ro,h,fin⟩:=h;obtain⟨t,qs,hb,hq⟩:=fE cdv A outer s H E hr;refine⟨t,hb.h,?_⟩;have hlen:=len ts Qp h;have z:=hq ts Qp a ks h ht;have hj:j<ts.length:=(List.getElem?_eq_some_iff.mp ht).1;have R:=rW (N:=N) D hl hv ht r0 ro hj;refine hb.s dl (kJ H a) [] H _ _ _ _ ⟨_,R⟩ z ⟨fun H' σ q hr hz=>?_,fun _ _ _ _ hz=>hz.elim,fun _ _ _ _ hz=>hz.elim,fun _ _ _ _ _ _ _ _ _ hz=>hz.elim⟩
  obtain⟨F,r'⟩:=hr;obtain⟨ks',e1,him,hz⟩:=hz;obtain⟨v',_,rp⟩:=r'.g j _ _ e1 rfl;obtain⟨vs',G,rfl,eF,g1,g2⟩:=rp.r.dpp;obtain rfl:=g2.im him;rw[eF]at rp;exact fin ks' H' r'.f r'.d rp hz
section
variable{X:Cx}{K:W.Frag}{hs:List (V×T)}{σ:St}{F:Nat->List Addr}
theorem Rel.Pb{i:Nat}{t t':T}{v:V}(r:Rel K dl H₀ hs H σ q F)(hi:q[i]? = some (.o t))(hv:σ[i]? = some (some v))(hF:F i = [a])(ha:∃ kvs,H a=some (.dK kvs))(f:Frm dl (kJ H a) H')(D:Dls dl H')(hr:Rp K dl H' v t' [a]):dR K dl H₀ hs H' σ (q.set i (.o t')):=by
 obtain⟨kvs,ha⟩:=ha;have ne:∀{b:Addr}{o:HO},H b=some o ->(∀ kv,o ≠ .dK kv)->b≠a:=fun h n e=>by rw[e,ha]at h;exact n _ (Option.some.inj h).symm
 have cut:∀{b:Addr}{o:HO},H b=some o->b≠a->kJ H a b=some o:=fun h n=>by rw[sN n];exact h
 have tf:TF H H':=⟨fun b vs h=>f.k b _ (cut h (ne h fun _ z=>nomatch z)) (r.d.nd h (fun _ z=>nomatch z) fun _ z=>nomatch z) (fun _ z=>nomatch z),fun b o u h=>f.k b _ (cut h (ne h fun _ z=>nomatch z)) (r.d.nd h (fun _ z=>nomatch z) fun _ z=>nomatch z) (fun _ z=>nomatch z),
  fun b φ h=>f.k b _ (cut h (ne h fun _ z=>nomatch z)) (r.d.nd h (fun _ z=>nomatch z) fun _ z=>nomatch z) (fun _ z=>nomatch z),fun b xs h=>(by
  by_cases hn:Nd dl b
  ·exact⟨xs,f.k b _ (cut h (ne h fun _ z=>nomatch z)) hn (fun _ z=>nomatch z)⟩
  ·unfold Nd at hn;obtain⟨p,hp,z⟩:∃ p∈dl,¬(b≠p.1/\b≠p.2):=Classical.byContradiction fun c=>hn fun p hp=>Classical.byContradiction fun z=>c ⟨p,hp,z⟩
   obtain⟨s,n,ls,Q⟩:=r.d p hp;obtain⟨s',n',ls',Q'⟩:=D p hp;have h1:b≠p.1:=i6 h Q.hd (fun z=>nomatch z)
   have h2:b=p.2:=Classical.byContradiction fun z'=>z ⟨h1,z'⟩
   exact⟨_,by rw[h2];exact Q'.hl⟩),fun b x h=>f.r b x (cut h (ne h fun _ z=>nomatch z))⟩
 have st:∀{w:V}{u:T}{Fw:List Addr},Rp K dl H w u Fw->a ∉ Fw->Rp K dl H' w u Fw:=fun{w u Fw} h np =>
  ⟨h.r.cN tf (fun _ z=>z) fun b hb o e=>f.k b o (cut e fun z=>np (z▸hb)) (h.n b hb) (.of (h.r.there b hb) e),h.n⟩
 obtain⟨o1,o2,o3⟩:=r.o i t hi;have hF':∀ j,(xM F i [a]) j=F j:=fun j=>by
  by_cases e:j=i
  ·subst e;rw[aX,hF]
  ·rw[aP e]
 refine⟨F,D,fun j x u h1 h2=>?_,fun j x h1 h2=>?_,fun j hj=>r.z j (by rw[List.length_set]at hj;exact hj),fun j u h1=>?_,fun p hp=>?_,⟨fun b o h n nr=>?_,fun b x h=>?_⟩,by simp[r.l]⟩
 ·rcases get_set h1 with⟨rfl,rfl,_⟩ |⟨ne',h1⟩
  ·cases h2;exact⟨v,hv,by rw[hF];exact hr⟩
  ·obtain⟨w,h3,h4⟩:=r.g j x u h1 h2;exact⟨w,h3,st h4 (o3 j ne' a (by rw[hF];exact List.mem_cons_self))⟩
 ·rcases get_set h1 with⟨rfl,rfl,_⟩ |⟨ne',h1⟩
  ·cases h2
  ·exact r.n j x h1 h2
 ·rcases get_set h1 with⟨rfl,e,_⟩ |⟨ne',h1⟩
  ·exact⟨o1,o2,o3⟩
  ·exact r.o j u h1
 ·obtain⟨Fp,h1,h2⟩:=r.h p hp;refine⟨Fp,st h1 (h2 i t hi a (by rw[hF];exact List.mem_cons_self)),fun j u hj b hb z=>?_⟩
  rcases get_set hj with⟨rfl,e,_⟩ |⟨ne',hj⟩
  ·exact h2 j t hi b hb z
  ·exact h2 j u hj b hb z
 ·have n0:b≠a:=fun z=>by rw[z,o2 a (by rw[hF];exact List.mem_cons_self)]at h;cases h
  exact f.k b o (cut (r.f.k b o h n nr) n0) n nr
 ·have n0:b≠a:=fun z=>by rw[z,o2 a (by rw[hF];exact List.mem_cons_self)]at h;cases h
  obtain⟨y,hy,e1⟩:=r.f.r b x h;obtain⟨y',hy',e2⟩:=f.r b y (cut e1 n0);exact⟨y',Int.le_trans hy' hy,e2⟩
end
section
variable{X:Cx}{K:W.Frag}{e a b o:Expr}{es:List Expr}{te tk tv:TE}{tl:TA}{qe qk qv:QE}{ql:QA}{pos p:Pos}{k:Nat}{f:Addr}{prs:List Str}{ps:PSp}{i:Nat}
structure Bd(X:Cx)(K:W.Frag)(es:List Expr)(tl:TA)(i j:Nat)(ql:QA):Prop where
 h:PA X es tl
 s:∀(dl:Dl)(H:Hp)(σ:St)(q:Sq)(v0:V)(Q:List T->Prop)(R:List V->Hp->Prop),RdR K dl H σ q->σ[i]? = some (some v0)->ql q Q ->
  (∀ vs ts H',Evo dl H H'->vs.length=ts.length->vs[j]? = some v0 ->(∀ n v t,n≠j->vs[n]? = some v->ts[n]? = some t->Rp K dl H' v t [])->Q ts->R vs H')->tl σ H R
theorem aw.im1{vs:List V}{ts:List T}(h:aw K dl H vs ts F)(him:T.ims ts=true):∀(n:Nat)(v:V)(t:T),vs[n]? = some v->ts[n]? = some t->aE K dl H v t []:=by
 obtain rfl:=h.im him;intro n v t h1 h2;obtain⟨v',G,e1,r,s⟩:=h.PV h2;rw[h1]at e1;cases e1;rw[List.sublist_nil.mp s]at r;exact r
theorem dS(hx:PE X e (b7 i))(hr:QPA X K es tl ql)(hs:starEach (e::es) X.env =(false,eval e X.env)::starEach es X.env:=by rfl):Bd X K (e::es) (cu (b7 i) tl) i 0 (fun q Q=>ql q fun ts=>T.ims ts=true/\Q (.n::ts)) :=
 ⟨bw hx hr.h hs,fun dl H σ q v0 Q R rd hv hq k=>⟨v0,hv,hr.s dl H σ q _ _ rd hq fun vs ts F H1 e1 r1 l1 hz=>k _ (.n::ts) H1 e1 (by simp[r1.r.len]) rfl (fun n v t ne h1 h2=>by
  cases n with
  | zero=>exact absurd rfl ne
  | succ n=>exact⟨r1.r.im1 hz.1 n v t (by simpa using h1) (by simpa using h2),fun _ z=>nomatch z⟩) hz.2⟩⟩
theorem kf(he:QPE X K e te qe)(hr:Bd X K es tl i j ql)(hs:starEach (e::es) X.env =(false,eval e X.env)::starEach es X.env:=by rfl):Bd X K (e::es) (cu te tl) i (j+1) (fun q Q=>qe q fun t=>t.im=true/\ql q fun ts=>Q (t::ts)) :=
 ⟨bw he.h hr.h hs,fun dl H σ q v0 Q R rd hv hq k=>he.s dl H σ q _ _ rd hq fun v t F H1 e1 r1 hz=>hr.s dl H1 σ q v0 _ _ (rd.evo e1) hv hz.2 fun vs ts H2 e2 l2 hj ho z=>by
  have r2:=r1.evo e1.d e2;obtain rfl:=r1.r.im hz.1;exact k (v::vs) (t::ts) H2 (e1.trans e2) (by simp[l2]) (by simpa using hj) (fun n w u ne h1 h2=>by
   cases n with
   | zero=>simp at h1 h2;subst h1 h2;exact r2
   | succ n=>exact ho n w u (fun z=>ne (by rw[z])) (by simpa using h1) (by simpa using h2)) z⟩
def F9(i j:Nat)(ps:PSp)(ql:QA):QS:=fun D q=>match q[i]? with
 | some (.o (.d ks))=>T.imk ks=true/\∀ a,ql q fun ts=>ps (ts.set j (.dp a ks)) fun t=>match t with
  | .dp _ ks'=>D.nx (q.set i (.o (.d ks')))
  | _=>False
 | some (.o (.dp a ks))=>T.imk ks=true/\ql q fun ts=>ps (ts.set j (.dp a ks)) fun t=>match t with
  | .dp _ ks'=>D.nx (q.set i (.o (.dp a ks')))
  | _=>False
 | _=>False
def F5(i:Nat)(qk qv:QE):QS:=fun D q=>match q[i]? with
 | some (.o (.dp a xs))=>qv q fun t=>qk q fun u=>match u.key with
  | some k=>xs.length<sizeLine/\T.imk xs=true/\t.im=true/\D.nx (q.set i (.o (.dp a (oJ xs k t))))
  | none=>False
 | _=>False
theorem Rel.Kh{hs:List (V×T)}{σ:St}{F:Nat->List Addr}{i:Nat}{p:Addr}{ws:List (Key×V)}{xs ys:List (Key×T)}(r:Rel K dl H₀ hs H σ q F)(hi:q[i]? = some (.o (.dp p xs)))(hv:σ[i]? = some (some (.ref p)))(e:Evo dl H H')
  (rs:aR K dl H' ws ys []):dR K dl H₀ hs (upd H' p (.dK ws)) σ (q.set i (.o (.dp p ys))):=by
 have r':=r.evo e;obtain⟨v',hv',rp⟩:=r'.g i _ _ hi rfl;rw[hv]at hv';cases hv';obtain⟨vs2,G2,e2,eF,h1,h2⟩:=rp.r.dpp;have pn:Nd dl p:=rp.n p (by rw[eF];exact List.mem_cons_self)
 have rs2:aR K dl (upd H' p (.dK ws)) ws ys []:=rs.cN (TF.dict h1) (fun _ z=>z) fun _ z=>nomatch z
 exact⟨_,r'.write (t':=.dp p ys) (F':=[p]) hi hv (by rw[eF];exact List.mem_cons_self) (fun xs' h=>by rw[h1]at h;cases h) ⟨.dp aj rs2,fun b hb=>by rw[List.mem_singleton.mp hb];exact pn⟩ (by simp) fun b hb=>by rw[List.mem_singleton.mp hb,eF];exact .inl List.mem_cons_self⟩
theorem E8{i:Nat}(hk:iV K tk qk)(hv:iV K tv qv):nJ K (Fu (b7 i) tk tv) (F5 i qk qv):=fun dl H₀ hs H σ q Dq D ⟨F,r⟩ hq E=>by
 unfold F5 at hq
 split at hq
 ·rename_i p xs ei;refine hv dl H σ q _ _ r.rd hq fun w t F1 H1 e1 r1 hq=>?_
  obtain⟨v,hv',rp⟩:=(r.evo e1).g i _ _ ei rfl;refine⟨v,hv',hk dl H1 σ q _ _ (r.rd.evo e1) hq fun y u F2 H2 e2 r2 hq=>?_⟩
  split at hq
  ·rename_i k ek;obtain⟨hz,hm,ht,hq⟩:=hq;obtain rfl:=r1.r.im ht;have rp2:=rp.evo e1.d e2;obtain⟨vs,G,rfl,eF,h1,h2⟩:=rp2.r.dpp;obtain rfl:=h2.im hm;rw[r2.r.key ek];exact⟨p,_,rfl,xA.k h1 (by rw[h2.len];exact hz),E.nx _ _ _ (r.Kh ei hv' (e1.trans e2) (aR.put (r1.evo e1.d e2).r h2)) hq⟩
  ·exact hq.elim
 ·exact hq.elim
theorem Bx{i:Nat}(hu:X.A.units+1<cLine)(ho:PE X o (b7 i))(hk:QPE X K a tk qk)(hv:QPE X K b tv qv)(hs:swapsWith b (some (.Subscript o a pos')) pos.line X.env=pure false:=by rfl) :
  QPS X K (.Assign [.Subscript o a pos'] b pos) (Fu (b7 i) tk tv) (F5 i qk qv):=⟨qR hu ho hk.h hv.h hs,E8 hk.s hv.s⟩
theorem Fb(ha:Bd X K es tl i j ql):nJ K (gu (rF (spM K j ps) [] E0 tl)) (F9 i j ps ql):=fun dl H₀ hs H σ q Dq D ⟨F,r⟩ hq E=>by
 have go:∀{a:Addr}{ks:List (Key×T)}{t:T}(W:T->Prop)(t1:List (Key×T)->T),q[i]? = some (.o t)->σ[i]? = some (some (.ref a)) ->(∀{H:Hp}{G:List Addr},aE K dl H (.ref a) t G->aE K dl H (.ref a) (.dp a ks) G)->F i = [a] ->(∀{H:Hp}{ks':List (Key×T)},aE K dl H (.ref a) (.dp a ks') [a]->aE K dl H (.ref a) (t1 ks') [a]) ->
   (∀ ks',W (.dp a ks')->Dq.nx (q.set i (.o (t1 ks')))) ->(ql q fun ts=>ps (ts.set j (.dp a ks)) W)->gu (rF (spM K j ps) [] E0 tl) D σ H:=by
  intro a ks t W t1 hi hv tr hF ba hW hq;refine ha.s dl H σ q (.ref a) _ _ r.rd hv hq fun vs ts H1 e1 l1 hj ho hz=>?_
  have r1:=r.evo e1;obtain⟨v',hv',rp⟩:=r1.g i _ _ hi rfl;rw[hv]at hv';cases hv';rw[hF]at rp;show spM K j ps (vs ++ []) H1 _ _;rw[List.append_nil];have hjl:j<ts.length:=by rw[<- l1];exact(List.getElem?_eq_some_iff.mp hj).1
  obtain⟨kvs,G,_,_,g1,_⟩:=(tr rp.r).dpp;refine⟨dl,ts.set j (.dp a ks),a,ks,W,r1.d,by simp[l1],hj,List.getElem?_set_self hjl,⟨tr rp.r,rp.n⟩,fun n v u ne h1 h2=>ho n v u ne h1 (by rwa [List.getElem?_set_ne (fun z=>ne z.symm)]at h2),hz,fun ks' H' f D' r' hw=>?_⟩
  exact E.nx _ _ _ (r1.Pb hi hv hF ⟨_,g1⟩ f D' ⟨ba r'.r,r'.n⟩) (hW ks' hw)
 unfold F9 at hq
 split at hq
 ·rename_i ks ei;obtain⟨v,hv,rp⟩:=r.g i _ _ ei rfl;obtain⟨a,vs,G,rfl,eF,h1,h2⟩:=rp.r.dic;obtain rfl:=h2.im hq.1;refine go (a:=a) (ks:=ks) _ (fun ks'=>.d ks') ei hv (fun{H G} z=>?_) eF (fun{H ks'} z=>?_) (fun ks' z=>z) (hq.2 a)
  ·obtain⟨a',vs',G',e1,rfl,h3,h4⟩:=z.dic;cases e1;exact .dp h3 h4
  ·obtain⟨vs',G',e1,e2,h3,h4⟩:=z.dpp;rw[e2];exact .d h3 h4
 ·rename_i a ks ei;obtain⟨v,hv,rp⟩:=r.g i _ _ ei rfl;obtain⟨vs,G,rfl,eF,h1,h2⟩:=rp.r.dpp;obtain rfl:=h2.im hq.1;exact go (a:=a) (ks:=ks) _ (fun ks'=>.dp a ks') ei hv (fun z=>z) eF (fun z=>z) (fun ks' z=>z) hq.2
 ·exact hq.elim
theorem ke(F:aU X.prog X.w X.K X.mg X.base CX0 k f fd prs (spM K j ps))(hr:cb k X.A)(hg:Gl X x)(hm:X.mg x=some (.ref f))(hk:W.keepIn X.K (.ref f)=true)(hb:Binds X.K fd prs [])(ha:Bd X K (e::es) tl i j ql)
  (hdb:(x ==("__debug__":Str))=false:=by decide) (he:starEach (e::es) X.env =(false,eval e X.env)::starEach es X.env:=by rfl) (hpl:(backTo pos (starEach es X.env)).any (·.1)=false:=by rfl) (hs:swapsWith (.Call (.Name x p) (e::es) [] pos) none pos'.line X.env=pure false:=by rfl) :
  QPS X K (.Expr (.Call (.Name x p) (e::es) [] pos) pos') (gu (rF (spM K j ps) [] E0 tl)) (F9 i j ps ql):=⟨kh (wm F hr hg hm hk hb .nil BQ ha.h hdb he hpl) hs,Fb ha⟩
end
def T.dof:T->Option (List (Key×T))
 | .d ks=>some ks
 | .fd _ _ ks=>some ks
 | .dp _ ks=>some ks
 | _=>none
variable{kvs:List (Key×V)}{td:TE}
section
variable{X:Cx}{K:W.Frag}{v:V}{a b c e:Expr}{ta tb tk tx te:TE}{qa qb qk qx qe:QE}{pos apos bq:Pos}
theorem aE.dof{t:T}{ks:List (Key×T)}(h:aE K dl H v t F)(e:t.dof=some ks):∃ a vs G,v = .ref a/\Rd H a (.dK vs)/\aR K dl H vs ks G/\∀ b∈G,b∈F:=by
 cases t with
 | d ks' =>
  cases e;obtain⟨a,vs,G,rfl,rfl,h1,h2⟩:=h.dic;exact⟨a,vs,G,rfl,.inl h1,h2,fun _ hb=>List.mem_cons_of_mem _ hb⟩
 | fd o vs ks' =>
  cases e;obtain⟨a,rfl,rfl,h1,h2⟩:=h.VH;exact⟨a,vs,[],rfl,.inr ⟨_,h1⟩,h2,fun _ hb=>hb⟩
 | dp a ks' =>
  cases e;obtain⟨vs,G,rfl,rfl,h1,h2⟩:=h.dpp;exact⟨a,vs,G,rfl,.inl h1,h2,fun _ hb=>List.mem_cons_of_mem _ hb⟩
 | _=>cases e
theorem g9.rd{a:Addr}{k:Key}(e:Rd H a (.dK kvs)):g9 H a (kV k) (d9 kvs k):=.inl ⟨kvs,k,e,rfl,rfl⟩
def MO(neg:Bool):Q2:=fun t u Q=>match u.dof with
 | some ks=>match t.key with
  | some k=>Q (.b (if neg then !(a7 ks k).isSome else(a7 ks k).isSome))
  | none=>False
 | none=>False
theorem mI{neg:Bool}:cL K (Oa neg) (MO neg):=by
 intro dl H x y t u F G Q R D r1 r2 hq k;unfold MO at hq
 split at hq
 ·rename_i ks eks
  split at hq
  ·rename_i k0 ek;obtain⟨p,vs,G,rfl,h1,h2,_⟩:=r2.r.dof eks;rw[r1.r.key ek];refine⟨p,_,rfl,g9.rd h1,k _ _ [] H (.refl D) (.c (.b _)) (fun _ z=>nomatch z) List.nodup_nil ?_⟩
   have e:(d9 vs k0).isSome =(a7 ks k0).isSome:=by
    rcases h2.look k0 with⟨z1,z2⟩ |⟨_,_,_,z1,z2,_⟩
    ·rw[z1,z2];rfl
    ·rw[z1,z2];rfl
   rw[e];exact hq
  ·exact hq.elim
 ·exact hq.elim
def Ga:Q2:=fun t u Q=>match t.dof with
 | some ks=>match u.key with
  | some k=>∃ x,a7 ks k=some x/\Q x
  | none=>False
 | none=>False
def FI:R2:=fun x y H Q=>∃ a kvs k v,x = .ref a/\y=kV k/\Rd H a (.dK kvs)/\d9 kvs k=some v/\Q v H
theorem Hh:IxR X FI:=by
 intro value slice gV s σ H x y v u Q I rx ry h hs;obtain⟨a,kvs,k,w,rfl,rfl,ha,hv,q⟩:=h;cases rx;obtain⟨z,hd,vs,rel,dd⟩:=kL I.hok ha;obtain⟨w',hw,rw'⟩:=gW.some_of (v:=w) (o:=valueAt vs k) (by rw[<- hv];exact rel.val k)
 exact subscriptTail_builtinR (x:=w') dd.typeIs PySem.F.slot_dict_getitem.lookup (wpAny_getItem_of (Q:=fun r s'=>r=w'/\EP X gV σ Q r s') (nc ry) dd.mapOf hw ⟨rfl,w,H,I.tok _,rw',q⟩) hs
theorem Fc:Iv K FI Ga:=by
 intro dl H x y t u F G Q R D r1 r2 hq k;unfold Ga at hq
 split at hq
 ·rename_i ks eks
  split at hq
  ·rename_i k0 ek;obtain⟨z,hz,hq⟩:=hq;obtain⟨p,vs,G,rfl,h1,h2,sub⟩:=r1.r.dof eks;rw[r2.r.key ek];rcases h2.look k0 with⟨z1,z2⟩ |⟨t',v,G',z1,z2,z3,z4⟩
   ·rw[z1]at hz;cases hz
   ·rw[z1]at hz;cases hz;exact⟨p,vs,k0,v,rfl,rfl,h1,z2,k v _ G' H (.refl D) (Rp.sub z3 r1.n fun b hb=>sub b (z4 b hb)) hq⟩
  ·exact hq.elim
 ·exact hq.elim
theorem iy(ha:QPE X K a ta qa)(hb:QPE X K b tb qb)(hs:nM b:=by intro _ _;rfl):QPE X K (.Subscript a b pos) (tOp FI ta tb) (qOp Ga qa qb):=⟨yb Hh ha.h hb.h hs,vO Fc ha.s hb.s⟩
def RA(qd qk qx:QE):QE:=fun q Q=>qd q fun d=>match d.dof with
 | some ks=>qk q fun u=>match u.key with
  | some k=>qx q fun x=>Q ((a7 ks k).getD x)
  | none=>False
 | none=>False
theorem KA{d f:Expr}{qd:QE}(hu:X.A.units+1<cLine)(hd:QPE X K d td qd)(hk:QPE X K e tk qk)(hx:QPE X K f tx qx)(m:M2 X d "get" apos e f bq:=by exact⟨rfl,rfl,rfl,rfl⟩):QPE X K (.Call (.Attribute d "get" apos) [e,f] [] bq) (EV td tk tx) (RA qd qk qx) :=
 ⟨Gz hu hd.h hk.h hx.h m,fun dl H σ q Q R rd hq k=>hd.s dl H σ q _ _ rd hq fun v t F H1 e1 r1 hq=>by
  split at hq
  ·rename_i ks eks;obtain⟨p,vs,G,rfl,h1,h2,sub⟩:=r1.r.dof eks;refine⟨p,rfl,.inl ⟨vs,h1⟩,hk.s dl H1 σ q _ _ (rd.evo e1) hq fun y u F2 H2 e2 r2 hq=>?_⟩
   split at hq
   ·rename_i k0 ek;refine hx.s dl H2 σ q _ _ ((rd.evo e1).evo e2) hq fun z w F3 H3 e3 r3 hq=>?_
    have rp:=(r1.evo e1.d e2).evo e2.d e3;obtain⟨p',vs',G',e',h1',h2',JP⟩:=rp.r.dof eks;cases e';rw[r2.r.key ek];refine⟨_,g9.rd h1',?_⟩;rcases h2'.look k0 with⟨z1,z2⟩ |⟨t,v,G2,z1,z2,z3,z4⟩
    ·rw[z2];rw[z1]at hq;exact k _ _ F3 H3 ((e1.trans e2).trans e3) r3 hq
    ·rw[z2];rw[z1]at hq;exact k _ _ G2 H3 ((e1.trans e2).trans e3) (Rp.sub z3 rp.n fun b hb=>JP b (z4 b hb)) hq
   ·exact hq.elim
  ·exact hq.elim⟩
def uY:List V->Hp->VK->Prop:=fun xs H Q=>∃(p:Addr)(kvs:List (Key×V)),xs = [.ref p]/\Rd H p (.dK kvs)/\∀ d,H d=none->Q (.ref d) (upd H d (.dK kvs))
theorem tR:cj X (.type "dict") uY:=by
 intro gV s σ H xs us Q I r h;obtain⟨p,kvs,rfl,hp,q⟩:=h;obtain⟨u,rfl,ru⟩:=vals1 r;cases ru;obtain⟨z,hsm,vs,kv,dd⟩:=kL I.hok hp;refine callType_codes (Q₁:=fun obj s₁=>obj = .ref s.heap.objs.size/\s₁ ={ s with heap:=s.heap.push { cls:=.type "dict",data:=.dict #[] } }) F.kt_called_dict (F.kt_typeCall_dict_1 _) F.entry_dict_init (kt_code_dict_new _ ⟨rfl,rfl⟩) ?_
 rintro obj s₁ ⟨rfl,rfl⟩
 have Ay:(s.heap.push { cls:=.type "dict",data:=.dict #[] }).DictOf (bp X.prog X.w) s.heap.objs.size []:=Heap.DictOf.new s.heap;have hlt:p<s.heap.objs.size:=by
  obtain⟨o,_,_,e,_⟩:=dd;exact Heap.lt_size e
 have dd':(s.heap.push { cls:=.type "dict",data:=.dict #[] }).DictOf (bp X.prog X.w) p vs:=by
  obtain⟨o,es,ep,e,r⟩:=dd;exact⟨o,es,ep,Heap.get?_push_of_some _ e,r⟩
 have nod:(vs.map (·.1)).Nodup:=by
  obtain⟨o,es,ep,_,_,_,_,_,n⟩:=dd;exact n
 have hkl:kvs.length=vs.length:=Paired.length kv;refine⟨Ay.typeIs,F.args_dict_init_2 _ _,?_⟩;unfold Builtin.«dict.__init__»;refine wpAny_bind ?_;unfold Builtin.Dict.selfAndRest;refine wpAny_bind (wpAny_notOrdered_dict Ay.typeIs ?_);show wpAny _ _ (pure (s.heap.objs.size,[Value.ref p])) _ _ _;refine wpAny_pure ?_;show wpAny _ _ (Builtin.Dict.updateFrom "dict.__init__" s.heap.objs.size (.ref p) [] .none) _ _ _;unfold Builtin.Dict.updateFrom;refine wpAny_bind (wpAny_typeOf dd'.typeIs ?_);rw[if_neg (by decide)]
 refine wpAny_bind ?_;unfold Builtin.Dict.merge;refine wpAny_bind ?_;unfold Builtin.Dict.readDirectly;refine wpAny_bind (wpAny_isInstance dd'.typeIs isSubtype_dict_dict ?_);simp only[Bool.not_true,Bool.false_eq_true,if_false];refine wpAny_bind (wpAny_specialOf dd'.typeIs F.slot_dict_iter.lookup (wpAny_pure ?_));simp only[beq_self_eq_true,if_true];refine wpAny_bind (wpAny_pure ?_);refine wpAny_mergeDict (hsz:=by simp only[List.length_nil];omega) (Nat.ne_of_gt hlt) hsm Ay dd' fun h' hd' ho' hs'=>?_
 show wpAny _ _ (Builtin.Dict.addKeywords _ [] >>= _) _ _ _;rw[merged_nil_of_nodup _ nod]at hd';refine wpAny_bind (wpAny_pure (wpAny_pure ⟨rfl,.ref s.heap.objs.size,_,I.laid (h':=h') (a:=s.heap.objs.size) (o:=.dK kvs) (fun b u e=>?_) (Nat.le_refl _) (wZ z ?_ kv hd'),rfl,q _ (I.hok.fresh (Nat.le_refl _))⟩))
 ·rw[hs'.2 b (Nat.ne_of_lt (Heap.lt_size e))];exact Heap.get?_push_of_some _ e
 ·have:=I.big
  exact beq_eq_false_iff_ne.mpr (Nat.ne_of_gt this)
def u0:QC:=fun ts Q=>match ts with
 | [t]=>match t.dof with
  | some ks=>T.imk ks=true/\Q (.d ks)
  | none=>False
 | _=>False
theorem vQ:t6 K uY u0:=by
 intro dl H vs ts F Q R D r hq k;unfold u0 at hq
 split at hq
 ·split at hq
  ·rename_i ks eks;obtain⟨v,rfl,r1⟩:=r.one;obtain⟨p,kvs,G,rfl,h1,h2,sub⟩:=r1.r.dof eks;obtain rfl:=h2.im hq.1;refine⟨p,kvs,rfl,h1,fun d hd=>?_⟩
   have ev:Evo dl H (upd H d (.dK kvs)):=(Evo.refl D).new hd;exact k _ _ [d] _ ev ⟨.d aj (h2.cN (ev.tf D) (fun _ z=>z) fun _ z=>nomatch z),fun b hb=>by rw[List.mem_singleton.mp hb];exact D.nd0 hd⟩ (fun b hb=>by rw[List.mem_singleton.mp hb];exact hd) (by simp) hq.2
  ·exact hq.elim
 ·exact hq.elim
def MC(te:TE):TE:=fun σ H Q=>te σ H fun v H1=>∃ a kvs,v = .ref a/\H1 a=some (.dK kvs)/\∀ o,Q v (upd H1 a (.frz o (.dK kvs)))
theorem K4(he:PE X e te):PE X e (MC te):=by
 intro gV s σ H Q I h;refine thn (he gV s σ H _ I h) fun u s' hPP=>?_
 obtain⟨v,H',I',r,a,kvs,e1,e2,q⟩:=hPP;obtain⟨_,o,I2⟩:=I'.freeze e2;exact⟨v,_,I2,r,q o⟩
theorem TF.SO{p:Addr}{kv:List (Key×V)}{o:Obj}{u:HO}(hp:H p=some (.dK kv)):TF H (upd H p (.frz o u)) :=
 have ne:∀{a:Addr}{o:HO},H a=some o ->(∀ kv,o ≠ .dK kv)->a≠p:=fun h n e=>by rw[e,hp]at h;exact n _ (Option.some.inj h).symm
 ⟨fun a vs h=>by rw[ai (ne h fun _ z=>nomatch z)];exact h,fun a o u h=>by rw[ai (ne h fun _ z=>nomatch z)];exact h,fun a φ h=>by rw[ai (ne h fun _ z=>nomatch z)];exact h,fun a xs h=>⟨xs,by rw[ai (ne h fun _ z=>nomatch z)];exact h⟩,fun a x h=>⟨x,Int.le_refl _,by rw[ai (ne h fun _ z=>nomatch z)];exact h⟩⟩
end
section
variable{X:Cx}{K:W.Frag}{t:TS}{qt:QS}
def Bi(i:Nat)(t:TS):TS:=fun D σ H=>∃ a kvs,σ[i]? = some (some (.ref a))/\H a=some (.dK kvs)/\∀ o,t D σ (upd H a (.frz o (.dK kvs)))
theorem Gj{i:Nat}(h:PS X st t):PS X st (Bi i t):=by
 intro gV s σ H D I z;obtain⟨a,kvs,_,ha,k⟩:=z;obtain⟨_,o,I1⟩:=I.freeze ha;exact h gV s σ _ D I1 (k o)
def xZ(i:Nat)(qt:QS):QS:=fun D q=>match q[i]? with
 | some (.o (.d ks))=>T.imk ks=true/\∀ o vs,qt D (q.set i (.o (.fd o vs ks)))
 | _=>False
theorem Rel.frz{dl:Dl}{H₀ H:Hp}{hs:List (V×T)}{σ:St}{q:Sq}{F:Nat->List Addr}{i:Nat}{a:Addr}{vs:List (Key×V)}{ks:List (Key×T)}{o:Obj}(r:Rel K dl H₀ hs H σ q F)(ei:q[i]? = some (.o (.d ks)))(hv:σ[i]? = some (some (.ref a)))(eF:F i = [a])(rp:Rp K dl H (.ref a) (.d ks) (F i))(h1:H a=some (.dK vs))(h2:aR K dl H vs ks []):dR K dl H₀ hs (upd H a (.frz o (.dK vs))) σ (q.set i (.o (.fd o vs ks))):=by
 refine⟨xM F i [],?_⟩;have tf:=TF.SO (o:=o) (u:=.dK vs) h1;have na:Nd dl a:=rp.n a (by rw[eF];exact List.mem_cons_self)
 obtain⟨o1,o2,o3⟩:=r.o i _ ei;have st:∀{w:V}{u:T}{Fw:List Addr},Rp K dl H w u Fw->a ∉ Fw->Rp K dl (upd H a (.frz o (.dK vs))) w u Fw:=fun{w u Fw} h np =>
  ⟨h.r.cN tf (fun _ z=>z) fun b hb ob e=>(by
   have n0:b≠a:=fun z=>np (by rw[<- z];exact hb)
   rw[ai n0];exact e),h.n⟩
 refine⟨fun d hd=>(r.d d hd).oth (na d hd).1 (na d hd).2,fun j x u h3 h4=>?_,fun j x h3 h4=>?_,fun j hj=>?_,fun j u h3=>?_,fun p hp=>?_,⟨fun b ob hb nb nr=>?_,fun b x hb=>?_⟩,by simp[r.l]⟩
 ·rcases get_set h3 with⟨rfl,rfl,_⟩ |⟨ne,h3⟩
  ·cases h4;exact⟨_,hv,by rw[aX];exact⟨.fd aj (h2.cN tf (fun _ z=>z) fun _ z=>nomatch z),fun _ z=>nomatch z⟩⟩
  ·obtain⟨w,h5,h6⟩:=r.g j x u h3 h4;exact⟨w,h5,by rw[aP ne];exact st h6 (o3 j ne a (by rw[eF];exact List.mem_cons_self))⟩
 ·rcases get_set h3 with⟨rfl,rfl,_⟩ |⟨ne,h3⟩
  ·cases h4
  ·rw[aP ne];exact r.n j x h3 h4
 ·rw[List.length_set]at hj;by_cases e:j=i
  ·rw[e,aX]
  ·rw[aP e];exact r.z j hj
 ·rcases get_set h3 with⟨rfl,e,_⟩ |⟨ne,h3⟩
  ·rw[aX];exact⟨List.nodup_nil,fun _ z=>absurd z List.not_mem_nil,fun _ _ _ z=>absurd z List.not_mem_nil⟩
  ·rw[aP ne];obtain⟨p1,p2,p3⟩:=r.o j u h3;refine⟨p1,p2,fun k hk b hb=>?_⟩
   by_cases ek:k=i
   ·rw[ek,aX];exact List.not_mem_nil
   ·rw[aP ek];exact p3 k hk b hb
 ·obtain⟨Fp,h3,h4⟩:=r.h p hp;refine⟨Fp,st h3 (h4 i _ ei a (by rw[eF];exact List.mem_cons_self)),fun j u hj b hb z=>?_⟩
  rcases get_set hj with⟨rfl,e,_⟩ |⟨ne,hj⟩
  ·rw[aX]at hb;cases hb
  ·rw[aP ne]at hb;exact h4 j u hj b hb z
 ·have n0:b≠a:=fun z=>by rw[z,o2 a (by rw[eF];exact List.mem_cons_self)]at hb;cases hb
  rw[ai n0];exact r.f.k b ob hb nb nr
 ·have n0:b≠a:=fun z=>by rw[z,o2 a (by rw[eF];exact List.mem_cons_self)]at hb;cases hb
  rw[ai n0];exact r.f.r b x hb
theorem Ff{i:Nat}(h:nJ K t qt):nJ K (Bi i t) (xZ i qt):=fun dl H₀ hs H σ q Dq D ⟨F,r⟩ hq E=>by
 unfold xZ at hq
 split at hq
 ·rename_i ks ei;obtain⟨v,hv,rp⟩:=r.g i _ _ ei rfl;obtain⟨a,vs,G,rfl,eF,h1,h2⟩:=rp.r.dic;obtain rfl:=h2.im hq.1;exact⟨a,vs,hv,h1,fun o=>h dl H₀ hs _ σ _ Dq D (r.frz ei hv eF rp h1 h2) (hq.2 o vs) E⟩
 ·exact hq.elim
theorem FQ{i:Nat}(h:QPS X K st t qt):QPS X K st (Bi i t) (xZ i qt):=⟨Gj h.h,Ff h.s⟩
end
section
variable{X:Cx}{σ:St}{s:Shared}{u1 u2 v1 v2:HO}{fs:List (Str×V)}
theorem Inv.Fy(I:Inv X gV σ H s)(ne:d≠a)(ha:H a=some v1)(hd:H d=some v2)(t1:∀ xs,v1 ≠ .tup xs)(t2:∀ xs,v2 ≠ .tup xs)(b1:∀ ps,v1 ≠ .tbl ps)(b2:∀ ps,v2 ≠ .tbl ps)(z1:∀ o v,v1 ≠ .frz o v)(z2:∀ o v,v2 ≠ .frz o v)(w1:∀ c,v1 ≠ .own c)(w2:∀ c,v2 = .own c->c=a)
  (Vd:aW X.prog X.w (upd (upd H a u1) d u2) s.heap a u1) (Vc:aW X.prog X.w (upd (upd H a u1) d u2) s.heap d u2):Inv X gV σ (upd (upd H a u1) d u2) s:=by
 have nea:∀{b:Addr}{o:HO},H b=some o->o≠v1->b≠a:=fun e n z=>by rw[z,ha]at e;exact n (Option.some.inj e).symm
 have ned:∀{b:Addr}{o:HO},H b=some o->o≠v2->b≠d:=fun e n z=>by rw[z,hd]at e;exact n (Option.some.inj e).symm
 have n0:∀{b:Addr},H b=none->b≠a/\b≠d:=fun{b} e=>⟨fun z=>(by rw[z,ha]at e;cases e),fun z=>(by rw[z,hd]at e;cases e)⟩
 have st:∀{b:Addr},b≠a->b≠d->upd (upd H a u1) d u2 b=H b:=fun h1 h2=>by rw[ai h2,ai h1]
 refine⟨I.ok,I.os,I.bare,⟨I.base.keep,I.base.slot,fun b o e n hx=>?_,I.base.there,fun b xs e=>?_,fun b o v e=>?_,fun b ps e=>?_⟩,I.loc,I.cell,?_,fun x c e=>?_,fun p hp=>?_,fun b o e=>?_,I.len⟩
 ·have:=I.base.free b o e n hx
  rw[st (n0 this).1 (n0 this).2];exact this
 ·have:=I.base.mD b xs e
  rw[st (nea this fun z=>t1 _ z.symm) (ned this fun z=>t2 _ z.symm)]
  exact this
 ·have:=I.base.jP b o v e
  rw[st (nea this fun z=>z1 _ _ z.symm) (ned this fun z=>z2 _ _ z.symm)]
  exact this
 ·obtain⟨more,this⟩:=I.base.mE b ps e;refine⟨more,?_⟩;rw[st (nea this fun z=>b1 _ z.symm) (ned this fun z=>b2 _ z.symm)]
  exact this
 ·rw[st (n0 I.free).1 (n0 I.free).2];exact I.free
 ·rw[st (n0 (I.cV x c e)).1 (n0 (I.cV x c e)).2];exact I.cV x c e
 ·obtain⟨p1,p2,p3⟩:=I.pin p hp;exact⟨p1,by rw[st (n0 p2).1 (n0 p2).2];exact p2,p3⟩
 ·by_cases hbd:b=d
  ·subst hbd;rw[aj]at e;cases e;exact Vc
  ·by_cases hba:b=a
   ·subst hba;rw[ai hbd,aj]at e;cases e;exact Vd
   ·rw[st hba hbd]at e;refine(I.hok b o e).cN (fun _ _ _ q=>q) (fun c q=>?_) fun c xs q=>?_
    ·rw[st (nea q fun z=>w1 _ z.symm) (fun z=>by rw[z,hd]at q;exact hba (w2 b (Option.some.inj q)))];exact q
    ·rw[st (nea q fun z=>t1 _ z.symm) (ned q fun z=>t2 _ z.symm)];exact q
theorem Inv.QQ(I:Inv X gV σ H s)(ha:H a=some (.ins C d fs)):d≠a/\fs.length<=1000/\H d=some (.own a)/\Inv X gV σ (upd (upd H a (.ext (uP a C d))) d (.ext (XD d fs))) s:=by
 obtain⟨hd,hl,ne,e,mA,n,r,w⟩:=(show aW X.prog X.w H s.heap a (.ins C d fs)from I.hok a _ ha);exact⟨ne,hl,hd,I.Fy ne ha hd (fun _ z=>nomatch z) (fun _ z=>nomatch z) (fun _ z=>nomatch z) (fun _ z=>nomatch z) (fun _ _ z=>nomatch z) (fun _ _ z=>nomatch z) (fun _ z=>nomatch z) (fun c z=>by cases z;rfl)
  ⟨e,⟨_,e⟩,fun h1 h2 p k=>k _ p⟩ (XD.ok ⟨mA,n,r,w⟩)⟩
theorem Inv.U5(I:Inv X gV σ H s)(ne:d≠a)(hl:fs.length<=1000)(ha:H a=some (.ext (uP a C d)))(hd:H d=some (.ext (XD d fs))):Inv X gV σ (upd (upd H a (.ins C d fs)) d (.own a)) s:=by
 have e:uP a C d s.heap:=(I.hok a _ ha).1;obtain⟨mA,n,r,w⟩:XD d fs s.heap:=(I.hok d _ hd).1;refine I.Fy ne ha hd (fun _ z=>nomatch z) (fun _ z=>nomatch z) (fun _ z=>nomatch z) (fun _ z=>nomatch z) (fun _ _ z=>nomatch z) (fun _ _ z=>nomatch z) (fun _ z=>nomatch z) (fun c z=>nomatch z) ⟨aj,hl,ne,e,mA,n,r,w⟩ ?_
 obtain⟨o,_,_,e',_⟩:=n;exact⟨o,e'⟩
end
variable{prs:List Str}
section
variable{X:Cx}{K:W.Frag}{e:Expr}{es:List Expr}{te:TE}{qe:QE}{tl:TA}{ql:QA}{pos p:Pos}{f:Str}
def MD(K:W.Frag)(ta:TE)(f:Str):TE:=fun σ H Q=>ta σ H fun x H1=>∃ a C fs v,x = .ref a/\ObH H1 a C fs/\fs.length<=1000/\Cls K C/\gq K C f/\fs.lookup f=some v/\Q v H1
theorem K6(he:PE X e te)(hb:attributeBase e f X.env (eval e X.env)=eval e X.env):PE X (.Attribute e f pos) (MD X.K te f):=by
 intro gV s σ H Q I h;refine CK hb (thn (he gV s σ H _ I h) fun u s1 ⟨x,H1,I1,rx,a,C,fs,v,ex,⟨dx,ne,h1,h2⟩,hl,c,n,l,q⟩=>?_)
 subst ex;obtain rfl:u=Value.ref a:=rx;refine Az (I1.U5 ne hl h1 h2) (C:=C) (dx:=dx) (fs:=fs) (by rw[ai ne.symm,aj]) c n l fun u' s2 I2 ru=>⟨v,H1,?_,ru,q⟩
 obtain⟨_,_,_,I3⟩:=I2.QQ (a:=a) (C:=C) (d:=dx) (fs:=fs) (by rw[ai ne.symm,aj])
 have e:upd (upd (upd (upd H1 a (.ins C dx fs)) dx (.own a)) a (.ext (uP a C dx))) dx (.ext (XD dx fs))=H1:=by
  funext b
  by_cases hbd:b=dx
  ·rw[hbd,aj,h2]
  ·by_cases hba:b=a
   ·rw[ai hbd,hba,aj,h1]
   ·rw[ai hbd,ai hba,ai hbd,ai hba]
 rw[e]at I3;exact I3
def RC(C:Addr)(f:Str)(qe:QE):QE:=fun q Q=>qe q fun t=>match t with
 | .ob C' ns ts=>C'=C/\ns.length<=1000/\∃ x,(ns.zip ts).lookup f=some x/\Q x
 | _=>False
theorem mT(hc:Cls K C)(hn:gq K C f)(he:QPE X K e te qe)(hb:attributeBase e f X.env (eval e X.env)=eval e X.env:=by rfl)(hK:X.K=K:=by rfl):QPE X K (.Attribute e f pos) (MD K te f) (RC C f qe):=⟨by subst hK;exact K6 he.h hb,fun dl H σ q Q R rd hq k=>he.s dl H σ q _ _ rd hq fun v t F H1 e1 r1 hz=>by
 split at hz
 ·obtain⟨rfl,hl,x,hx,hz⟩:=hz;obtain⟨a,vs,rfl,rfl,ho,rs⟩:=r1.r.obj;obtain⟨w,G,e2,r2,s2⟩:=rs.lookup hx;refine⟨a,_,_,w,rfl,ho,?_,hc,hn,e2,k _ _ G H1 e1 ⟨r2,fun b hb=>nomatch s2 b hb⟩ hz⟩
  rw[List.length_zip];exact Nat.le_trans (Nat.min_le_left _ _) hl
 ·exact hz.elim⟩
def zf(C:Addr)(ns:List Str):Sp:=fun vs H Q _=>∃ x dx args,vs = .ref x::args/\args.length=ns.length/\H x=some (.ins C dx [])/\Q .non (upd H x (.ins C dx (ns.zip args)))
def ES(C:Addr)(ns:List Str)(t:TA):TE:=fun σ H Q=>t σ H fun vs H1=>vs.length=ns.length/\∀ x dx,H1 x=none->H1 dx=none->dx≠x->Q (.ref x) (upd (upd H1 x (.ext (uP x C dx))) dx (.ext (XD dx (ns.zip vs))))
theorem Gw{g:Addr}{k:Nat}(M:Mk X.K C g)(G:aU X.prog X.w X.K X.mg X.base CX0 k g fd prs (zf C ns))(hr:cb (k+1) X.A)(hg:Gl X x)(hm:X.mg x=some (.ref C))(hb:Binds X.K fd prs [])(ha:PA X (e::es) tl)
  (hdb:(x ==("__debug__":Str))=false:=by decide) (he:starEach (e::es) X.env =(false,eval e X.env)::starEach es X.env:=by rfl) (hpl:(backTo pos (starEach es X.env)).any (·.1)=false:=by rfl) :
  PE X (.Call (.Name x p) (e::es) [] pos) (ES C ns tl):=by
 intro gV s σ H Q I h;refine wpAny_Call_Name_kw (kj I hg hm ?_ hdb);refine W.callWith_K (h₀:=X.base) I.ok.mod.kin M.kp (thn (ha pos gV s σ H _ I h) fun us s1 ⟨vs,H1,I1,r,q⟩=>⟨I1.kIn,?_⟩) he hpl
 refine thn (Fv (Q:=fun v H2=>∃ a dx fs,v = .ref a/\H2 a=some (.ins C dx fs)/\Q v (upd (upd H2 a (.ext (uP a C dx))) dx (.ext (XD dx fs)))) M G hr hb .nil BQ I1 r fun x dx hx hd ne=>⟨x,dx,vs,by simp,q.1,aj,rfl,x,dx,ns.zip vs,rfl,aj,?_⟩) fun u s' ⟨v,H',I',rv,a,dx,fs,e1,e2,qq⟩=>?_
 ·have e:upd (upd (upd (upd (upd H1 dx (.own x)) x (.ins C dx [])) x (.ins C dx (ns.zip vs))) x (.ext (uP x C dx))) dx (.ext (XD dx (ns.zip vs)))=upd (upd H1 x (.ext (uP x C dx))) dx (.ext (XD dx (ns.zip vs))):=by
   funext b
   by_cases hbd:b=dx
   ·rw[hbd,aj,aj]
   ·by_cases hba:b=x
    ·rw[ai hbd,ai hbd,hba,aj,aj]
    ·rw[ai hbd,ai hba,ai hba,ai hba,ai hbd,ai hbd,ai hba]
  rw[e];exact q.2 x dx hx hd ne
 ·obtain⟨_,_,_,I2⟩:=I'.QQ e2;exact⟨v,_,I2,rv,qq⟩
end
variable{tg:Expr}{e:Expr}{g:Tg}{p:Pos}{b:Expr}{tl:TA}{ql:QA}
section
variable{X:Cx}{K:W.Frag}
def FE(K:W.Frag):R2:=fun x y H Q=>∃ p q vs,x = .ref p/\y = .ref q/\SqL K H p vs/\SqL K H q []/\Q (.bl (!vs.isEmpty)) H
theorem sD(hu:X.A.units+1<cLine)(hK:X.K=K):OpR X (compareOp .NotEq) (FE K):=by
 subst hK;intro gV s σ H x y v u Q I rx ry h;obtain⟨p,q,vs,rfl,rfl,h1,h2,k⟩:=h;cases rx;cases ry;obtain⟨its,r1,p1,_⟩:=I.list h1;obtain⟨cc,r2,p2,_⟩:=I.list h2;have l1:=r1.length;have l2:=r2.length;have e2:cc.length=0:=l2.symm;by_cases hl:its.length=cc.length
 ·refine SeqAt.RcNeAt.lists (e:=fun _=>true) p1.isList p2.isList (by simpa using hl) (by omega) (fun j g1 g2=>?_) X.prog X.w X.xe _ ⟨.bl _,H,I,rfl,?_⟩
  ·obtain⟨a,ea,ra⟩:=r2.at' g2;simp at ea
  ·have e:vs = []:=List.length_eq_zero_iff.mp (by omega)
   subst e;have e3:its.toArray.size=0:=by simp;exact List.length_eq_zero_iff.mp (by omega)
   rw[e3];exact k
 ·refine SeqAt.RcNeAt.lists_lengths p1.isList p2.isList (by simpa using hl) (by omega) X.prog X.w X.xe _ ⟨.bl _,H,I,rfl,?_⟩
  cases vs with
  | nil=>exact absurd l1.symm (by rw[<- l2]at hl;exact hl)
  | cons _ _=>exact k
def F7:Q2:=fun t u Q=>match t,u with
 | .l xs,.l []=>Q (.b (!xs.isEmpty))
 | _,_=>False
theorem oy:cL K (FE K) F7:=by
 intro dl H x y t u F G Q R D r1 r2 hq k;unfold F7 at hq
 split at hq
 ·rename_i xs;obtain⟨p,vs,G1,rfl,rfl,h1,h2⟩:=r1.r.lst;obtain⟨p',vs',G2,rfl,rfl,h3,h4⟩:=r2.r.lst;cases h4;refine⟨p,p',vs,rfl,rfl,SqL.of h1,SqL.of h3,k _ _ [] H (.refl D) (.c (.b _)) (fun _ z=>nomatch z) List.nodup_nil ?_⟩
  have e:vs.isEmpty=xs.isEmpty:=by
   have:=h2.len
   cases vs <;> cases xs <;> simp at this ⊢
  rw[e];exact hq
 ·exact hq.elim
theorem RM{w1 w2:TI}(h1:PI X tg e w1)(h2:PI X tg e w2):PI X tg e (fun σ H R=>w1 σ H R\/w2 σ H R):=by
 intro gV s σ H R I h;rcases h with h|h
 ·exact h1 gV s σ H R I h
 ·exact h2 gV s σ H R I h
def asP(i:Nat):QJ:=fun q Q=>match q[i]? with
 | some (.r (.l xs))=>Q xs q
 | some (.r (.t xs))=>Q xs q
 | _=>False
theorem Oc{i:Nat}(h:PE X e (b7 i))(hK:X.K=K:=by rfl):QPJ X K tg e (fun σ H R=>Cg K (b7 i) σ H R\/Hn K (b7 i) σ H R) (asP i):=⟨RM (x8 hK h) (wk hK h),fun dl H₀ hs H σ q Q R ⟨F0,r0⟩ hq k=>by
 have hold:∀{t:T}{v:V},q[i]? = some (.r t)->Rp K dl H v t (F0 i)->Rel K dl H₀ ((v,t)::hs) H σ q F0:=fun{t v} e r=>r0.hold r fun j u hj b hb=>by
  have ne:i≠j:=fun z=>by rw[z,hj]at e;cases e
  exact(r0.o j u hj).2.2 i ne b hb
 unfold asP at hq
 split at hq
 ·rename_i xs e1;obtain⟨v,hv,r⟩:=r0.g i _ _ e1 rfl;have r1:=hold e1 r;obtain⟨p,vs,G,rfl,_,h1,h2⟩:=r.r.lst;exact .inl ⟨_,hv,p,rfl,⟨vs,SqL.of h1⟩,k _ _ _ H q ⟨F0,r1⟩ B8 hq⟩
 ·rename_i xs e1;obtain⟨v,hv,r⟩:=r0.g i _ _ e1 rfl;have r1:=hold e1 r;obtain⟨p,vs,rfl,h1,h2⟩:=r.r.tup;exact .inr ⟨_,hv,p,rfl,⟨vs,SqT.of h1⟩,k _ _ _ H q ⟨F0,r1⟩ As hq⟩
 ·exact hq.elim⟩
def FW(g:Tg)(i:Nat):QS:=fun D q=>match q[i]? with
 | some (.r t)=>∃ q',g.put t q=some q'/\D.nx q'
 | _=>False
theorem E4{i:Nat}:nJ K (jd (b7 i) (g.h K)) (FW g i):=fun dl H₀ hs H σ q Dq D ⟨F,r⟩ hq E=>by
 unfold FW at hq
 split at hq
 ·rename_i t ei;obtain⟨q',hq',hz⟩:=hq;obtain⟨v,hv,rp⟩:=r.g i _ _ ei rfl;exact⟨v,hv,vX r rp (fun j u hj b hb=>(r.o j u hj).2.2 i (fun z=>by rw[z,hj]at ei;cases ei) b hb) hq' fun σ' r'=>E.nx _ _ _ r' hz⟩
 ·exact hq.elim
theorem vZ{i:Nat}{pos:Pos}(he:PE X e (b7 i))(hg:PG X tg (g.h K))(hs:swapsWithSole [tg] e pos.line X.env=pure false:=by rfl)(hw:swappedStores [tg] e X.env=pure none:=by rfl)
  (h1:(assignEach [tg] X.env).map (·.2) = [assign tg X.env]:=by rfl):QPS X K (.Assign [tg] e pos) (jd (b7 i) (g.h K)) (FW g i):=⟨wg he hg hs hw h1,E4⟩
theorem yn{xs:List T}:yO K dl (Ite K false a) (jQ xs) [(.ref a,.l xs)] where
 go:=fun H i D h hi=>by
  obtain⟨F,r⟩:=h (.ref a,.l xs) (by simp)
  obtain⟨p,vs,G,e,_,h1,h2⟩:=r.r.lst;cases e;rw[cn]at hi;have l1:i<vs.length:=by rw[h2.len];omega
  exact⟨vs,vs[i],SqL.of h1,by simp[l1]⟩
 yld:=fun H i x fp v H' D h hx y=>by
  have r:=h (.ref a,.l xs) (by simp)
  obtain⟨p,vs,G,e,eF,h1,h2⟩:=r.r.lst;cases e;obtain⟨x1,hx1,rfl⟩:=gQ hx;obtain⟨w1,G1,hw1,rw1,hs1⟩:=h2.get hx1;obtain⟨q,u1,hq,rfl,rfl,y1'⟩:=y;have e1:=y1' vs (SqL.of h1);rw[hw1]at e1;cases e1;have sub:∀ b∈G1,b∈fp (.ref a,.l xs):=fun b hb=>by rw[eF];exact List.mem_cons_of_mem _ (hs1 b hb)
  have rs:Rps K dl H [.int (i:Nat),w1] [.i (i:Nat),x1] ([]++(G1 ++ [])):=Rps.cons ⟨.i _,fun _ z=>nomatch z⟩ (Rps.cons ⟨rw1,fun b hb=>r.n b (sub b hb)⟩ ⟨.nil,fun _ z=>nomatch z⟩)
  refine⟨(Evo.refl D).new hq,_,rs.tup D hq,fun c hb=>.inr ?_⟩
  rw[List.append_nil]at hb;exact⟨_,by simp,sub c hb⟩
 stop:=fun H D h=>by
  obtain⟨F,r⟩:=h (.ref a,.l xs) (by simp)
  obtain⟨p,vs,G,e,_,h1,h2⟩:=r.r.lst;cases e;exact⟨vs,SqL.of h1,by rw[cn,h2.len];exact Nat.le_refl _⟩
def Nt(i:Nat):QJ:=fun q Q=>match q[i]? with
 | some (.o (.l xs))=>Q (jQ xs) (q.set i (.r (.l xs)))
 | some (.r (.l xs))=>Q (jQ xs) q
 | _=>False
theorem FT{a:Expr}{x1}{pos:Pos}{i:Nat}(hg:Gl X "enumerate")(hm:X.mg "enumerate" = none)(d6:bootBuiltins "enumerate" = some (.type "enumerate"))(h:PE X a (b7 i))(hs:starEach [a] X.env = [(false,eval a X.env)]:=by rfl)(hs':starEach [a] X.env =(false,eval a X.env)::starEach [] X.env:=by rfl)(hK:X.K=K:=by rfl) :
  QPJ X K (.Tuple elts x1 pos') (.Call (.Name "enumerate" p) [a] [] pos) (yr K false (cu (b7 i) kz)) (Nt i):=⟨si hK hg hm d6 (bw h eB hs') hs,fun dl H₀ hs H σ q Q R ⟨F0,r0⟩ hq k=>by
 unfold Nt at hq
 split at hq
 ·rename_i xs e1;obtain⟨v,hv,r⟩:=r0.g i _ _ e1 rfl;obtain⟨o1,o2,o3⟩:=r0.o i _ e1;have r1:=(r0.down e1).hold r fun j u hj b hb=>by
   rcases get_set hj with⟨_,z,_⟩ |⟨ne,hj⟩
   ·cases z
   ·exact(r0.o j u hj).2.2 i (fun z=>ne z.symm) b hb
  obtain⟨p,vs,G,rfl,_,h1,h2⟩:=r.r.lst;exact⟨_,hv,p,rfl,⟨vs,SqL.of h1⟩,k _ _ _ H _ ⟨F0,r1⟩ yn hq⟩
 ·rename_i xs e1;obtain⟨v,hv,r⟩:=r0.g i _ _ e1 rfl;have r1:=r0.hold r fun j u hj b hb=>(r0.o j u hj).2.2 i (fun z=>by subst z;rw[e1]at hj;cases hj) b hb
  obtain⟨p,vs,G,rfl,_,h1,h2⟩:=r.r.lst;exact⟨_,hv,p,rfl,⟨vs,SqL.of h1⟩,k _ _ _ H _ ⟨F0,r1⟩ yn hq⟩
 ·exact hq.elim⟩
def VO(ql:QA):QJ:=fun q Q=>ql q fun ts=>match ts with | [.t xs,.t ys]=>T.ims xs=true/\T.ims ys=true/\Q (vH xs ys) q | _=>False
theorem FR{a:Expr}{pos:Pos}{x1}(hg:Gl X "zip")(hm:X.mg "zip" = none)(d6:bootBuiltins "zip" = some (.type "zip"))(ha:QPA X K [a,b] tl ql)(hs:starEach [a,b] X.env = [(false,eval a X.env),(false,eval b X.env)]:=by rfl)(hs2:starEach [b] X.env = [(false,eval b X.env)]:=by rfl)(hK:X.K=K:=by rfl) :
  QPJ X K (.Tuple elts x1 pos') (.Call (.Name "zip" p) [a,b] [] pos) (LI K true true tl) (VO ql):=⟨BM hK hg hm d6 ha.h hs hs2,fun dl H₀ hs H σ q Q R ⟨F0,r0⟩ hq k=>ha.s dl H σ q _ _ r0.rd hq fun vs ts F H' e1 r _ hz=>by
 split at hz
 ·obtain⟨i1,i2,hz⟩:=hz;obtain⟨v,w,F1,F2,rfl,r1,r2⟩:=r.two;obtain rfl:=r1.r.im (t:=.t _) i1;obtain rfl:=r2.r.im (t:=.t _) i2;have q1:=((r0.evo e1).hold r2 fun j u hj b hb z=>nomatch z).hold r1 fun j u hj b hb z=>nomatch z
  obtain⟨l1,vs1,rfl,h1,h2⟩:=r1.r.tup;obtain⟨l2,vs2,rfl,h3,h4⟩:=r2.r.tup;exact⟨l1,l2,rfl,⟨vs1,SqT.of h1⟩,⟨vs2,SqT.of h3⟩,k _ _ _ H' q ⟨F0,q1⟩ Hi hz⟩
 ·exact hz.elim⟩
theorem La:OpR X (compareOp .IsNot) (fun x y H Q=>∃ c d,x = .bl c/\y = .bl d/\Q (.bl (c != d)) H):=by
 intro gV s σ H x y v u Q I rx ry h;obtain⟨c,d,rfl,rfl,q⟩:=h;cases rx;cases ry;exact isnot_bool ⟨.bl _,H,I,rfl,q⟩
def ML:Q2:=fun t u Q=>match t,u with
 | .b c,.b d=>Q (.b (c != d))
 | _,_=>False
theorem E9:cL K (fun x y H Q=>∃ c d,x = .bl c/\y = .bl d/\Q (.bl (c != d)) H) ML:=by
 intro dl H x y t u F G Q R D r1 r2 hq k;unfold ML at hq
 split at hq
 ·obtain⟨rfl,rfl⟩:=r1.r.bl;obtain⟨rfl,rfl⟩:=r2.r.bl;exact⟨_,_,rfl,rfl,k _ _ [] H (.refl D) (.c (.b _)) (fun _ z=>nomatch z) List.nodup_nil hq⟩
 ·exact hq.elim
end
variable{iter:Expr}
section
variable{X:Cx}{K:W.Frag}{c:Expr}{es:List Expr}{pos:Pos}{te:TE}{qe:QE}{tx:(St->XK)->TE}{qx:QX}{tc:TT}{qc:QT}{ts:(St->XK)->TS}{qs:QSX}
theorem XOk.holds{hs hv:List (V×T)}{W:Sq->QW}{Es:St->XK}(x:XOk K dl H₀ hs W Es):XOk K dl H₀ (hv++hs) W Es:=fun H σ q a C ns us ⟨F,r⟩ rp hw=>x H σ q a C ns us ⟨F,r.mB⟩ rp hw
theorem ip{wi:TI}{iq:QJ}(hp:PassesOwn (model X.prog X.w) X.A X.env X.xe)(hc:X.calm=true)(hi:QPJ X K tg iter wi iq)(hg:PG X tg (g.h K))(hb:kO X K body ts qs)
  (hs:∀ x,foldedSetIterable iter X.env x=pure x:=by intro _;rfl):t8 X K (.For tg iter body [] pos) (fun Es=>NM wi (g.h K) (ts Es)) (fun W=>RB iq g (qs W)):=⟨fun Es a b=>zB hp hc hi.h hg (hb.h Es a b) hs,fun dl H₀ hs H σ q Dq D W Es r hq E x=>by
 refine hi.s dl H₀ hs H σ q _ _ r hq fun xs J hv H1 q1 r1 it hz=>?_
 obtain⟨I,i0,turn,fin⟩:=hz;refine⟨fun i m σ H=>m=xs.length - i/\i<=xs.length/\∃ q,dR K dl H₀ (hv++hs) H σ q/\I i q,⟨xs.length,by simp,Nat.zero_le _,q1,r1,i0⟩,?_⟩
 rintro i m σ H ⟨rfl,hi',q,⟨F,r⟩,hI⟩
 have held:∀ p∈hv,∃ F,Rp K dl H p.1 p.2 F:=fun p hp=>let⟨Fp,h,_⟩:=r.h p (List.mem_append_left _ hp);⟨Fp,h⟩
 by_cases hlt:i<xs.length
 ·refine .inr ⟨it.go H i r.d held hlt,fun σ' H'=>∃ q,dR K dl H₀ (hv++hs) H' σ' q/\I (i+1) q,fun σ' H' h=>⟨xs.length - (i+1),by omega,rfl,hlt,h⟩,fun v H' y=>?_⟩
  obtain⟨fp,hfp⟩:=r.fps;have hx:xs[i]? = some xs[i]:=by simp[hlt]
  obtain⟨e1,G,rx,hG⟩:=it.yld H i xs[i] fp v H' r.d (fun p hp=>(hfp p hp).1) hx y
  obtain⟨q',hq',hz⟩:=turn i xs[i] q hx hI;refine vX (r.evo e1) rx (fun j u hj b hb z=>?_) hq' fun σ2 r2=>hb.s dl H₀ (hv++hs) H' σ2 q' _ _ W Es r2 hz ⟨fun H σ q r n=>⟨q,r,n⟩,fun H σ q ⟨F,r⟩ n=>E.nx H σ q ⟨F,r.mB⟩ n,fun H σ q r n=>⟨q,r,n⟩,E.rt⟩ x.holds
  rcases hG b z with h |⟨p,hp,h⟩
  ·exact(r.lG hb).no h
  ·exact(hfp p hp).2 j u hj b hb h
 ·have e:i=xs.length:=by omega
  subst e;exact .inl ⟨it.stop H r.d held,E.nx H σ q ⟨F,r.mB⟩ (fin q hI)⟩⟩
theorem Kr{i:Nat}(h:t8 X K st ts qs):t8 X K st (fun Es=>Bi i (ts Es)) (fun W=>xZ i (qs W)):=⟨fun Es a b=>Gj (h.h Es a b),fun dl H₀ hs H σ q Dq D W Es ⟨F,r⟩ hq E x=>by
 unfold xZ at hq
 split at hq
 ·rename_i ks ei;obtain⟨v,hv,rp⟩:=r.g i _ _ ei rfl;obtain⟨a,vs,G,rfl,eF,h1,h2⟩:=rp.r.dic;obtain rfl:=h2.im hq.1;exact⟨a,vs,hv,h1,fun o=>h.s dl H₀ hs _ σ _ Dq D W Es (r.frz ei hv eF rp h1 h2) (hq.2 o vs) E x⟩
 ·exact hq.elim⟩
abbrev QAX:=Sq ->(List T->Prop)->QW->Prop
def Tj(K:PySem.W.Frag)(n:Nat)(te:(St->XK)->TA)(qx:QAX):Prop:=∀(dl:Dl)(H:Hp)(σ:St)(q:Sq)(Q:List T->Prop)(W:QW)(R:List V->Hp->Prop)(Es:St->XK),RdR K dl H σ q->qx q Q W ->
 (∀ vs ts F H',Evo dl H H'->Rps K dl H' vs ts F->vs.length=n->Q ts->R vs H') ->(∀ a C ns us H',Evo dl H H'->Rp K dl H' (.ref a) (.xc C ns us) []->W C ns us->Es σ (.ref C) (some a) H')->te Es σ H R
structure Ep(X:Cx)(K:W.Frag)(es:List Expr)(te:(St->XK)->TA)(qx:QAX):Prop where
 h:∀ Es,iW (CX1 X.prog X.w) X Es->PA X es (te Es)
 s:Tj K es.length te qx
variable{ta:(St->XK)->TA}{qa:QAX}
theorem Oh(h:QPA X K es tl ql):Ep X K es (fun _=>tl) (fun q Q _=>ql q Q):=⟨fun _ _=>h.h,fun dl H σ q Q _ R _ rd hq k _=>h.s dl H σ q Q R rd hq k⟩
theorem xY(he:QPX X K e tx qx)(hr:Ep X K es ta qa)(hs:starEach (e::es) X.env =(false,eval e X.env)::starEach es X.env:=by rfl):Ep X K (e::es) (fun Es=>cu (tx Es) (ta Es)) (fun q Q W=>qx q (fun t=>qa q (fun ts=>Q (t::ts)) W) W) :=
 ⟨fun Es a=>bw (he.h Es a) (hr.h Es a) hs,fun dl H σ q Q W R Es rd hq k kx=>he.s dl H σ q _ _ _ Es rd hq (fun v t F H1 e1 r1 _ _ hz=>hr.s dl H1 σ q _ _ _ Es (rd.evo e1) hz (fun vs ts G H2 e2 r2 l2 z=>k _ _ _ H2 (e1.trans e2) (.cons (r1.evo e1.d e2) r2) (by simp[l2]) z) fun a C ns us H' e2 r2 hw=>kx a C ns us H' (e1.trans e2) r2 hw) kx⟩
theorem Dk(he:QPE X K e te qe)(hr:Ep X K es ta qa)(hs:starEach (e::es) X.env =(false,eval e X.env)::starEach es X.env:=by rfl):Ep X K (e::es) (fun Es=>cu te (ta Es)) (fun q Q W=>qe q fun t=>qa q (fun ts=>Q (t::ts)) W) :=
 ⟨fun Es a=>bw he.h (hr.h Es a) hs,fun dl H σ q Q W R Es rd hq k kx=>he.s dl H σ q _ _ rd hq fun v t F H1 e1 r1 hz=>hr.s dl H1 σ q _ _ _ Es (rd.evo e1) hz (fun vs ts G H2 e2 r2 l2 z=>k _ _ _ H2 (e1.trans e2) (.cons (r1.evo e1.d e2) r2) (by simp[l2]) z) fun a C ns us H' e2 r2 hw=>kx a C ns us H' (e1.trans e2) r2 hw⟩
theorem Bv(he:QPX X K e tx qx):QPX X K e (fun Es=>MC (tx Es)) (fun q Q W=>qx q (fun t=>match t with
 | .d ks=>T.imk ks=true/\∀ o vs,Q (.fd o vs ks)
 | _=>False) W):=⟨fun Es a=>K4 (he.h Es a),fun dl H σ q Q W R Es rd hq k kx=>he.s dl H σ q _ _ _ Es rd hq (fun v t F H1 e1 r1 f1 n1 hz=>by
 split at hz
 ·rename_i ks;obtain⟨p,vs,G,rfl,rfl,h1,h2⟩:=r1.r.dic;obtain rfl:=h2.im hz.1;exact⟨p,vs,rfl,h1,fun o=>k _ (.fd o vs ks) [] _ (e1.fresh (f1 p List.mem_cons_self) (r1.n p List.mem_cons_self)) ⟨.fd aj (h2.cN (TF.SO h1) (fun _ z=>z) fun _ z=>nomatch z),fun _ z=>nomatch z⟩ (fun _ z=>nomatch z) List.nodup_nil (hz.2 o vs)⟩
 ·exact hz.elim) kx⟩
theorem FL{g:Addr}{k:Nat}(hK:X.K=K)(M:Mk K C g)(G:aU X.prog X.w X.K X.mg X.base CX0 k g fd prs (zf C ns))(hr:cb (k+1) X.A)(hg:Gl X x)(hm:X.mg x=some (.ref C))(hb:Binds X.K fd prs [])(ha:Ep X K (e::es) ta qa)
  (hdb:(x ==("__debug__":Str))=false:=by decide) (he:starEach (e::es) X.env =(false,eval e X.env)::starEach es X.env:=by rfl) (hpl:(backTo pos (starEach es X.env)).any (·.1)=false:=by rfl) :
  QPX X K (.Call (.Name x p) (e::es) [] pos) (fun Es=>ES C ns (ta Es)) (fun q Q W=>qa q (fun ts=>T.ims ts=true/\ts.length=ns.length/\Q (.ob C ns ts)) W):=by
 subst hK;refine⟨fun Es a=>Gw M G hr hg hm hb (ha.h Es a) hdb he hpl,fun dl H σ q Q W R Es rd hq k kx=>ha.s dl H σ q _ _ _ Es rd hq (fun vs ts F H1 e1 r1 _ hz=>?_) kx⟩
 obtain⟨z1,z2,z3⟩:=hz;obtain rfl:=r1.r.im z1;refine⟨r1.r.len.trans z2,fun x dx hx hd ne=>?_⟩
 have ev:Evo dl H1 (upd (upd H1 x (.ext (uP x C dx))) dx (.ext (XD dx (ns.zip vs)))):=((Evo.refl e1.d).new hx).new (by rw[ai ne];exact hd)
 have r2:=r1.evo e1.d ev;exact k _ _ [] _ (e1.trans ev) ⟨.ob ⟨dx,ne,by rw[ai ne.symm,aj],aj⟩ r2.r,fun _ z=>nomatch z⟩ (fun _ z=>nomatch z) List.nodup_nil z3
end
def Dc(K:W.Frag)(j:Nat)(ps:ml):Sp:=fun vs H Q E=>∃(dl:Dl)(ts:List T)(a:Addr)(ks:List (Key×T))(Qp:T->Prop)(Wp:QW),Dls dl H/\vs.length=ts.length/\vs[j]? = some (.ref a)/\ts[j]? = some (.dp a ks)/\Rp K dl H (.ref a) (.dp a ks) [a] /\
 (∀ i v t,i≠j->vs[i]? = some v->ts[i]? = some t->Rp K dl H v t [])/\ps ts Qp Wp /\
 (∀ ks' H',Frm dl (kJ H a) H'->Dls dl H'->Rp K dl H' (.ref a) (.dp a ks') [a]->Qp (.dp a ks')->Q .non H') /\
 ∀ ks' x C ns us H',Frm dl (kJ H a) H'->Dls dl H'->Rp K dl H' (.ref a) (.dp a ks') [a]->Rp K dl H' (.ref x) (.xc C ns us) []->Wp C ns us->E (.ref C) (some x) H'
theorem Fun.U4{w:World}{K:PySem.W.Frag}{f:Addr}{k:Nat}{psp:ml}(F:Fun K x qual st f fd)(S:aH N ps (au st))(len:∀ ts Q W,psp ts Q W->ts.length=ps.length)
  (fE:∀(cdv:Value)(A:Around)(outer:List Env)(s:Shared)(H:Hp)(E:XK),cb k (A.deeper (envOfC qual (au st) s.heap.objs.size f cdv)) ->
   ∃ t qs,kO (ma (CX1 P w) P w K mg base N qual (au st) f cdv A outer s H E) K (bA st) t qs/\∀ ts Q W a ks,psp ts Q W->ts[j]? = some (.dp a ks)->qs (fun q C ns us=>(∃ ks',q[j]? = some (.o (.dp a ks'))/\T.imk ks'=true)/\W C ns us) { nx:=fun q=>∃ ks',q[j]? = some (.o (.dp a ks'))/\T.imk ks'=true/\Q (.dp a ks'),rt:=fun _=>False } ((ts.map Sl.r).set j (.o (.dp a ks))++List.replicate (N.length - ts.length) .no)):aU P w K mg base (CX1 P w) (k+1) f fd ps (Dc K j psp):=by
 refine F.okX S (fun vs H Q E h=>?_) (fun cdv A outer s H vs Q E hr h=>?_)
 ·obtain⟨dl,ts,a,ks,Qp,Wp,_,hl,_,_,_,_,h,_⟩:=h;rw[hl];exact len ts Qp Wp h
 ·obtain⟨dl,ts,a,ks,Qp,Wp,D,hl,hv,ht,r0,ro,h,fin,fix⟩:=h;obtain⟨t,qs,hb,hq⟩:=fE cdv A outer s H E hr;refine⟨t fun _=>E,hb.h _ sk rX,?_⟩
  have z:=hq ts Qp Wp a ks h ht;have hj:j<ts.length:=(List.getElem?_eq_some_iff.mp ht).1;have R:=rW (N:=N) D hl hv ht r0 ro hj;refine hb.s dl (kJ H a) [] H _ _ _ _ _ _ ⟨_,R⟩ z ⟨fun H' σ q hr hz=>?_,fun _ _ _ _ hz=>hz.elim,fun _ _ _ _ hz=>hz.elim,fun _ _ _ _ _ _ _ _ _ hz=>hz.elim⟩ fun H' σ q x C ns us hr rx hw=>?_
  ·obtain⟨F,r'⟩:=hr;obtain⟨ks',e1,him,hz⟩:=hz;obtain⟨v',_,rp⟩:=r'.g j _ _ e1 rfl;obtain⟨vs',G,rfl,eF,g1,g2⟩:=rp.r.dpp;obtain rfl:=g2.im him;rw[eF]at rp;exact fin ks' H' r'.f r'.d rp hz
  ·obtain⟨F,r'⟩:=hr;obtain⟨⟨ks',e1,him⟩,hw⟩:=hw;obtain⟨v',_,rp⟩:=r'.g j _ _ e1 rfl;obtain⟨vs',G,rfl,eF,g1,g2⟩:=rp.r.dpp;obtain rfl:=g2.im him;rw[eF]at rp;exact fix ks' x C ns us H' r'.f r'.d rp rx hw
section
variable{X:Cx}{K:W.Frag}{es:List Expr}{pos:Pos}{k:Nat}{f:Addr}{ps:ml}{i:Nat}
def zz(i j:Nat)(ps:ml)(ql:QA):QSX:=fun W D q=>match q[i]? with
 | some (.o (.d ks))=>T.imk ks=true/\∀ a,ql q fun ts=>ps (ts.set j (.dp a ks)) (fun t=>match t with
  | .dp _ ks'=>D.nx (q.set i (.o (.d ks')))
  | _=>False) fun C ns us=>∀ ks',W (q.set i (.o (.d ks'))) C ns us
 | some (.o (.dp a ks))=>T.imk ks=true/\ql q fun ts=>ps (ts.set j (.dp a ks)) (fun t=>match t with
  | .dp _ ks'=>D.nx (q.set i (.o (.dp a ks')))
  | _=>False) fun C ns us=>∀ ks',W (q.set i (.o (.dp a ks'))) C ns us
 | _=>False
theorem Dg(ha:Bd X K es tl i j ql):CP K (fun Es=>gu (ou (Dc K j ps) Es tl)) (zz i j ps ql):=fun dl H₀ hs H σ q Dq D V Es ⟨F,r⟩ hq E x=>by
 have go:∀{a:Addr}{ks:List (Key×T)}{t:T}(W:T->Prop)(t1:List (Key×T)->T),q[i]? = some (.o t)->σ[i]? = some (some (.ref a)) ->(∀{H:Hp}{G:List Addr},aE K dl H (.ref a) t G->aE K dl H (.ref a) (.dp a ks) G)->F i = [a] ->(∀{H:Hp}{ks':List (Key×T)},aE K dl H (.ref a) (.dp a ks') [a]->aE K dl H (.ref a) (t1 ks') [a]) ->
   (∀ ks',W (.dp a ks')->Dq.nx (q.set i (.o (t1 ks')))) ->(ql q fun ts=>ps (ts.set j (.dp a ks)) W fun C ns us=>∀ ks',V (q.set i (.o (t1 ks'))) C ns us)->gu (ou (Dc K j ps) Es tl) D σ H:=by
  intro a ks t W t1 hi hv tr hF ba hW hq;refine ha.s dl H σ q (.ref a) _ _ r.rd hv hq fun vs ts H1 e1 l1 hj ho hz=>?_
  have r1:=r.evo e1;obtain⟨v',hv',rp⟩:=r1.g i _ _ hi rfl;rw[hv]at hv';cases hv';rw[hF]at rp;have hjl:j<ts.length:=by rw[<- l1];exact(List.getElem?_eq_some_iff.mp hj).1
  obtain⟨kvs,G,_,_,g1,_⟩:=(tr rp.r).dpp;refine⟨dl,ts.set j (.dp a ks),a,ks,W,_,r1.d,by simp[l1],hj,List.getElem?_set_self hjl,⟨tr rp.r,rp.n⟩,fun n v u ne h1 h2=>ho n v u ne h1 (by rwa [List.getElem?_set_ne (fun z=>ne z.symm)]at h2),hz,fun ks' H' f D' r' hw=>?_,fun ks' y C ns us H' f D' r' rx hw=>?_⟩
  ·exact E.nx _ _ _ (r1.Pb hi hv hF ⟨_,g1⟩ f D' ⟨ba r'.r,r'.n⟩) (hW ks' hw)
  ·exact x H' σ _ y C ns us (r1.Pb hi hv hF ⟨_,g1⟩ f D' ⟨ba r'.r,r'.n⟩) rx (hw ks')
 unfold zz at hq
 split at hq
 ·rename_i ks ei;obtain⟨v,hv,rp⟩:=r.g i _ _ ei rfl;obtain⟨a,vs,G,rfl,eF,h1,h2⟩:=rp.r.dic;obtain rfl:=h2.im hq.1;refine go (a:=a) (ks:=ks) _ (fun ks'=>.d ks') ei hv (fun{H G} z=>?_) eF (fun{H ks'} z=>?_) (fun ks' z=>z) (hq.2 a)
  ·obtain⟨a',vs',G',e1,rfl,h3,h4⟩:=z.dic;cases e1;exact .dp h3 h4
  ·obtain⟨vs',G',e1,e2,h3,h4⟩:=z.dpp;rw[e2];exact .d h3 h4
 ·rename_i a ks ei;obtain⟨v,hv,rp⟩:=r.g i _ _ ei rfl;obtain⟨vs,G,rfl,eF,h1,h2⟩:=rp.r.dpp;obtain rfl:=h2.im hq.1;exact go (a:=a) (ks:=ks) _ (fun ks'=>.dp a ks') ei hv (fun z=>z) eF (fun z=>z) (fun ks' z=>z) hq.2
 ·exact hq.elim
theorem mQ(F:aU X.prog X.w X.K X.mg X.base (CX1 X.prog X.w) k f fd prs (Dc K j ps))(hr:cb k X.A)(hg:Gl X x)(hm:X.mg x=some (.ref f))(hk:W.keepIn X.K (.ref f)=true)(hb:Binds X.K fd prs [])(ha:Bd X K (e::es) tl i j ql)
  (hdb:(x ==("__debug__":Str))=false:=by decide) (he:starEach (e::es) X.env =(false,eval e X.env)::starEach es X.env:=by rfl) (hpl:(backTo pos (starEach es X.env)).any (·.1)=false:=by rfl) (hs:swapsWith (.Call (.Name x p) (e::es) [] pos) none pos'.line X.env=pure false:=by rfl) :
  t8 X K (.Expr (.Call (.Name x p) (e::es) [] pos) pos') (fun Es=>gu (ou (Dc K j ps) Es tl)) (zz i j ps ql):=⟨fun Es a _=>kh (yc F hr hg hm hk hb a ha.h hdb he hpl) hs,Dg ha⟩
end
variable{cs:List Addr}
section
variable{X:Cx}{K:W.Frag}{es:List Expr}{te:TE}{qe:QE}{pos:Pos}{fn:List Str}{C':Addr}{bm:List Value}
def tCs:List Addr->TA
 | []=>kz
 | c::r=>cu (tC (.ref c)) (tCs r)
structure PCs(X:Cx)(K:W.Frag)(fn:List Str)(es:List Expr)(cs:List Addr):Prop where
 h:PA X es (tCs cs)
 c:∀ c∈cs,∃ bm ini,bF K fn c bm ini
 l:cs.length=es.length
theorem K9:PCs X K fn [] []:=⟨eB,(fun _ z=>nomatch z),rfl⟩
theorem gF{y:Str}(c':bF K fn C bm ini)(hg:Gl X y)(hm:X.mg y=some (.ref C))(hr:PCs X K fn es cs)(hd:(y ==("__debug__":Str))=false:=by decide)(hs:starEach (.Name y p::es) X.env =(false,eval (.Name y p) X.env)::starEach es X.env:=by rfl):PCs X K fn (.Name y p::es) (C::cs) :=
 ⟨bw (Gx hg hm hd) hr.h hs,fun c hc=>(List.mem_cons.mp hc).elim (fun z=>z▸⟨bm,ini,c'⟩) (hr.c c),by simp[hr.l]⟩
theorem JL{σ:St}{R:List V->Hp->Prop}:∀{cs:List Addr},R (cs.map V.ref) H->tCs cs σ H R:=by
 intro cs
 induction cs generalizing R with
 | nil=>exact fun h=>h
 | cons c r ih=>exact fun h=>ih (R:=fun vs H1=>R (V.ref c::vs) H1) h
theorem Ak(c:bF K fn C bm ini):∀{cs:List Addr},(∀ x∈cs,∃ bm ini,bF K fn x bm ini)->W.kitAny K (.ref C) (cs.map Value.ref)=some (cs.any fun x=>(Value.ref C::bm).contains (.ref x)):=by
 intro cs
 induction cs with
 | nil=>exact fun _=>rfl
 | cons x r ih =>
  intro h;obtain⟨bm',uE,c'⟩:=h x List.mem_cons_self;show(match W.kitOne K (.ref C) (.ref x)with|some true=>some true|some false=>W.kitAny K (.ref C) (r.map Value.ref)|none=>none)=_
  rw[Lz c c',List.any_cons];cases e:(Value.ref C::bm).contains (.ref x)with
  | true=>rfl
  | false=>exact ih fun y hy=>h y (List.mem_cons_of_mem _ hy)
theorem C6:∀{cs:List Addr}{us:List Value},Vals (cs.map V.ref) us->us=cs.map Value.ref:=by
 intro cs
 induction cs with
 | nil=>intro us r;cases r;rfl
 | cons c r ih =>
  intro us h;cases h with
  | cons h1 h2=>rw[jt h1,ih h2];rfl
def FJ(K:W.Frag)(fn:List Str)(cs:List Addr):List V->Hp->VK->Prop:=fun xs H Q=>∃ a C b fs bm ini tp,xs = [.ref a,.ref tp]/\ExH H a C b fs/\bF K fn C bm ini/\H tp=some (.tup (cs.map V.ref))/\(∀ c∈cs,∃ bm ini,bF K fn c bm ini)/\Q (.bl (cs.any fun x=>(Value.ref C::bm).contains (.ref x))) H
theorem Eg:cj X (.builtin "isinstance") (FJ X.K fn cs):=by
 intro gV s σ H xs us Q I r h;obtain⟨a,C,b,fs,bm,ini,tp,rfl,ex,cx,ht,hc,q⟩:=h;cases r with
 | cons h1 r2 =>
  cases r2 with
  | cons h2 r3 =>
   cases r3
   cases(jt h1)
   cases(jt h2)
   obtain⟨_,its,hv,hi⟩:=I.hok tp _ ht;have e:=C6 hv;subst e;obtain⟨⟨⟨oc,od,odt,osl⟩,h3,h4,n,h5⟩,_⟩:=hi;cases h4;cases h5;exact W.kia_tup (ym cx) I.kIn (ex.cls I.hok) h3 (Ak cx hc) (fun z=>nomatch z) fun tk=>⟨.bl _,H,I.tok tk,rfl,q⟩
def MM(K:W.Frag)(fn:List Str)(cs:List Addr)(qe:QE):QE:=fun q Q=>qe q fun t=>match t with
 | .xc C _ _=>∃ bm ini,bF K fn C bm ini/\Q (.b (cs.any fun x=>(Value.ref C::bm).contains (.ref x)))
 | _=>False
theorem Fd(hc:∀ c∈cs,∃ bm ini,bF K fn c bm ini)(hl:cs.length<=1000)(h:iV K te qe):kE K (tCB (FJ K fn cs) (cu te (cu (EO (tCs cs)) kz))) (MM K fn cs qe):=by
 intro dl H σ q Q R rd hq k;refine h dl H σ q _ _ rd hq fun v t F H1 e1 r1 hz=>?_
 split at hz
 ·obtain⟨bm,ini,cx,hz⟩:=hz;refine JL ⟨Nat.le_of_lt (aA (by rw[List.length_map];exact hl)),fun p hp=>?_⟩
  have ev:=(Evo.refl e1.d).new (o:=.tup (cs.map V.ref)) hp;have r2:=r1.evo e1.d ev;obtain⟨a,b,vs,rfl,rfl,ex,rs⟩:=r2.r.exc;exact⟨a,_,b,_,bm,ini,p,rfl,ex,cx,aj,hc,k _ _ [] _ (e1.trans ev) ⟨.b _,fun _ z=>nomatch z⟩ (fun _ z=>nomatch z) List.nodup_nil hz⟩
 ·exact hz.elim
theorem Kz{x1}(hK:X.K=K)(hg:Gl X "isinstance")(hm:X.mg "isinstance" = none)(hc:PCs X K fn es cs)(h:QPE X K e te qe)(hl:cs.length<=1000:=by simp)
  (he:starEach [e,.Tuple es x1 p2] X.env =(false,eval e X.env)::starEach [.Tuple es x1 p2] X.env:=by rfl) (he2:starEach [.Tuple es x1 p2] X.env =(false,eval (.Tuple es x1 p2) X.env)::starEach [] X.env:=by rfl) (hpl:(backTo pos (starEach [.Tuple es x1 p2] X.env)).any (·.1)=false:=by rfl) :
  QPF X K (.Call (.Name "isinstance" p) [e,.Tuple es x1 p2] [] pos) (tCB (FJ K fn cs) (cu te (cu (EO (tCs cs)) kz))) (MM K fn cs qe):=by
 subst hK;exact⟨jw Eg hg hm rfl (bw h.h (bw (zK hc.h) eB he2) he) (by decide) (by decide) he hpl,Fd hc.c hl h.s⟩
end
section
variable{X:Cx}{K:W.Frag}
theorem any_range(bs:List Bool):(List.range bs.length).any (fun i=>bs.getD i false)=bs.any id:=by
 have e:(List.range bs.length).map (fun i=>bs.getD i false)=bs:=by
  apply List.ext_getElem
  ·simp
  ·intro i h1 h2;simp at h1;simp[h1]
 conv=>rhs;rw[<- e]
 rw[List.any_map];rfl
theorem Ii(hc:X.calm=true):cj X (.builtin "any") (fun xs H Q=>∃(l:Addr)(bs:List Bool),xs = [.ref l]/\SqL X.K H l (bs.map V.bl)/\Q (.bl (bs.any id)) H):=by
 intro gV s σ H xs us Q I r h;obtain⟨l,bs,rfl,hl,q⟩:=h;obtain⟨u,rfl,ru⟩:=vals1 r;cases ru;obtain⟨its,rv,pl,hz⟩:=I.list hl;have hlt:l<s.heap.objs.size:=by obtain⟨_,e,_⟩:=pl.isList;exact Heap.lt_size e
 have hlen:its.toArray.size=bs.length:=by
  have e:=rv.length;rw[List.length_map]at e;simp[e]
 refine call_any_walk (wpAny_pyIter_list pl.isList ?_);refine⟨s.heap.objs.size,[s.heap.objs.size,l],[s.heap.objs.size],its.toArray.size,_,_,fun i=>bs.getD i false,rfl,Walks.list (show X.A.in1.handled=none from I.ok.hd hc) s.heap.objs.size l (Nat.ne_of_lt hlt) its.toArray,⟨⟨_,Heap.get?_push_size _ rfl,rfl,rfl⟩,pl.isList.push _⟩,?_,fun h' tk hk=>?_⟩
 ·intro i v s' Q' E' hP hq;obtain⟨b,h1,rfl⟩:=JI rv (by simpa using hP)
  have e:bs.getD i false=b:=by simp[List.getD,h1]
  exact wpAny_truthy_bool (e▸hq)
 ·refine⟨.bl _,H,I.kept (t':=tk) (h':=h') fun b o e=>hk b o (by simpa using Nat.ne_of_lt (Heap.lt_size e)) (Heap.get?_push_of_some _ e),rfl,?_⟩
  rw[hlen,any_range];exact q
def RE:QC:=fun ts Q=>match ts with
 | [.l xs]=>∃ bs,bls xs=some bs/\Q (.b (bs.any id))
 | _=>False
theorem Eh(hK:X.K=K)(hc:X.calm=true):cj X (.builtin "any") (fun xs H Q=>∃(l:Addr)(bs:List Bool),xs = [.ref l]/\SqL K H l (bs.map V.bl)/\Q (.bl (bs.any id)) H):=by subst hK;exact Ii hc
theorem Ka:t6 K (fun xs H Q=>∃(l:Addr)(bs:List Bool),xs = [.ref l]/\SqL K H l (bs.map V.bl)/\Q (.bl (bs.any id)) H) RE:=by
 intro dl H vs ts F Q R D r hq k;unfold RE at hq
 split at hq
 ·obtain⟨v,rfl,r'⟩:=r.one;obtain⟨p,vs,G,rfl,rfl,h1,h2⟩:=r'.r.lst;obtain⟨bs,hb,hq⟩:=hq;have e:=h2.bls hb;subst e;exact⟨p,bs,rfl,SqL.of h1,k _ _ [] H (.refl D) (.c (.b _)) (fun _ z=>nomatch z) List.nodup_nil hq⟩
 ·exact hq.elim
end
def Alk:Nat->T->T->Prop
 | 0,t,u=>(∃ x y,t = .s x/\u = .s y)\/∃ x y,t = .i x/\u = .i y
 | n+1,t,u=>(∃ x y,t = .s x/\u = .s y)\/(∃ x y,t = .i x/\u = .i y)\/∃ ts us,t = .t ts/\u = .t us/\∀(j:Nat)(x y:T),ts[j]? = some x->us[j]? = some y->Alk n x y
def Dep:Nat->T->Prop
 | 0,t=>(∃ x,t = .s x)\/∃ x,t = .i x
 | n+1,t=>(∃ x,t = .s x)\/(∃ x,t = .i x)\/∃ ts,t = .t ts/\∀ x∈ts,Dep n x
theorem Dep.s:Dep n (.s x):=by cases n <;> exact .inl ⟨x,rfl⟩
theorem Dep.i{x:Int}:Dep n (.i x):=by
 cases n
 ·exact .inr ⟨x,rfl⟩
 ·exact .inr (.inl ⟨x,rfl⟩)
theorem Dep.t{ts:List T}(h:∀ x∈ts,Dep n x):Dep (n+1) (.t ts):=.inr (.inr ⟨ts,rfl,h⟩)
theorem Dep.mono{m:Nat}{t:T}(h:Dep n t)(hm:n<=m):Dep m t:=by
 induction n generalizing m t with
 | zero =>
  rcases h with⟨x,rfl⟩ |⟨x,rfl⟩
  ·exact Dep.s
  ·exact Dep.i
 | succ n ih =>
  rcases h with⟨x,rfl⟩ |⟨x,rfl⟩ |⟨ts,rfl,h⟩
  ·exact Dep.s
  ·exact Dep.i
  ·obtain⟨k,rfl⟩:∃ k,m=k+1:=⟨m - 1,by omega⟩
   exact Dep.t fun x hx=>ih (h x hx) (by omega)
theorem Dep.alk{t:T}(h:Dep n t):Alk n t t:=by
 induction n generalizing t with
 | zero =>
  rcases h with⟨x,rfl⟩ |⟨x,rfl⟩
  ·exact .inl ⟨x,x,rfl,rfl⟩
  ·exact .inr ⟨x,x,rfl,rfl⟩
 | succ n ih =>
  rcases h with⟨x,rfl⟩ |⟨x,rfl⟩ |⟨ts,rfl,h⟩
  ·exact .inl ⟨x,x,rfl,rfl⟩
  ·exact .inr (.inl ⟨x,x,rfl,rfl⟩)
  ·refine .inr (.inr ⟨ts,ts,rfl,rfl,fun j x y hx hy=>?_⟩)
   rw[hx]at hy;cases hy;exact ih (h x (List.mem_of_getElem? hx))
variable{G:List Addr}
section
variable{X:Cx}{K:W.Frag}
theorem A3{s:Shared}{t u:T}{v w:V}{x y:Value}(h:(∃ x y,t = .s x/\u = .s y)\/∃ x y,t = .i x/\u = .i y)(r1:aE K dl H v t F)(r2:aE K dl H w u G)(rx:RelV v x)(ry:RelV w y):∃ c:Bool,(c=true ↔ t=u)/\SeqAt.EqAt A s x y c:=by
 rcases h with⟨z,z',rfl,rfl⟩ |⟨z,z',rfl,rfl⟩
 ·obtain⟨rfl,_⟩:=r1.str;obtain⟨rfl,_⟩:=r2.str;exact⟨_,by simp[eqV],oY (A:=A) (s:=s) rx ry rfl rfl⟩
 ·obtain⟨rfl,_⟩:=r1.int;obtain⟨rfl,_⟩:=r2.int;exact⟨_,by simp[eqV],oY (A:=A) (s:=s) rx ry rfl rfl⟩
theorem Cq{ts us:List T}{n n1 n2:Nat}{e:Nat->Bool}(hn:n1=ts.length)(hm:n2=us.length)(he:∀(j:Nat)(x y:T),ts[j]? = some x->us[j]? = some y ->(e j=true ↔ x=y)):((List.range (min n1 n2)).all e&&n1==n2)=true ↔ ts=us:=by
 subst hn hm;rw[Bool.and_eq_true,List.all_eq_true,beq_iff_eq]
 constructor
 ·rintro⟨h1,h2⟩
  refine List.ext_getElem h2 fun i g1 g2=>?_
  exact(he i _ _ (List.getElem?_eq_getElem g1) (List.getElem?_eq_getElem g2)).mp (h1 i (List.mem_range.mpr (by omega)))
 ·rintro rfl
  refine⟨fun j hj=>?_,rfl⟩
  have hj:j<ts.length:=by have:=List.mem_range.mp hj;omega
  exact(he j _ _ (List.getElem?_eq_getElem hj) (List.getElem?_eq_getElem hj)).mpr rfl
theorem Ir:∀(n:Nat){t u:T}{v:V}{F G:List Addr},Alk n t u->aE K dl H v t F->aE K dl H v u G->t=u:=by
 intro n;have sc:∀{t u:T}{v:V}{F G:List Addr},((∃ x y,t = .s x/\u = .s y)\/∃ x y,t = .i x/\u = .i y)->aE K dl H v t F->aE K dl H v u G->t=u:=fun h r1 r2=>by
  rcases h with⟨z,z',rfl,rfl⟩ |⟨z,z',rfl,rfl⟩
  ·obtain⟨rfl,_⟩:=r1.str;obtain⟨e,_⟩:=r2.str;cases e;rfl
  ·obtain⟨rfl,_⟩:=r1.int;obtain⟨e,_⟩:=r2.int;cases e;rfl
 induction n with
 | zero=>exact fun h r1 r2=>sc h r1 r2
 | succ n ih =>
  intro t u v F G h r1 r2;rcases h with h|h |⟨ts,us,rfl,rfl,ht⟩
  ·exact sc (.inl h) r1 r2
  ·exact sc (.inr h) r1 r2
  ·obtain⟨a,vs,rfl,h1,f1⟩:=r1.tup;obtain⟨b,ws,e,h2,f2⟩:=r2.tup;cases e;rw[h1]at h2;cases h2;have l3:=f1.len;have l4:=f2.len;refine congrArg L2.T.t (List.ext_getElem (by omega) fun i g1 g2=>?_)
   have gv:i<vs.length:=by omega
   obtain⟨t1,G1,et1,rt1⟩:=gx f1 (List.getElem?_eq_getElem gv);obtain⟨t2,G2,et2,rt2⟩:=gx f2 (List.getElem?_eq_getElem gv);rw[List.getElem?_eq_getElem g1]at et1;rw[List.getElem?_eq_getElem g2]at et2;cases et1;cases et2;exact ih (ht i _ _ (List.getElem?_eq_getElem g1) (List.getElem?_eq_getElem g2)) rt1 rt2
theorem HH{σ:St}{s:Shared}(I:Inv X gV σ H s)(hK:X.K=K):∀(n:Nat)(A:Around)(t u:T)(v w:V)(F G:List Addr)(x y:Value),Alk n t u->aE K dl H v t F->aE K dl H w u G->RelV v x->RelV w y->A.units+n<cLine->∃ c:Bool,(c=true ↔ t=u)/\SeqAt.EqAt A s x y c:=by
 intro n
 induction n with
 | zero =>
  intro A t u v w F G x y ht r1 r2 rx ry hu;exact A3 ht r1 r2 rx ry
 | succ n ih =>
  intro A t u v w F G x y ht r1 r2 rx ry hu;rcases ht with h|h |⟨ts,us,rfl,rfl,ht⟩
  ·exact A3 (.inl h) r1 r2 rx ry
  ·exact A3 (.inr h) r1 r2 rx ry
  ·obtain⟨a,vs,rfl,h1,f1⟩:=r1.tup;obtain⟨b,ws,rfl,h2,f2⟩:=r2.tup;cases rx;cases ry;obtain⟨its,q1,p1,_⟩:=I.tuple (SqT.of h1);obtain⟨cc,q2,p2,_⟩:=I.tuple (SqT.of h2);have l1:=q1.length;have l2:=q2.length;have l3:=f1.len;have l4:=f2.len;have go:∀ j,∃ c:Bool,∀(g1:j<its.toArray.size)(g2:j<cc.toArray.size),(∀(x y:T),ts[j]? = some x->us[j]? = some y ->(c=true ↔ x=y))/\SeqAt.EqAt A.in1 s its.toArray[j] cc.toArray[j] c:=fun j=>by
    by_cases g:j<its.toArray.size/\j<cc.toArray.size
    ·obtain⟨g1,g2⟩:=g;obtain⟨v1,e1,rv1⟩:=q1.at' g1;obtain⟨v2,e2,rv2⟩:=q2.at' g2;obtain⟨t1,G1,et1,rt1⟩:=gx f1 e1;obtain⟨t2,G2,et2,rt2⟩:=gx f2 e2;obtain⟨c,hc,hE⟩:=ih A.in1 t1 t2 v1 v2 G1 G2 _ _ (ht j t1 t2 et1 et2) rt1 rt2 rv1 rv2 (by show A.units+1+n<_;omega)
     refine⟨c,fun _ _=>⟨fun x y hx hy=>?_,hE⟩⟩
     rw[et1]at hx;rw[et2]at hy;cases hx;cases hy;exact hc
    ·exact⟨true,fun g1 g2=>absurd ⟨g1,g2⟩ g⟩
   have hc:=fun j=>Classical.choose_spec (go j)
   have key:((List.range (min its.toArray.size cc.toArray.size)).all (fun j=>Classical.choose (go j))&&its.toArray.size==cc.toArray.size)=true ↔ ts=us:=by
    have e1:its.toArray.size=ts.length:=by simp;omega
    have e2:cc.toArray.size=us.length:=by simp;omega
    refine Cq (n:=n) e1 e2 fun j x y hx hy=>?_
    have g1:=(List.getElem?_eq_some_iff.mp hx).1;have g2:=(List.getElem?_eq_some_iff.mp hy).1;exact(hc j (by omega) (by omega)).1 x y hx hy
   by_cases hab:a=b
   ·subst hab;exact⟨true,⟨fun _=>Ir (n+1) (.inr (.inr ⟨ts,us,rfl,rfl,ht⟩)) r1 r2,fun _=>rfl⟩,SeqAt.EqAt.same _⟩
   ·refine⟨_,⟨fun h=>congrArg L2.T.t (key.mp h),fun h=>key.mpr (by cases h;rfl)⟩,SeqAt.EqAt.of_refs hab (SeqAt.RcAt.tuples (A:=A) (e:=fun j=>Classical.choose (go j)) (show s.heap.IsTuple a its.toArray from p1) (show s.heap.IsTuple b cc.toArray from p2) (by omega) fun j g1 g2=>(hc j g1 g2).2)⟩
def Rm(K:W.Frag):R2:=fun x y H Q=>Km K x y H Q\/∃ dl ts us n F G,aE K dl H x (.t ts) F/\aE K dl H y (.t us) G/\(∀(j:Nat)(x y:T),ts[j]? = some x->us[j]? = some y->Alk n x y)/\n<=100/\∀ c:Bool,(c=true ↔ ts=us)->Q (.bl c) H
theorem OV(hu:X.A.units+150<cLine)(hK:X.K=K):OpR X (compareOp .Eq) (Rm K):=by
 subst hK;refine OpR.or (zO (X:=X) (by omega) rfl) ?_
 intro gV s σ H x y v u Q I rx ry h;obtain⟨dl,ts,us,n,F,G,r1,r2,ht,hn,k⟩:=h;obtain⟨a,vs,rfl,h1,f1⟩:=r1.tup;obtain⟨b,ws,rfl,h2,f2⟩:=r2.tup;cases rx;cases ry;obtain⟨its,q1,p1,_⟩:=I.tuple (SqT.of h1);obtain⟨cc,q2,p2,_⟩:=I.tuple (SqT.of h2);have l1:=q1.length;have l2:=q2.length;have l3:=f1.len;have l4:=f2.len;have go:∀ j,∃ c:Bool,∀(g1:j<its.toArray.size)(g2:j<cc.toArray.size),(∀(x y:T),ts[j]? = some x->us[j]? = some y ->(c=true ↔ x=y))/\SeqAt.EqAt X.A.in1 s its.toArray[j] cc.toArray[j] c:=fun j=>by
  by_cases g:j<its.toArray.size/\j<cc.toArray.size
  ·obtain⟨g1,g2⟩:=g;obtain⟨v1,e1,rv1⟩:=q1.at' g1;obtain⟨v2,e2,rv2⟩:=q2.at' g2;obtain⟨t1,G1,et1,rt1⟩:=gx f1 e1;obtain⟨t2,G2,et2,rt2⟩:=gx f2 e2;obtain⟨c,hc,hE⟩:=HH I rfl n X.A.in1 t1 t2 v1 v2 G1 G2 _ _ (ht j t1 t2 et1 et2) rt1 rt2 rv1 rv2 (by show X.A.units+1+n<_;omega)
   refine⟨c,fun _ _=>⟨fun x y hx hy=>?_,hE⟩⟩
   rw[et1]at hx;rw[et2]at hy;cases hx;cases hy;exact hc
  ·exact⟨true,fun g1 g2=>absurd ⟨g1,g2⟩ g⟩
 have hc:=fun j=>Classical.choose_spec (go j)
 have key:((List.range (min its.toArray.size cc.toArray.size)).all (fun j=>Classical.choose (go j))&&its.toArray.size==cc.toArray.size)=true ↔ ts=us:=by
  have e1:its.toArray.size=ts.length:=by simp;omega
  have e2:cc.toArray.size=us.length:=by simp;omega
  refine Cq (n:=n) e1 e2 fun j x y hx hy=>?_
  have g1:=(List.getElem?_eq_some_iff.mp hx).1;have g2:=(List.getElem?_eq_some_iff.mp hy).1;exact(hc j (by omega) (by omega)).1 x y hx hy
 exact SeqAt.eq_tupleAt (e:=fun j=>Classical.choose (go j)) (show s.heap.IsTuple a its.toArray from p1) (show s.heap.IsTuple b cc.toArray from p2) (by omega) (fun j g1 g2=>(hc j g1 g2).2) ⟨.bl _,H,I,rfl,k _ key⟩
def RD:Q2:=fun t u Q=>match t,u with
 | .t ts,.t us=>∃ n,n<=100/\(∀(j:Nat)(x y:T),ts[j]? = some x->us[j]? = some y->Alk n x y)/\∀ c:Bool,(c=true ↔ ts=us)->Q (.b c)
 | t,u=>qj t u Q
theorem J9:cL K (Rm K) RD:=by
 intro dl H x y t u F G Q R D r1 r2 hq k;unfold RD at hq
 split at hq
 ·obtain⟨n,hn,ht,hq⟩:=hq;exact .inr ⟨dl,_,_,n,F,G,r1.r,r2.r,ht,hn,fun c hc=>k _ _ [] H (.refl D) (.c (.b _)) (fun _ z=>nomatch z) List.nodup_nil (hq c hc)⟩
 ·exact .inl (vP dl H x y t u F G Q R D r1 r2 hq k)
end
variable{N':List Str}{sc:Scope}{fp:List Addr}
section
variable{X:Cx}{K:W.Frag}{a:Expr}{es:List Expr}{te ta tb:TE}{qe qa qb:QE}{pos apos:Pos}{k k':Nat}{f:Addr}
structure Dn(K:W.Frag)(mg:Str->Option Value)(x:Str)(st:Stmt)(f:Addr)(fd:FuncData)(ps:List Str):Prop where
 F:Fun K x x st f fd
 m:mg x=some (.ref f)
 b:Binds K fd ps []
theorem aL{ps:PSp}(F:aU X.prog X.w X.K X.mg X.base CX0 k f fd prs (spQ K ps))(hr:cb k' X.A)(D:Dn X.K X.mg x st f fd prs)(ha:QPA X K (e::es) tl ql)(hk:k<=k':=by first|decide|omega)(hg:Gl X x:=by exact rfl)
  (hdb:(x ==("__debug__":Str))=false:=by decide) (he:starEach (e::es) X.env =(false,eval e X.env)::starEach es X.env:=by rfl) (hpl:(backTo pos (starEach es X.env)).any (·.1)=false:=by rfl) :
  QPF X K (.Call (.Name x p) (e::es) [] pos) (rF (spQ K ps) [] E0 tl) (bS ps ql):=KD F (hr.mono hk) hg D.m D.F.kp D.b ha hdb he hpl
theorem xR{ps:ml}(F:aU X.prog X.w X.K X.mg X.base (CX1 X.prog X.w) k f fd prs (rJ K ps))(hr:cb k' X.A)(D:Dn X.K X.mg x st f fd prs)(ha:QPA X K (e::es) tl ql)(hk:k<=k':=by first|decide|omega)(hg:Gl X x:=by exact rfl)
  (hdb:(x ==("__debug__":Str))=false:=by decide) (he:starEach (e::es) X.env =(false,eval e X.env)::starEach es X.env:=by rfl) (hpl:(backTo pos (starEach es X.env)).any (·.1)=false:=by rfl) :
  QPX X K (.Call (.Name x p) (e::es) [] pos) (fun Es=>ou (rJ K ps) Es tl) (fun q Q W=>ql q fun ts=>ps ts Q W):=Ko F (hr.mono hk) hg D.m D.F.kp D.b ha hdb he hpl
theorem ar:QPA X K [] kz bg:=xt.w av
theorem ah{i j}:QPE X K (.Constant (.int i) j pos) (tC (.int i)) (qC (.i i)):=QPF.w a9
theorem aS(hm:X.mg "len" = none)(ha:QPA X K (e::es) tl ql)(hg:Gl X "len":=by exact rfl)(hK:X.K=K:=by exact rfl)
  (he:starEach (e::es) X.env =(false,eval e X.env)::starEach es X.env:=by rfl) (hpl:(backTo pos (starEach es X.env)).any (·.1)=false:=by rfl):QPF X K (.Call (.Name "len" p) (e::es) [] pos) (tCB (FG K) tl) (qCB oH ql):=gD (Ef hK) J3 hg hm (by kernel_rfl) ha (by decide) (by decide) he hpl
theorem ay(i:Nat)(hN:X.N.Nodup)(he:QPF X K e te qe)(hi:X.N[i]? = some x:=by rfl)(hx:Loc X.env.scope x:=by first|exact .inl rfl|exact .inr rfl)(hs:swapsWith e (some (.Name x pos')) pos.line X.env=pure false:=by rfl)(hf:X.fn x=true\/X.env.scope.names.lookup x=some .local:=by first|exact .inl rfl|exact .inr rfl|assumption) :
  QPS X K (.Assign [.Name x pos'] e pos) (jd te (fG i)) (kA i qe):=Ob hN hi hx he hs hf
theorem br(i:Nat)(hN:X.N.Nodup)(hi:X.N[i]? = some x:=by rfl)(hx:Loc X.env.scope x:=by first|exact .inl rfl|exact .inr rfl)(hf:X.fn x=true\/X.env.scope.names.lookup x=some .local:=by first|exact .inl rfl|exact .inr rfl|assumption):PG X (.Name x pos) (fG i):=mX hN hi hx hf
theorem dz{cl:List (Str×Addr)}{s₂:Shared}{H₂:Hp}(i:Nat)(hN:N'.Nodup:=by decide +kernel)(hi:N'[i]? = some x:=by rfl)(hx:Loc (blk X N' sc cl C s₂ H₂ fp).env.scope x:=by first|exact .inl rfl|exact .inr rfl)(hf:(blk X N' sc cl C s₂ H₂ fp).env.scope.names.lookup x=some .local:=by rfl):PG (blk X N' sc cl C s₂ H₂ fp) (.Name x pos) (fG i):=mX (X:=blk X N' sc cl C s₂ H₂ fp) hN hi hx (.inr hf)
theorem d5{x1 x2:Str}{t1 t2:TG}{j:Nat}(h1:PG X (.Name x1 p1) t1)(h2:PG X (.Name x2 p2) t2)(hK:X.K=K:=by exact rfl)(hc:X.calm=true:=by exact rfl)
  (hn:(assignEach [.Name x1 p1,.Name x2 p2] X.env).length=2:=by rfl) (hst:(assignEach [.Name x1 p1,.Name x2 p2] X.env).findIdx? (·.1)=none:=by rfl):PG X (.Tuple [.Name x1 p1,.Name x2 p2] j pos) (LU K 2 (Cj t1 (Cj t2 PY))):=qV hK hc (cB h1 (cB h2 qU)) hn hst
theorem b6(hu:X.A.units+1<cLine)(ha:QPE X K a ta qa)(hb:QPE X K b tb qb)(hK:X.K=K:=by exact rfl):QPT X K (.Compare a [.Eq] [b] pos) (Bg (tOp (Km K) ta tb)) (gE (qOp qj qa qb)):=bj (zO hu hK) vP (bu _) ha hb
def xT(ha:QPE X K a ta qa)(hb:QPE X K b tb qb):=bj (pos:=pos) RQ (zj (K:=K) (g':=fun i j=>.b (decide (i<j))) fun _ _ _ _=>.b _) (bu _) ha hb
def xU(ha:QPE X K a ta qa)(hb:QPE X K b tb qb):=bj (pos:=pos) GG (zj (K:=K) (g':=fun i j=>.b (decide (j<i))) fun _ _ _ _=>.b _) (bu _) ha hb
end
abbrev NI(K:W.Frag)(x:Str)(f:Addr):Prop:=W.nsIn K mainGlobals x=some (some (.ref f))
abbrev LK(K:W.Frag)(f:Addr)(x q:Str)(st:Stmt)(oc:Value)(od:Option Addr)(kV dc pm:Value)(an:Option Addr)(cd ct:Value)(sl:Array (Option Value)):Prop:=K.lookup f=some ⟨oc,od,.func (W.fnOf x q (dm st) (bA st) (au st) .none kV dc pm an cd ct),sl⟩
abbrev CI(K:W.Frag)(cd:Value)(x:Str):Prop:=W.codeIn K cd x=true
abbrev KI(K:W.Frag)(f:Addr):Prop:=W.keepIn K (.ref f)=true
variable{p3:Str}
section
variable{K:W.Frag}{h:Heap}{q:Str}{f:Addr}{oc kV dc pm cd ct:Value}{od an:Option Addr}{sl:Array (Option Value)}
theorem Fun.b1{p1:Str}(F:Fun K x q st f fd)(hb:∀ kV dc pm an cd ct u1,bindArgs (W.fnOf x q (dm st) (bA st) (au st) .none kV dc pm an cd ct) ⟨[u1],[]⟩=pure [(p1,u1)]:=by intros;rfl):Binds K fd [p1] []:=F.binds fun kV dc pm an cd ct us hl=>R8 (P:=fun us=>bindArgs _ ⟨us,[]⟩=pure (List.zip _ us)) (hb kV dc pm an cd ct) us hl
theorem Fun.b2{p1 p2:Str}(F:Fun K x q st f fd)(hb:∀ kV dc pm an cd ct u1 u2,bindArgs (W.fnOf x q (dm st) (bA st) (au st) .none kV dc pm an cd ct) ⟨[u1,u2],[]⟩=pure [(p1,u1),(p2,u2)]:=by intros;rfl):Binds K fd [p1,p2] []:=F.binds fun kV dc pm an cd ct us hl=>R7 (P:=fun us=>bindArgs _ ⟨us,[]⟩=pure (List.zip _ us)) (hb kV dc pm an cd ct) us hl
theorem Fun.b3{p1 p2:Str}(F:Fun K x q st f fd)(hb:∀ kV dc pm an cd ct u1 u2 u3,bindArgs (W.fnOf x q (dm st) (bA st) (au st) .none kV dc pm an cd ct) ⟨[u1,u2,u3],[]⟩=pure [(p1,u1),(p2,u2),(p3,u3)]:=by intros;rfl):Binds K fd [p1,p2,p3] []:=F.binds fun kV dc pm an cd ct us hl=>R6 (P:=fun us=>bindArgs _ ⟨us,[]⟩=pure (List.zip _ us)) (hb kV dc pm an cd ct) us hl
theorem Fun.b4{p1 p2 p4:Str}(F:Fun K x q st f fd)(hb:∀ kV dc pm an cd ct u1 u2 u3 u4,bindArgs (W.fnOf x q (dm st) (bA st) (au st) .none kV dc pm an cd ct) ⟨[u1,u2,u3,u4],[]⟩=pure [(p1,u1),(p2,u2),(p3,u3),(p4,u4)]:=by intros;rfl):Binds K fd [p1,p2,p3,p4] []:=F.binds fun kV dc pm an cd ct us hl=>R5 (P:=fun us=>bindArgs _ ⟨us,[]⟩=pure (List.zip _ us)) (hb kV dc pm an cd ct) us hl
theorem Fun.b5{p1 p2 p4 p5:Str}(F:Fun K x q st f fd)(hb:∀ kV dc pm an cd ct u1 u2 u3 u4 u5,bindArgs (W.fnOf x q (dm st) (bA st) (au st) .none kV dc pm an cd ct) ⟨[u1,u2,u3,u4,u5],[]⟩=pure [(p1,u1),(p2,u2),(p3,u3),(p4,u4),(p5,u5)]:=by intros;rfl):Binds K fd [p1,p2,p3,p4,p5] []:=F.binds fun kV dc pm an cd ct us hl=>Vg (P:=fun us=>bindArgs _ ⟨us,[]⟩=pure (List.zip _ us)) (hb kV dc pm an cd ct) us hl
end
theorem aU.calm{w:World}{K:W.Frag}{k:Nat}{f:Addr}{ps:ml}(F:aU P w K mg base (CX1 P w) k f fd prs (rJ K ps)):aU P w K mg base CX0 k f fd prs (spQ K fun ts Q=>ps ts Q fun _ _ _=>False) where
 len:=fun vs H Q E h=>by
  obtain⟨dl,ts,G,Qp,h1,h2,h3,h4⟩:=h;exact F.len vs H Q (fun _ _ _=>False) ⟨dl,ts,G,Qp,_,h1,h2,h3,h4,fun _ _ _ _ _ _ _ z=>z⟩
 run:=fun A outer s H args us vs Q E hr he hb hv h=>by
  obtain⟨dl,ts,G,Qp,h1,h2,h3,h4⟩:=h;refine codeAny_mono (F.run A outer s H args us vs Q (fun _ _ _=>False) hr he hb hv ⟨dl,ts,G,Qp,_,h1,h2,h3,h4,fun _ _ _ _ _ _ _ z=>z⟩) fun r s' hq=>?_
  cases r with
  | ok o=>cases o <;> exact hq
  | error e =>
   obtain⟨a,C,dx,T,H',_,_,_,_,_,_,_,_,_,z⟩:=hq;exact z.elim
variable{CX:CXT}
theorem aU.Vm{w:World}{K:W.Frag}{k:Nat}{f:Addr}{ps ps':PSp}(F:aU P w K mg base CX k f fd prs (spQ K ps))(h:∀ ts Q,ps' ts Q->ps ts Q):aU P w K mg base CX k f fd prs (spQ K ps') :=
 F.imp fun vs H Q E z=>by
  obtain⟨dl,ts,G,Qp,h1,h2,h3,h4⟩:=z;exact⟨dl,ts,G,Qp,h1,h2,h _ _ h3,h4⟩
end L2
namespace K11
open PySem L2
def top(i:Nat):Stmt:=PySem.Challenge.pw_pursewright_k11_faults_of_kinds_and_head.main.body.getD i (.Pass ⟨0,0,0,0⟩)
abbrev fns:List Str:=["row","word","name","maker"]
theorem sI:("word":Str)∈fns:=by simp[fns]
theorem sJ:("name":Str)∈fns:=by simp[fns]
theorem wV:FOk "word":=by unfold FOk;rw[typeLookup_type,builtinLookup_eq_fast];kernel_rfl
theorem wW:FOk "name":=by unfold FOk;rw[typeLookup_type,builtinLookup_eq_fast];kernel_rfl
abbrev uW:Stmt:=inClass (top 2) 0
abbrev ie:Stmt:=inClass (top 3) 0
theorem ur:aH ["self","word","name"] ["self","word","name"] (au ie):=⟨rfl,rfl,rfl,by decide +kernel,rfl,by decide +kernel,by decide +kernel⟩
abbrev rO:Stmt:=inClass (top 5) 0
abbrev rP:Stmt:=inClass (top 7) 0
abbrev fT:Stmt:=inClass (top 11) 0
theorem uu:aH ["self","kinds","makers","functions"] ["self","kinds","makers","functions"] (au fT):=⟨rfl,rfl,rfl,by decide +kernel,rfl,by decide +kernel,by decide +kernel⟩
abbrev zm:Stmt:=top 10
theorem ka:aH ["program","kinds","kind","makers","known","function"] ["program"] (au zm):=⟨rfl,rfl,rfl,by decide +kernel,rfl,by decide +kernel,by decide +kernel⟩
abbrev zl:Stmt:=top 12
theorem Br:aH ["known","name"] ["known","name"] (au zl):=⟨rfl,rfl,rfl,by decide +kernel,rfl,by decide +kernel,by decide +kernel⟩
abbrev zu:Stmt:=top 13
theorem Bs:aH ["bound","name","what"] ["bound","name","what"] (au zu):=⟨rfl,rfl,rfl,by decide +kernel,rfl,by decide +kernel,by decide +kernel⟩
abbrev fU:Stmt:=top 14
theorem bP:aH ["kinds","rows","makers","kind","own","maker","fields","field"] ["kinds","rows"] (au fU):=⟨rfl,rfl,rfl,by decide +kernel,rfl,by decide +kernel,by decide +kernel⟩
abbrev dv:Stmt:=top 15
theorem cv:aH ["rows","functions","function","due"] ["rows"] (au dv):=⟨rfl,rfl,rfl,by decide +kernel,rfl,by decide +kernel,by decide +kernel⟩
abbrev et:Stmt:=top 16
theorem cC:aH ["known","function","bound","name","kind"] ["known","function"] (au et):=⟨rfl,rfl,rfl,by decide +kernel,rfl,by decide +kernel,by decide +kernel⟩
abbrev jo:Stmt:=top 17
theorem bU:aH ["known","function","params","waiting","begun","arm","bound","piece","arms"] ["known","function","params"] (au jo):=⟨rfl,rfl,rfl,by decide +kernel,rfl,by decide +kernel,by decide +kernel⟩
abbrev jn:Stmt:=top 18
theorem eY:aH ["arm","fields","above","bound","name","kind"] ["arm","fields","above"] (au jn):=⟨rfl,rfl,rfl,by decide +kernel,rfl,by decide +kernel,by decide +kernel⟩
abbrev ig:Stmt:=top 19
theorem kG:aH ["known","piece","bound","word"] ["known","piece","bound"] (au ig):=⟨rfl,rfl,rfl,by decide +kernel,rfl,by decide +kernel,by decide +kernel⟩
abbrev lH:Stmt:=top 20
theorem cU:aH ["makings","piece","bound","names","name","due","kind"] ["makings","piece","bound"] (au lH):=⟨rfl,rfl,rfl,by decide +kernel,rfl,by decide +kernel,by decide +kernel⟩
abbrev jm:Stmt:=top 21
theorem vS:aH ["bound","name","kind"] ["bound","name","kind"] (au jm):=⟨rfl,rfl,rfl,by decide +kernel,rfl,by decide +kernel,by decide +kernel⟩
abbrev jq:Stmt:=top 22
theorem mK:aH ["known","piece","bound","makers"] ["known","piece","bound"] (au jq):=⟨rfl,rfl,rfl,by decide +kernel,rfl,by decide +kernel,by decide +kernel⟩
abbrev zq:Stmt:=top 24
theorem mL:aH ["_law_script","_law_base","_law_cells","_law_number","_law_cell"] ["_law_script","_law_base"] (au zq):=⟨rfl,rfl,rfl,by decide +kernel,rfl,by decide +kernel,by decide +kernel⟩
abbrev zp:Stmt:=top 25
theorem qM:aH ["_law_deal_here","_law_many","_law_number","_law_one","_law_other"] ["_law_deal_here","_law_many"] (au zp):=⟨rfl,rfl,rfl,by decide +kernel,rfl,by decide +kernel,by decide +kernel⟩
abbrev vT:Stmt:=top 26
theorem cg:aH ["_law_deal_here","_law_many","_law_letters","_law_core","_law_at","_law_turn","_law_found","_law_k","_law_word","_law_near"] ["_law_deal_here","_law_many"] (au vT):=⟨rfl,rfl,rfl,by decide +kernel,rfl,by decide +kernel,by decide +kernel⟩
abbrev vU:Stmt:=top 27
theorem bQ:aH ["_law_deal_here","_law_words_here","_law_turn","_law_m","_law_many","_law_most","_law_some","_law_bare","_law_found","_law_made","_law_k","_law_makers","_law_j","_law_fields"] ["_law_deal_here","_law_words_here"] (au vU):=⟨rfl,rfl,rfl,by decide +kernel,rfl,by decide +kernel,by decide +kernel⟩
abbrev zo:Stmt:=top 28
theorem qL:aH ["_law_deal_here","_law_scope","_law_some","_law_found","_law_kind","_law_own"] ["_law_deal_here","_law_scope","_law_some"] (au zo):=⟨rfl,rfl,rfl,by decide +kernel,rfl,by decide +kernel,by decide +kernel⟩
abbrev vV:Stmt:=top 29
theorem cz:aH ["_law_deal_here","_law_world","_law_scope","_law_f","_law_kinds_here","_law_heads","_law_words_here","_law_kind","_law_own","_law_x","_law_maker","_law_fields","_law_names"] ["_law_deal_here","_law_world","_law_scope","_law_f"] (au vV):=⟨rfl,rfl,rfl,by decide +kernel,rfl,by decide +kernel,by decide +kernel⟩
abbrev zr:Stmt:=top 30
theorem cP:aH ["_law_deal_here","_law_world","_law_scope","_law_f","_law_room","_law_kinds_here","_law_heads","_law_words_here","_law_x","_law_kind","_law_makers","_law_arms","_law_maker","_law_fields","_law_more","_law_names"] ["_law_deal_here","_law_world","_law_scope","_law_f","_law_room"] (au zr):=⟨rfl,rfl,rfl,by decide +kernel,rfl,by decide +kernel,by decide +kernel⟩
abbrev zt:Stmt:=top 31
theorem bV:aH ["_law_deal_here","_law_world","_law_scope","_law_f","_law_room","_law_kinds_here","_law_heads","_law_words_here","_law_form","_law_x","_law_coins","_law_word","_law_y","_law_other","_law_g","_law_names","_law_name","_law_makers","_law_maker","_law_fields"] ["_law_deal_here","_law_world","_law_scope","_law_f","_law_room"] (au zt):=⟨rfl,rfl,rfl,by decide +kernel,rfl,by decide +kernel,by decide +kernel⟩
abbrev oC:Stmt:=top 32
theorem bO:aH ["_law_deal_here","_law_words_here","_law_kinds_here","_law_turn","_law_heads","_law_f","_law_many","_law_params","_law_functions","_law_head","_law_room"] ["_law_deal_here","_law_words_here"] (au oC):=⟨rfl,rfl,rfl,by decide +kernel,rfl,by decide +kernel,by decide +kernel⟩
abbrev Ft:Stmt:=top 33
theorem N2:aH ["_law_row","_law_at","_law_one"] ["_law_row","_law_at","_law_one"] (au Ft):=⟨rfl,rfl,rfl,by decide +kernel,rfl,by decide +kernel,by decide +kernel⟩
abbrev ij:Stmt:=top 34
theorem aB:aH ["_law_deal_here","_law_kinds_here","_law_words_here","_law_form","_law_flat","_law_k","_law_one","_law_name","_law_place","_law_j","_law_makers","_law_maker","_law_fields","_law_a","_law_b","_law_own","_law_some","_law_field","_law_at"] ["_law_deal_here","_law_kinds_here","_law_words_here","_law_form"] (au ij):=⟨rfl,rfl,rfl,by decide +kernel,rfl,by decide +kernel,by decide +kernel⟩
abbrev rT:Stmt:=top 35
theorem kc:aH ["_law_body_here","_law_found","_law_left","_law_piece"] ["_law_body_here"] (au rT):=⟨rfl,rfl,rfl,by decide +kernel,rfl,by decide +kernel,by decide +kernel⟩
abbrev ik:Stmt:=top 36
theorem kH:aH ["_law_program_here","_law_f","_law_own"] ["_law_program_here","_law_f"] (au ik):=⟨rfl,rfl,rfl,by decide +kernel,rfl,by decide +kernel,by decide +kernel⟩
abbrev dw:Stmt:=top 37
theorem aF:aH ["_law_deal_here","_law_program_here","_law_words_here","_law_form","_law_functions","_law_f","_law_name","_law_own","_law_outside","_law_kind","_law_some","_law_params","_law_k"] ["_law_deal_here","_law_program_here","_law_words_here","_law_form"] (au dw):=⟨rfl,rfl,rfl,by decide +kernel,rfl,by decide +kernel,by decide +kernel⟩
abbrev rS:Stmt:=top 38
theorem fg:aH ["_law_deal_here","_law_program_here","_law_words_here","_law_k","_law_form","_law_found"] ["_law_deal_here","_law_program_here","_law_words_here"] (au rS):=⟨rfl,rfl,rfl,by decide +kernel,rfl,by decide +kernel,by decide +kernel⟩
abbrev oB:Stmt:=top 39
theorem rR:aH ["_law_program_here","_law_due","e"] ["_law_program_here","_law_due"] (au oB):=⟨rfl,rfl,rfl,by decide +kernel,rfl,by decide +kernel,by decide +kernel⟩
abbrev du:Stmt:=top 40
theorem mJ:aH ["_law_program_here"] ["_law_program_here"] (au du):=⟨rfl,rfl,rfl,by decide +kernel,rfl,by decide +kernel,by decide +kernel⟩
abbrev pK:Stmt:=top 41
theorem oA:aH ["_law_script","_law_deal_here","_law_words_here","_law_program_here","_law_spoilt_here","_law_due"] ["_law_script"] (au pK):=⟨rfl,rfl,rfl,by decide +kernel,rfl,by decide +kernel,by decide +kernel⟩
set_option genInjectivity false in
structure Adr where
 ax:Addr
 bZ:Addr
 dh:Addr
 vm:FuncData
 aM:Addr
 bI:Addr
 iN:FuncData
 bN:Addr
 bB:Addr
 cF:Addr
 tw:FuncData
 b8:Addr
 bC:Addr
 cG:Addr
 tD:FuncData
 cK:Addr
 aT:Addr
 bG:Addr
 iO:FuncData
 f_look:Addr
 HN:FuncData
 lY:Addr
 AH:FuncData
 l5:Addr
 AJ:FuncData
 cm:Addr
 kM:FuncData
 bL:Addr
 gS:FuncData
 bT:Addr
 i9:FuncData
 cY:Addr
 pT:FuncData
 cX:Addr
 pS:FuncData
 cH:Addr
 nq:FuncData
 dH:Addr
 tG:FuncData
 cW:Addr
 pR:FuncData
 cZ:Addr
 pU:FuncData
 oW:Addr
 HS:FuncData
 oV:Addr
 HR:FuncData
 km:Addr
 Cz:FuncData
 ko:Addr
 CA:FuncData
 oU:Addr
 HQ:FuncData
 kq:Addr
 CB:FuncData
 oX:Addr
 HU:FuncData
 lZ:Addr
 AI:FuncData
 fi:Addr
 vo:FuncData
 vj:Addr
 Nn:FuncData
 cI:Addr
 nt:FuncData
 gP:Addr
 yF:FuncData
 cJ:Addr
 nu:FuncData
 bM:Addr
 gT:FuncData
 gO:Addr
 yE:FuncData
 fh:Addr
 vn:FuncData
 bK:Addr
 gR:FuncData
 vk:Addr
 Np:FuncData
structure Txt(K:W.Frag)(mg:Str->Option Value)(a:Adr):Prop where
 vK:bF K fns a.ax (bmV) none
 uA:mg "PurseError" = some (.ref a.ax)
 Jg:W.keepIn K (.ref a.ax)=true
 ED:bF K fns a.bZ (.ref a.ax::bmV) (some a.dh)
 DG:mg "NoText" = some (.ref a.bZ)
 Qw:W.keepIn K (.ref a.bZ)=true
 pH:Fun K "__init__" "NoText.__init__" uW a.dh a.vm
 Qz:W.isFn K (.ref a.dh)=true
 QL:Binds K a.vm ["self","row"] []
 bc:bF K fns a.aM (.ref a.ax::bmV) (some a.bI)
 iD:mg "NoProgram" = some (.ref a.aM)
 m8:W.keepIn K (.ref a.aM)=true
 fe:Fun K "__init__" "NoProgram.__init__" ie a.bI a.iN
 ni:W.isFn K (.ref a.bI)=true
 nG:Binds K a.iN ["self","word","name"] []
 CZ:bF K fns a.bN (.ref a.ax::bmV) none
 zU:mg "NoValue" = some (.ref a.bN)
 Pe:W.keepIn K (.ref a.bN)=true
 C0:bF K fns a.bB (.ref a.ax::bmV) (some a.cF)
 zV:mg "NoPaper" = some (.ref a.bB)
 Pf:W.keepIn K (.ref a.bB)=true
 mr:Fun K "__init__" "NoPaper.__init__" rO a.cF a.tw
 P0:W.isFn K (.ref a.cF)=true
 Qc:Binds K a.tw ["self","row"] []
 EC:bF K fns a.b8 (.ref a.ax::bmV) none
 DF:mg "NoTurn" = some (.ref a.b8)
 Qv:W.keepIn K (.ref a.b8)=true
 C1:bF K fns a.bC (.ref a.ax::bmV) (some a.cG)
 zW:mg "NoChain" = some (.ref a.bC)
 Pg:W.keepIn K (.ref a.bC)=true
 mv:Fun K "__init__" "NoChain.__init__" rP a.cG a.tD
 P1:W.isFn K (.ref a.cG)=true
 Qd:Binds K a.tD ["self","maker"] []
 JG:bF K fns a.cK (.ref a.ax::bmV) none
 GS:mg "NoRow" = some (.ref a.cK)
 R9:W.keepIn K (.ref a.cK)=true
 d7:Cls K a.aT
 GU:mg "Known" = some (.ref a.aT)
 GZ:Mk K a.aT a.bG
 df:gq K a.aT "kinds"
 i7:gq K a.aT "makers"
 fw:gq K a.aT "functions"
 fc:Fun K "__init__" "Known.__init__" fT a.bG a.iO
 Jf:Meth K a.aT "__init__" a.bG
 xn:Binds K a.iO ["self","kinds","makers","functions"] []
 nd:[a.ax,a.bZ,a.aM,a.bN,a.bB,a.b8,a.bC,a.cK].Nodup
 uh:Dn K mg "look" zm a.f_look a.HN ["program"]
 i3:Dn K mg "need" zl a.lY a.AH ["known","name"]
 bR:Dn K mg "bind" zu a.l5 a.AJ ["bound","name","what"]
 kQ:Dn K mg "look_makers" fU a.cm a.kM ["kinds","rows"]
 g7:Dn K mg "look_functions" dv a.bL a.gS ["rows"]
 jc:Dn K mg "look_function" et a.bT a.i9 ["known","function"]
 p9:Dn K mg "look_body" jo a.cY a.pT ["known","function","params"]
 p8:Dn K mg "look_head" jn a.cX a.pS ["arm","fields","above"]
 ff:Dn K mg "look_piece" ig a.cH a.nq ["known","piece","bound"]
 cT:Dn K mg "look_use" lH a.dH a.tG ["makings","piece","bound"]
 j8:Dn K mg "need_kind" jm a.cW a.pR ["bound","name","kind"]
 qf:Dn K mg "look_arms" jq a.cZ a.pU ["known","piece","bound"]
 xy:Dn K mg "_law_deal" zq a.oW a.HS ["_law_script","_law_base"]
 aK:Dn K mg "_law_draw" zp a.oV a.HR ["_law_deal_here","_law_many"]
 CV:Dn K mg "_law_words" vT a.km a.Cz ["_law_deal_here","_law_many"]
 CW:Dn K mg "_law_kinds" vU a.ko a.CA ["_law_deal_here","_law_words_here"]
 uk:Dn K mg "_law_fill" zo a.oU a.HQ ["_law_deal_here","_law_scope","_law_some"]
 xx:Dn K mg "_law_ended" vV a.kq a.CB ["_law_deal_here","_law_world","_law_scope","_law_f"]
 IJ:Dn K mg "_law_case" zr a.oX a.HU ["_law_deal_here","_law_world","_law_scope","_law_f","_law_room"]
 mw:Dn K mg "_law_body" zt a.lZ a.AI ["_law_deal_here","_law_world","_law_scope","_law_f","_law_room"]
 vF:Dn K mg "_law_program" oC a.fi a.vo ["_law_deal_here","_law_words_here"]
 eV:Dn K mg "_law_set" Ft a.vj a.Nn ["_law_row","_law_at","_law_one"]
 i4:Dn K mg "_law_kind_fault" ij a.cI a.nt ["_law_deal_here","_law_kinds_here","_law_words_here","_law_form"]
 yW:Dn K mg "_law_called" rT a.gP a.yF ["_law_body_here"]
 nT:Dn K mg "_law_first_used" ik a.cJ a.nu ["_law_program_here","_law_f"]
 g8:Dn K mg "_law_function_fault" dw a.bM a.gT ["_law_deal_here","_law_program_here","_law_words_here","_law_form"]
 yV:Dn K mg "_law_spoilt" rS a.gO a.yE ["_law_deal_here","_law_program_here","_law_words_here"]
 ky:Dn K mg "_law_refused" oB a.fh a.vn ["_law_program_here","_law_due"]
 g6:Dn K mg "_law_refused_by_any" du a.bK a.gR ["_law_program_here"]
 Tr:Dn K mg "law" pK a.vk a.Np ["_law_script"]
 bh:mg "len" = none
 S3:mg "any" = none
 A1:mg "list" = none
 dY:mg "tuple" = none
 Nr:mg "str" = none
 A2:mg "dict" = none
 tX:mg "reversed" = none
 Io:mg "max" = none
 e8:mg "range" = none
 e9:mg "isinstance" = none
 Im:mg "zip" = none
 fN:mg "enumerate" = none
 xm:mg "ValueError" = none
def wD:Str:="abcdefghijklmnopqrstuvwxyz"
def Sd:List Str:=["kind","def","to","let","make","call"]
def Sb:List Str:=["name","case","end","pay","get","give"]
def kept:List Str:=Sd++Sb
def near:List Str:=["lets","callx","payer","ender","tom","nameb","makes","gets","giver","kinds","defs","cases"]
theorem B2{i:Int}(h0:0<=i)(h1:i<26):atI (Str.cps wD).toList i=some (qz i.toNat):=by
 obtain⟨n,rfl⟩:∃ n:Nat,i=n:=⟨i.toNat,by omega⟩
 have h2:n<26:=by omega
 have h3:∀ n:Fin 26,atI (Str.cps wD).toList (n.val:Int)=some (qz n.val):=by decide +kernel
 have:=h3 ⟨n,h2⟩
 simpa using this
theorem GR:∀ w∈near,1<=w.length/\w.length<=20:=by decide +kernel
def tM(m:Mk1):T:=.t [.s m.1,.t (m.2.map .s)]
def tMs(ms:List Mk1):T:=.t (ms.map tM)
def tK(k:Kd):T:=.t [.s k.1,tMs k.2]
def tKs(ks:List Kd):T:=.t (ks.map tK)
theorem aO{α:Type}{f:α->T}(h:∀ x,(f x).im=true):∀ xs:List α,T.ims (xs.map f)=true
 | []=>by simp[T.ims]
 | x::r=>by simp[T.ims,h x,aO h r]
theorem jN(m:Mk1):(tM m).im=true:=by simp[tM,T.im,T.ims,aO (f:=T.s) (fun _=>rfl)]
theorem eO(m:List Mk1):(tMs m).im=true:=by simp[tMs,T.im,aO jN]
theorem fB(m:Kd):(tK m).im=true:=by simp[tK,T.im,T.ims,eO]
theorem jO(m:List Kd):(tKs m).im=true:=by simp[tKs,T.im,aO fB]
def KH:PSp:=fun ts Q=>∃ m:Int,ts = [.cq,.i m]/\0<m/\m<=52/\∀ ws:List Str,(ws.length:Int)=m->ws.Nodup ->(∀ w∈ws,1<=w.length/\w.length<=20)->Q (.l (ws.map .s))
variable{ws:List Str}
theorem jM{w:Str}:inT (.s w) (ws.map T.s)=inV (.str w) (ws.map V.str):=by
 unfold inT inV;rw[List.any_map,List.any_map];rfl
theorem fJ(ws:List Str):fls (ws.map T.s)=true:=by
 unfold fls;rw[List.all_map,List.all_eq_true];exact fun _ _=>rfl
theorem az(ws:List Str):T.ims (ws.map T.s)=true:=aO (fun _=>rfl) ws
theorem Ml{i:Int}(h0:0<=i)(h1:i<ws.length):∃ w,atI (ws.map T.s) i=some (.s w)/\w∈ws:=by
 obtain⟨v,e,hm⟩:=Qe (xs:=ws.map T.s) h0 (by simpa using h1)
 obtain⟨w,hw,rfl⟩:=List.mem_map.mp hm;exact⟨w,e,hw⟩
variable{j:Nat}
theorem pQ{w:Str}(h:ws[j]? = some w):atI (ws.map T.s) (j:Int)=some (.s w):=dq (by rw[List.getElem?_map,h];rfl)
theorem HZ{α β:Type}(f:α->β)(xs:List α)(lo hi:Option Int):dI (xs.map f) lo hi =(dI xs lo hi).map f:=by
 unfold dI;rw[List.length_map,<- List.map_drop,<- List.map_take]
theorem Cc(ws:List Str)(lo hi:Option Int):T.ims (dI (ws.map T.s) lo hi)=true:=by rw[HZ];exact az _
theorem BL{x y z r:Int}(h0:0<=r)(h1:r<3):∃ v,atI [T.i x,T.i y,T.i z] r=some (.i v)/\(v=x\/v=y\/v=z):=by
 obtain⟨n,rfl⟩:∃ n:Nat,r=n:=⟨r.toNat,by omega⟩
 match n,h1 with
 | 0,_=>exact⟨x,rfl,.inl rfl⟩
 | 1,_=>exact⟨y,rfl,.inr (.inl rfl)⟩
 | 2,_=>exact⟨z,rfl,.inr (.inr rfl)⟩
 | n+3,h=>omega
structure vA(ws M:List Str)(many:Nat)(ks:List Kd)(k made:Nat):Prop where
 nm:ks.map (·.1)=ws.take k
 mn:names ks=M.take made
 b1:made<=6*k
 ne:∀ k∈ks,k.2 ≠ []/\k.2.length<=6
 fl:∀ k∈ks,∀ m∈k.2,m.2.length<=4/\∀ f∈m.2,f∈ws.take many
variable{ks:List Kd}{ms:List Mk1}
theorem vA.next{M:List Str}{many:Nat}{k made cO:Nat}{n:Str}(D:vA ws M many ks k made)(hn:ws[k]? = some n)(hm:M.take made++ms.map (·.1)=M.take cO)(h0:ms ≠ [])(h1:ms.length<=6)(h2:cO<=made+ms.length)(h3:∀ m∈ms,m.2.length<=4/\∀ f∈m.2,f∈ws.take many) :
  vA ws M many (ks ++ [(n,ms)]) (k+1) cO where
 nm:=by rw[List.map_append,D.nm,<- take_one hn];rfl
 mn:=by
  have:names (ks ++ [(n,ms)])=names ks++ms.map (·.1):=by unfold names;rw[List.flatMap_append];simp
  rw[this,D.mn,hm]
 b1:=by have:=D.b1;omega
 ne:=fun x hx=>by
  rcases List.mem_append.mp hx with h|h
  ·exact D.ne x h
  ·rw[List.mem_singleton.mp h];exact⟨h0,h1⟩
 fl:=fun x hx=>by
  rcases List.mem_append.mp hx with h|h
  ·exact D.fl x h
  ·rw[List.mem_singleton.mp h];exact h3
theorem wM{a b:Str}:decide ((Sum.inr a:Key) = .inr b)=decide (a=b):=by
 by_cases h:a=b
 ·subst h;simp
 ·rw[decide_eq_false h,decide_eq_false fun z=>h (Sum.inr.inj z)]
variable{mg:Str->Option Value}
theorem never{P:Program}{w:World}{K:W.Frag}{base:Heap}{CX:CXT}{k:Nat}{f:Addr}{fd:FuncData}{ps:List Str}{sp:PSp}(h:∀ ts Q,¬ sp ts Q):aU P w K mg base CX k f fd ps (spQ K sp) :=
 ⟨fun _ _ _ _ hz=>by obtain⟨_,ts,_,Qp,_,_,z,_⟩:=hz;exact(h ts Qp z).elim,fun _ _ _ _ _ _ _ _ _ _ _ _ _ hz=>by obtain⟨_,ts,_,Qp,_,_,z,_⟩:=hz;exact(h ts Qp z).elim⟩
def kEn(k:Kd):Key×T:=(.inr k.1,tMs k.2)
theorem so:∀ ks:List Kd,jx (ks.map tK)=some (ks.map kEn)
 | []=>rfl
 | k::r=>by
  show(match(some (.inr k.1):Option Key),jx (r.map tK)with|some k',some r=>some ((k',tMs k.2)::r) | _,_=>none)=_
  rw[so r];rfl
theorem yi:∀{ps acc:List (Key×T)},(ps.map (·.1)).Nodup ->(∀ p∈ps,∀ q∈acc,q.1≠p.1)->dA acc ps=acc++ps
 | [],acc,_,_=>by simp[dA]
 | p::ps,acc,h,hd=>by
  have h':=List.nodup_cons.mp h;have e:oJ acc p.1 p.2=acc ++ [p]:=by
   unfold oJ;rw[if_neg];intro z;obtain⟨q,hq,hz⟩:=List.any_eq_true.mp z;exact hd p (by simp) q hq (of_decide_eq_true hz)
  show dA (oJ acc p.1 p.2) ps=_;rw[e,yi h'.2 fun p' hp' q hq=>?_]
  ·simp
  ·rcases List.mem_append.mp hq with z|z
   ·exact hd p' (by simp[hp']) q z
   ·rw[List.mem_singleton.mp z];exact fun e=>h'.1 (List.mem_map.mpr ⟨p',hp',e.symm⟩)
theorem Lx{k:Str}(h:k∈ks.map (·.1)):a7 (ks.map kEn) (.inr k)=some (tMs (G0 ks k)):=by
 unfold a7 G0
 induction ks with
 | nil=>cases h
 | cons x r ih =>
  by_cases e:x.1=k
  ·rw[List.map_cons,List.find?_cons,List.find?_cons,show(kEn x).1 = .inr x.1 from rfl,wM,decide_eq_true e];rfl
  ·have h':k∈r.map (·.1):=by
    rcases List.mem_cons.mp h with z|z
    ·exact absurd z.symm e
    ·exact z
   rw[List.map_cons,List.find?_cons,List.find?_cons,show(kEn x).1 = .inr x.1 from rfl,wM,decide_eq_false e];exact ih h'
theorem LZ(h:(ks.map (·.1)).Nodup):dA [] (ks.map kEn)=ks.map kEn:=by
 rw[yi]
 ·rfl
 ·rw[List.map_map]
  have:(ks.map ((fun x:Key×T=>x.1) ∘ kEn)) =(ks.map (·.1)).map Sum.inr:=by rw[List.map_map];rfl
  rw[this];exact List.pairwise_map.mpr (h.imp fun hne z=>hne (Sum.inr.inj z))
 ·intro p _ q hq;cases hq
theorem va{k:Str}(g:(ks.map (·.1)).Nodup)(h:k∈ks.map (·.1)):a7 (dA [] (ks.map kEn)) (.inr k)=some (tMs (G0 ks k)):=by rw[LZ g,Lx h]
structure d8(ks:List Kd):Prop where
 k1:1<=ks.length
 k2:ks.length<=6
 nd:(ks.map (·.1)).Nodup
 mn:(names ks).Nodup
 ne:∀ k∈ks,k.2 ≠ []/\k.2.length<=6
 fl:∀ k∈ks,∀ m∈k.2,m.2.length<=4/\∀ f∈m.2,f∈ks.map (·.1)
def KO:PSp:=fun ts Q=>∃ ws:List Str,ts = [.cq,.l (ws.map .s)]/\ws.length=52/\ws.Nodup/\∀ ks,d8 ks->Q (tKs ks)
theorem vA.SJ{M:List Str}{many:Nat}{made:Nat}(D:vA ws M many ks many made)(hw:ws.Nodup)(hM:M.Nodup)(h1:1<=many)(h2:many<=6)(hl:6<=ws.length):d8 ks:=by
 have hlen:ks.length=many:=by
  have:=congrArg List.length D.nm
  rw[List.length_map,List.length_take]at this;omega
 refine⟨by omega,by omega,by rw[D.nm];exact hw.sublist (List.take_sublist _ _),by rw[D.mn];exact hM.sublist (List.take_sublist _ _),D.ne,fun k hk m hm=>?_⟩
 have z:=D.fl k hk m hm;rw[D.nm];exact z
theorem SV{t:Int}(h:ws.length=52)(h0:0<=t)(h1:t<52):dI (ws.map T.s) (some t) none++dI (ws.map T.s) none (some t) =(ws.drop t.toNat++ws.take t.toNat).map T.s:=by
 unfold dI;obtain⟨n,rfl⟩:∃ n:Nat,t=n:=⟨t.toNat,by omega⟩
 have e1:∀ d,HT.sIx (ws.map T.s).length d (some (n:Int))=n:=fun d=>by rw[List.length_map,h,HT.mO];omega
 rw[e1,e1];show(List.drop n (ws.map T.s)).take ((ws.map T.s).length - n)++(List.drop 0 (ws.map T.s)).take (n - 0)=_;rw[List.take_of_length_le (by rw[List.length_drop];omega),List.drop_zero,List.map_append,List.map_drop,List.map_take]
 rfl
theorem Ip{r:Int}(h0:0<=r)(h1:r.toNat<ws.length):atI (ws.map L2.T.s) r=some (.s ws[r.toNat]):=by
 have:=pQ (ws:=ws) (j:=r.toNat) (w:=ws[r.toNat]) (by simp[h1])
 rwa [Int.toNat_of_nonneg h0]at this
abbrev Sc:=List (Str×Str)
def tP(p:Str×Str):T:=.t [.s p.1,.s p.2]
theorem dg(p:Str×Str):(tP p).im=true:=rfl
def Fills(sc:Sc)(ns fs:List Str):Prop:=ns.length=fs.length/\∀ p∈ns.zip fs,p∈sc
variable{sc:Sc}{ns:List Str}
theorem Fills.snoc{fs:List Str}{n f:Str}(h:Fills sc ns fs)(hp:(n,f)∈sc):Fills sc (ns ++ [n]) (fs ++ [f]):=by
 refine⟨by simp[h.1],fun p hp'=>?_⟩
 rw[List.zip_append h.1]at hp';rcases List.mem_append.mp hp' with z|z
 ·exact h.2 p z
 ·simp at z;rw[z];exact hp
def zI:PSp:=fun ts Q=>∃(sc:Sc)(fs:List Str)(t:T),(t = .t (fs.map .s)\/t = .l (fs.map .s))/\ts = [.cq,.l (sc.map tP),t]/\sc.length<=60/\fs.length<=1000/\Q .n/\∀ ns:List Str,Fills sc ns fs->Q (.t (ns.map .s))
abbrev Hd:=Str×Sc×Str
def tH(h:Hd):T:=.t [.s h.1,.t (h.2.1.map tP),.s h.2.2]
theorem Sk(h:Hd):(tH h).im=true:=by
 show(true&&(T.ims (h.2.1.map tP)&&true))=true;rw[aO dg];rfl
def tW(ks:List Kd)(hs:List Hd)(ws:List Str):T:=.t [tKs ks,.l (hs.map tH),.l (ws.map .s)]
structure Wld(ks:List Kd)(hs:List Hd)(ws:List Str):Prop where
 gk:d8 ks
 wl:ws.length=52
 wn:ws.Nodup
 h1:1<=hs.length
 h8:hs.length<=8
 hn:(hs.map (·.1)).Nodup
 hp:∀ h∈hs,h.2.1.length<=4/\(∀ p∈h.2.1,p.2∈ks.map (·.1))/\h.2.1.map (·.1)=ws.take h.2.1.length/\h.2.2∈ks.map (·.1)
structure t7(ks:List Kd)(ws:List Str)(h:Hd)(sc:Sc):Prop where
 nm:sc.map (·.1)=ws.take sc.length
 ln:sc.length<=40
 kd:∀ p∈sc,p.2∈ks.map (·.1)
 p1:h.2.1.length<=sc.length
 pf:sc.take h.2.1.length=h.2.1
abbrev Arm:=Str×List Str×T×Nat
def tA(a:Arm):T:=.t [.s a.1,.t (a.2.1.map .s),a.2.2.1]
inductive Snd(ks:List Kd)(hs:List Hd)(r:Str):Nat->Sc->T->Prop
 | give{sc:Sc}{x:Str}:(x,r)∈sc->Snd ks hs r 1 sc (.t [.s "give",.s x])
 | kN{n:Nat}{sc:Sc}{w:Str}{c:Int}{b:T}:(w = "pay" \/ w = "get")->Snd ks hs r n sc b->Snd ks hs r (n+1) sc (.t [.s w,.i c,b])
 | name{n:Nat}{sc:Sc}{x y k:Str}{b:T}:(y,k)∈sc->x ∉ sc.map (·.1)->Snd ks hs r n (sc ++ [(x,k)]) b->Snd ks hs r (n+1) sc (.t [.s "name",.s x,.s y,b])
 | make{n:Nat}{sc:Sc}{x:Str}{m:Mk1}{kd:Kd}{ns:List Str}{b:T}:kd∈ks->m∈kd.2->Fills sc ns m.2->x ∉ sc.map (·.1)->Snd ks hs r n (sc ++ [(x,kd.1)]) b->Snd ks hs r (n+1) sc (.t [.s "make",.s x,.s m.1,.t (ns.map .s),b])
 | call{n:Nat}{sc:Sc}{x:Str}{h:Hd}{ns:List Str}{b:T}:h∈hs->Fills sc ns (h.2.1.map (·.2))->x ∉ sc.map (·.1)->Snd ks hs r n (sc ++ [(x,h.2.2)]) b->Snd ks hs r (n+1) sc (.t [.s "call",.s x,.s h.1,.t (ns.map .s),b])
 | case{sc:Sc}{x:Str}{kd:Kd}(arms:List Arm):(x,kd.1)∈sc->kd∈ks->arms.map (·.1)=kd.2.map (·.1) ->
   (∀(i:Nat)(a:Arm)(m:Mk1),arms[i]? = some a->kd.2[i]? = some m->a.2.1.length=m.2.length/\(sc.map (·.1)++a.2.1).Nodup) ->
   (∀(i:Nat)(a:Arm)(m:Mk1),arms[i]? = some a->kd.2[i]? = some m->Snd ks hs r a.2.2.2 (sc++a.2.1.zip m.2) a.2.2.1) ->
   Snd ks hs r (1+(arms.map (·.2.2.2)).sum) sc (.t [.s "case",.s x,.t (arms.map tA)])
theorem Snd.im{ks:List Kd}{hs:List Hd}{r:Str}{n:Nat}{sc:Sc}{b:T}(h:Snd ks hs r n sc b):b.im=true:=by
 induction h with
 | give _=>rfl
 | kN _ _ ih=>show(true&&(true&&(T.im _&&true)))=true;rw[ih];rfl
 | name _ _ _ ih=>show(true&&(true&&(true&&(T.im _&&true))))=true;rw[ih];rfl
 | make _ _ _ _ _ ih=>show(true&&(true&&(true&&(T.ims _&&(T.im _&&true)))))=true;rw[ih,az];rfl
 | call _ _ _ _ ih=>show(true&&(true&&(true&&(T.ims _&&(T.im _&&true)))))=true;rw[ih,az];rfl
 | @case sc x kd arms _ _ hn _ _ ih =>
  show(true&&(true&&(T.ims (arms.map tA)&&true)))=true
  have:T.ims (arms.map tA)=true:=by
   have go:∀(l:List T),(∀ t∈l,t.im=true)->T.ims l=true:=by
    intro l
    induction l with
    | nil=>intro _;rfl
    | cons t r ih=>intro h;show(t.im&&T.ims r)=true;rw[h t List.mem_cons_self,ih fun t ht=>h t (List.mem_cons_of_mem _ ht)];rfl
   refine go _ fun t ht=>?_
   obtain⟨a,ha,rfl⟩:=List.mem_map.mp ht;obtain⟨i,hi,e⟩:=List.getElem_of_mem ha;have hl:kd.2.length=arms.length:=by have:=congrArg List.length hn;simpa using this.symm
   have z:=ih i a (kd.2[i]'(by omega)) (by rw[List.getElem?_eq_getElem hi,e]) (List.getElem?_eq_getElem _)
   show(true&&(T.ims (a.2.1.map .s)&&(a.2.2.1.im&&true)))=true;rw[z,az];rfl
  rw[this];rfl
def tb:Nat->List Nat
 | 0=>[2]
 | n+1=>(1+max ((tb n).getD 0 2) (max ((tb n).getD 1 2) (max (2*(tb n).getD 2 2) (max (3*(tb n).getD 3 2) (max (4*(tb n).getD 4 2) (max (5*(tb n).getD 5 2) (6*(tb n).getD 6 2)))))))::tb n
def sz(n:Nat):Nat:=(tb n).getD 0 2
theorem ji:∀ n k:Nat,(tb n).getD k 2=sz (n - k)
 | 0,0=>rfl
 | 0,k+1=>by rw[Nat.zero_sub];rfl
 | n+1,0=>rfl
 | n+1,k+1=>by
  rw[Nat.add_sub_add_right,<- ji n k];rfl
theorem Bj(n:Nat):sz (n+1)=1+max (sz n) (max (sz (n - 1)) (max (2*sz (n - 2)) (max (3*sz (n - 3)) (max (4*sz (n - 4)) (max (5*sz (n - 5)) (6*sz (n - 6))))))):=by
 show 1+max ((tb n).getD 0 2) _=_;rw[ji,ji,ji,ji,ji,ji,ji];rfl
theorem zd(n:Nat):1+sz n<=sz (n+1):=by rw[Bj];omega
theorem EX:∀ n:Nat,2<=sz n
 | 0=>Nat.le_refl _
 | n+1=>by have:=zd n;have:=EX n;omega
variable{n:Nat}
theorem JN{k:Nat}(h1:1<=k)(h6:k<=6):1+k*sz (n - k)<=sz (n+1):=by
 rw[Bj]
 have:k=1\/k=2\/k=3\/k=4\/k=5\/k=6:=by omega
 rcases this with rfl|rfl|rfl|rfl|rfl|rfl <;> omega
theorem JM{m:Nat}(h:n<=m):sz n<=sz m:=by
 induction h with
 | refl=>exact Nat.le_refl _
 | step _ ih=>exact Nat.le_trans ih (Nat.le_trans (Nat.le_add_left _ _) (zd _))
theorem Q0:sz 30<=50000:=by decide +kernel
variable{kd:Kd}
theorem yj(g:(ks.map (·.1)).Nodup)(h:kd∈ks):G0 ks kd.1=kd.2:=by
 unfold G0
 induction ks with
 | nil=>cases h
 | cons x r ih =>
  rw[List.map_cons,List.nodup_cons]at g;by_cases e:x.1=kd.1
  ·rcases List.mem_cons.mp h with z|z
   ·subst z;simp
   ·exact absurd (List.mem_map.mpr ⟨kd,z,e.symm⟩) g.1
  ·rw[List.find?_cons,decide_eq_false e];rcases List.mem_cons.mp h with z|z
   ·exact absurd (by rw[z]) e
   ·exact ih g.2 z
theorem MV{k:Str}(h:k∈ks.map (·.1)):∃ kd∈ks,kd.1=k:=by
 obtain⟨kd,h1,h2⟩:=List.mem_map.mp h;exact⟨kd,h1,h2⟩
variable{x:Str}
theorem t7.fresh{h:Hd}(S:t7 ks ws h sc)(wn:ws.Nodup)(hx:ws[sc.length]? = some x):x ∉ sc.map (·.1):=by
 rw[S.nm];intro z;have q:=wn.sublist (List.take_sublist (sc.length+1) ws);rw[<- take_one hx]at q;exact(List.nodup_append.mp q).2.2 x z x (by simp) rfl
theorem t7.snoc{h:Hd}{k:Str}(S:t7 ks ws h sc)(hx:ws[sc.length]? = some x)(hl:sc.length<40)(hk:k∈ks.map (·.1)):t7 ks ws h (sc ++ [(x,k)]) where
 nm:=by rw[List.map_append,S.nm,List.length_append];exact take_one hx
 ln:=by rw[List.length_append];simp;omega
 kd:=fun p hp=>by
  rcases List.mem_append.mp hp with z|z
  ·exact S.kd p z
  ·rw[List.mem_singleton.mp z];exact hk
 p1:=by rw[List.length_append];have:=S.p1;omega
 pf:=by rw[List.take_append_of_le_length S.p1];exact S.pf
def qS:PSp:=fun ts Q=>∃(ks:List Kd)(hs:List Hd)(ws:List Str)(sc:Sc)(f:Nat)(h:Hd),ts = [.cq,tW ks hs ws,.l (sc.map tP),.i f]/\Wld ks hs ws/\hs[f]? = some h/\t7 ks ws h sc/\∀ n b,n<=2->Snd ks hs h.2.2 n sc b->Dep 2 b->Q b
def lK(N:Nat):PSp:=fun ts Q=>∃(ks:List Kd)(hs:List Hd)(ws:List Str)(sc:Sc)(f:Nat)(h:Hd)(u:Int),ts = [.cq,tW ks hs ws,.l (sc.map tP),.i f,.rm u]/\Wld ks hs ws/\hs[f]? = some h/\t7 ks ws h sc/\sc.length<=21/\u.toNat<N/\∀ n b,n<=sz u.toNat->Snd ks hs h.2.2 n sc b->Dep (3*u.toNat+2) b->Q b
def Oz(N:Nat):PSp:=fun ts Q=>∃(ks:List Kd)(hs:List Hd)(ws:List Str)(sc:Sc)(f:Nat)(h:Hd)(u:Int),ts = [.cq,tW ks hs ws,.l (sc.map tP),.i f,.rm u]/\Wld ks hs ws/\hs[f]? = some h/\t7 ks ws h sc/\sc.length<=17/\sc ≠ []/\u.toNat<N/\∀ n b,n<=sz (u.toNat+1)->Snd ks hs h.2.2 n sc b->Dep (3*u.toNat+5) b->Q b
theorem tI{α:Type}{xs:List α}(h:n<=xs.length):dI xs none (some (n:Int))=xs.take n:=by
 unfold dI;rw[HT.mM,HT.mO,Nat.min_eq_left h,List.drop_zero,Nat.sub_zero]
theorem Fills.self:Fills sc ((sc.take n).map (·.1)) ((sc.take n).map (·.2)):=by
 refine⟨by simp,fun p hp=>?_⟩
 rw[List.zip_map',List.mem_map]at hp;obtain⟨q,hq,rfl⟩:=hp;exact List.mem_of_mem_take hq
theorem qG{fs:List Str}(h:ns.length=fs.length):(ns.zip fs).map (·.1)=ns:=by
 rw[List.map_fst_zip (by omega)]
theorem t7.more{h:Hd}{fs:List Str}(S:t7 ks ws h sc)(wn:ws.Nodup)(e:ns =(ws.drop sc.length).take fs.length)(hl:sc.length+fs.length<=40)(hw:40<=ws.length)(hk:∀ f∈fs,f∈ks.map (·.1)) :
  ns.length=fs.length/\(sc.map (·.1)++ns).Nodup/\t7 ks ws h (sc++ns.zip fs):=by
 have l1:ns.length=fs.length:=by rw[e,List.length_take,List.length_drop];omega
 have e2:sc.map (·.1)++ns=ws.take (sc.length+fs.length):=by rw[S.nm,e,List.take_add]
 have lz:(ns.zip fs).length=fs.length:=by rw[List.length_zip];omega
 refine⟨l1,by rw[e2];exact wn.sublist (List.take_sublist _ _),⟨?_,?_,fun p hp=>?_,?_,?_⟩⟩
 ·rw[List.map_append,qG l1,e2,List.length_append,lz]
 ·rw[List.length_append,lz];omega
 ·rcases List.mem_append.mp hp with z|z
  ·exact S.kd p z
  ·exact hk p.2 (List.of_mem_zip z).2
 ·rw[List.length_append];have:=S.p1;omega
 ·rw[List.take_append_of_le_length S.p1];exact S.pf
variable{arms:List Arm}{B:Nat}
theorem NP(h:∀ a∈arms,a.2.2.2<=B):(arms.map (·.2.2.2)).sum<=arms.length*B:=by
 induction arms with
 | nil=>simp
 | cons a r ih =>
  have h1:=h a List.mem_cons_self;have h2:=ih fun b hb=>h b (List.mem_cons_of_mem _ hb)
  rw[List.map_cons,List.sum_cons,List.length_cons,Nat.add_mul];omega
structure Ny(ks:List Kd)(hs:List Hd)(r:Str)(sc:Sc)(B D:Nat)(a:Arm)(m:Mk1):Prop where
 nm:a.1=m.1
 ln:a.2.1.length=m.2.length
 nd:(sc.map (·.1)++a.2.1).Nodup
 sn:Snd ks hs r a.2.2.2 (sc++a.2.1.zip m.2) a.2.2.1
 sz:a.2.2.2<=B
 dp:Dep D a.2.2.1
structure uQ(ks:List Kd)(hs:List Hd)(r:Str)(sc:Sc)(B D:Nat)(arms:List Arm)(ms:List Mk1):Prop where
 ln:arms.length=ms.length
 ok:∀(i:Nat)(a:Arm)(m:Mk1),arms[i]? = some a->ms[i]? = some m->Ny ks hs r sc B D a m
variable{hs:List Hd}{r:Str}{D:Nat}{m:Mk1}
theorem uQ.snoc{a:Arm}(h:uQ ks hs r sc B D arms ms)(ha:Ny ks hs r sc B D a m):uQ ks hs r sc B D (arms ++ [a]) (ms ++ [m]):=by
 refine⟨by simp[h.ln],fun i a' m' h1 h2=>?_⟩
 by_cases hi:i<arms.length
 ·rw[List.getElem?_append_left hi]at h1;rw[List.getElem?_append_left (by rw[<- h.ln];exact hi)]at h2
  exact h.ok i a' m' h1 h2
 ·rw[List.getElem?_append_right (by omega)]at h1
  rw[List.getElem?_append_right (by rw[<- h.ln];omega),<- h.ln]at h2
  have hi0:i - arms.length=0:=by
   have:=(List.getElem?_eq_some_iff.mp h1).1
   simp at this;omega
  rw[hi0]at h1 h2;simp at h1 h2;subst h1 h2;exact ha
theorem uQ.snd(h:uQ ks hs r sc B D arms kd.2)(hx:(x,kd.1)∈sc)(hk:kd∈ks):Snd ks hs r (1+(arms.map (·.2.2.2)).sum) sc (.t [.s "case",.s x,.t (arms.map tA)])/\(arms.map (·.2.2.2)).sum<=arms.length*B:=by
 refine⟨.case arms hx hk ?_ (fun i a m h1 h2=>⟨(h.ok i a m h1 h2).ln,(h.ok i a m h1 h2).nd⟩) (fun i a m h1 h2=>(h.ok i a m h1 h2).sn),NP fun a ha=>?_⟩
 ·apply List.ext_getElem?
  intro i;rw[List.getElem?_map,List.getElem?_map];by_cases hi:i<arms.length
  ·have e1:=List.getElem?_eq_getElem hi;have e2:kd.2[i]? = some (kd.2[i]'(by rw[<- h.ln];exact hi)):=List.getElem?_eq_getElem _
   rw[e1,e2];exact congrArg some (h.ok i _ _ e1 e2).nm
  ·rw[List.getElem?_eq_none (by omega),List.getElem?_eq_none (by rw[<- h.ln];omega)]
   rfl
 ·obtain⟨i,hi,e⟩:=List.getElem_of_mem ha;exact(h.ok i a _ (by rw[List.getElem?_eq_getElem hi,e]) (List.getElem?_eq_getElem (by rw[<- h.ln];exact hi))).sz
theorem gd{α:Type}{xs:List α}{f:α->T}{r:Int}(h0:0<=r)(h1:r<xs.length):∃ x∈xs,atI (xs.map f) r=some (f x):=by
 have h:r.toNat<xs.length:=by omega
 refine⟨xs[r.toNat],List.getElem_mem h,?_⟩
 have:=dq (xs:=xs.map f) (j:=r.toNat) (v:=f xs[r.toNat]) (by rw[List.getElem?_map,List.getElem?_eq_getElem h];rfl)
 rwa [Int.toNat_of_nonneg h0]at this
theorem max_two{r r':Int}(r0:0<=r)(r1:r<n)(r0':0<=r')(r1':r'<n):0 <=(if r' > r then r' else r)/\(if r' > r then r' else r)<n:=by split <;> omega
theorem xB{α β:Type}{A:List α}{B:List β}{a:α}{b:β}(ha:A[j]? = some a)(hb:B[j]? = some b):(A.take (j+1)).zip (B.take (j+1)) =(A.take j).zip (B.take j) ++ [(a,b)]:=by
 have h1:=(List.getElem?_eq_some_iff.mp ha).1;have h2:=(List.getElem?_eq_some_iff.mp hb).1;rw[List.take_add_one,List.take_add_one,ha,hb,List.zip_append (by rw[List.length_take,List.length_take];omega)]
 rfl
theorem uQ.im{ks:List Kd}{hs:List Hd}{r:Str}{sc:Sc}{B D:Nat}{arms:List Arm}{ms:List Mk1}(h:uQ ks hs r sc B D arms ms):T.ims (arms.map tA)=true:=by
 have go:∀(l:List T),(∀ t∈l,t.im=true)->T.ims l=true:=by
  intro l
  induction l with
  | nil=>intro _;rfl
  | cons t r ih=>intro h;show(t.im&&T.ims r)=true;rw[h t List.mem_cons_self,ih fun t ht=>h t (List.mem_cons_of_mem _ ht)];rfl
 refine go _ fun t ht=>?_
 obtain⟨a,ha,rfl⟩:=List.mem_map.mp ht;obtain⟨i,hi,e⟩:=List.getElem_of_mem ha;have z:=(h.ok i a _ (by rw[List.getElem?_eq_getElem hi,e]) (List.getElem?_eq_getElem (by rw[<- h.ln];exact hi))).sn.im
 show(true&&(T.ims (a.2.1.map .s)&&(a.2.2.1.im&&true)))=true;rw[z,az];rfl
theorem yD{l:List Str}:Dep (n+1) (.t (l.map .s)):=Dep.t fun x hx=>by
 obtain⟨z,_,rfl⟩:=List.mem_map.mp hx;exact Dep.s
theorem kr:∀ x∈([]:List T),Dep n x:=fun _ z=>nomatch z
theorem c5{t:T}{ts:List T}(h:Dep n t)(hs:∀ x∈ts,Dep n x):∀ x∈t::ts,Dep n x:=fun x hx=>(List.mem_cons.mp hx).elim (fun e=>e▸h) (hs x)
theorem tE:Dep (n+1) (.t [.s "give",.s x]):=Dep.t (c5 Dep.s (c5 Dep.s kr))
theorem DY{w:Str}{c:Int}{b:T}(h:Dep D b):Dep (D+1) (.t [.s w,.i c,b]):=Dep.t (c5 Dep.s (c5 Dep.i (c5 h kr)))
variable{y:Str}
theorem HK{w:Str}{b:T}(h:Dep D b):Dep (D+1) (.t [.s w,.s x,.s y,b]):=Dep.t (c5 Dep.s (c5 Dep.s (c5 Dep.s (c5 h kr))))
theorem nk{w:Str}{b:T}(h:Dep D b)(h1:1<=D):Dep (D+1) (.t [.s w,.s x,.s y,.t (ns.map .s),b]):=by
 obtain⟨k,rfl⟩:∃ k,D=k+1:=⟨D - 1,by omega⟩
 exact Dep.t (c5 Dep.s (c5 Dep.s (c5 Dep.s (c5 yD (c5 h kr)))))
theorem uQ.dep(h:uQ ks hs r sc B D arms ms)(h1:1<=D):Dep (D+3) (.t [.s "case",.s x,.t (arms.map tA)]):=by
 obtain⟨k,rfl⟩:∃ k,D=k+1:=⟨D - 1,by omega⟩
 refine Dep.t (c5 Dep.s (c5 Dep.s (c5 (Dep.t fun t ht=>?_) kr)))
 obtain⟨a,ha,rfl⟩:=List.mem_map.mp ht;obtain⟨i,hi,e⟩:=List.getElem_of_mem ha;exact Dep.t (c5 Dep.s (c5 yD (c5 (h.ok i a _ (by rw[List.getElem?_eq_getElem hi,e]) (List.getElem?_eq_getElem (by rw[<- h.ln];exact hi))).dp kr)))
abbrev Fn:=Hd×T×Nat
def tF(f:Fn):T:=.t [.s f.1.1,.t (f.1.2.1.map tP),.s f.1.2.2,f.2.1]
structure Prog(ks:List Kd)(fs:List Fn):Prop where
 gk:d8 ks
 l8:fs.length<=8
 hn:(fs.map (·.1.1)).Nodup
 pk:∀ f∈fs,f.1.2.1.length<=4/\(∀ p∈f.1.2.1,p.2∈ks.map (·.1))/\(f.1.2.1.map (·.1)).Nodup/\f.1.2.2∈ks.map (·.1)
 sn:∀ f∈fs,Snd ks (fs.map (·.1)) f.1.2.2 f.2.2 f.1.2.1 f.2.1/\f.2.2<=50000
 dp:∀ f∈fs,Dep 92 f.2.1
def Dr:PSp:=fun ts Q=>∃ ws:List Str,ts = [.cq,.l (ws.map .s)]/\ws.length=52/\ws.Nodup/\∀ ks fs,Prog ks fs->Q (.t [tKs ks,.t (fs.map tF)])
structure vC(ks:List Kd)(ws:List Str)(t:Nat)(hs:List Hd)(i:Nat):Prop where
 ln:hs.length=i
 nm:hs.map (fun h=>some h.1) =(List.range i).map fun f=>ws[(t+f) % 52]?
 hp:∀ h∈hs,h.2.1.length<=4/\(∀ p∈h.2.1,p.2∈ks.map (·.1))/\h.2.1.map (·.1)=ws.take h.2.1.length/\h.2.2∈ks.map (·.1)
theorem vC.snoc{t:Nat}{i:Nat}{h:Hd}(H:vC ks ws t hs i)(hn:ws[(t+i) % 52]? = some h.1)(hp:h.2.1.length<=4/\(∀ p∈h.2.1,p.2∈ks.map (·.1))/\h.2.1.map (·.1)=ws.take h.2.1.length/\h.2.2∈ks.map (·.1)):vC ks ws t (hs ++ [h]) (i+1) where
 ln:=by simp[H.ln]
 nm:=by rw[List.map_append,H.nm,List.range_succ,List.map_append];simp[hn]
 hp:=fun h' hm=>by
  rcases List.mem_append.mp hm with z|z
  ·exact H.hp h' z
  ·rw[List.mem_singleton.mp z];exact hp
theorem vC.nd{t:Nat}{i:Nat}(H:vC ks ws t hs i)(hl:ws.length=52)(wn:ws.Nodup)(hi:i<=8):(hs.map (·.1)).Nodup:=by
 have e:(hs.map (·.1)).map some =(List.range i).map fun f=>ws[(t+f) % 52]?:=by rw[<- H.nm,List.map_map];rfl
 have n:((List.range i).map fun f=>ws[(t+f) % 52]?).Nodup:=by
  refine List.pairwise_map.mpr (List.Pairwise.imp_of_mem (fun{a b} ha hb hne z=>?_) (List.nodup_range (n:=i)))
  have ha:=List.mem_range.mp ha;have hb:=List.mem_range.mp hb;have l1:(t+a) % 52<ws.length:=by omega
  have l2:(t+b) % 52<ws.length:=by omega
  have e2:ws[(t+a) % 52]? = ws[(t+b) % 52]?:=z
  have:=(List.getElem?_inj l1 wn).mp e2
  omega
 rw[<- e]at n;exact(List.pairwise_map.mp n).imp fun hne z=>hne (by rw[z])
def en{α:Type}(g:α->T)(xs:List (Str×α)):List (Key×T):=xs.map fun p=>(.inr p.1,g p.2)
theorem qZ{α:Type}{g:α->T}{xs:List (Str×α)}(h:x ∉ xs.map (·.1)):a7 (en g xs) (.inr x)=none:=by
 unfold a7 en;rw[Option.map_eq_none_iff,List.find?_eq_none];intro p hp;obtain⟨q,hq,rfl⟩:=List.mem_map.mp hp;simp only[wM,decide_eq_true_eq];exact fun z=>h (List.mem_map.mpr ⟨q,hq,z⟩)
theorem fM{α:Type}{g:α->T}{xs:List (Str×α)}{v:α}(n:(xs.map (·.1)).Nodup)(h:(x,v)∈xs):a7 (en g xs) (.inr x)=some (g v):=by
 induction xs with
 | nil=>cases h
 | cons p r ih =>
  rw[List.map_cons,List.nodup_cons]at n;unfold a7 en;rw[List.map_cons,List.find?_cons,wM];by_cases e:p.1=x
  ·rw[decide_eq_true e];rcases List.mem_cons.mp h with z|z
   ·rw[<- z];rfl
   ·exact absurd (List.mem_map.mpr ⟨(x,v),z,rfl⟩) (by rw[<- e];exact n.1)
  ·rw[decide_eq_false e];rcases List.mem_cons.mp h with z|z
   ·exact absurd (by rw[<- z]) e
   ·exact ih n.2 z
theorem l7{α:Type}{g:α->T}{xs:List (Str×α)}{v:α}(h:x ∉ xs.map (·.1)):oJ (en g xs) (.inr x) (g v)=en g (xs ++ [(x,v)]):=by
 unfold oJ;rw[if_neg]
 ·unfold en;rw[List.map_append];rfl
 ·intro z;obtain⟨q,hq,hz⟩:=List.any_eq_true.mp z;obtain⟨p,hp,rfl⟩:=List.mem_map.mp hq;exact h (List.mem_map.mpr ⟨p,hp,Sum.inr.inj (of_decide_eq_true hz)⟩)
theorem bY{α:Type}{g:α->T}(hg:∀ v,(g v).im=true):∀ xs:List (Str×α),T.imk (en g xs)=true
 | []=>rfl
 | p::r=>by
  show((g p.2).im&&T.imk (en g r))=true;rw[hg,bY hg r];rfl
theorem l9{α:Type}{g:α->T}{xs:List (Str×α)}:(en g xs).length=xs.length:=by unfold en;rw[List.length_map]
theorem Ce{ks:List (Key×T)}{k:Key}{v:T}(h:T.imk ks=true)(hv:v.im=true):T.imk (oJ ks k v)=true:=by
 unfold oJ
 split
 ·rename_i z;clear z
  induction ks with
  | nil=>rfl
  | cons p r ih =>
   have h:(p.2.im&&T.imk r)=true:=h;rw[Bool.and_eq_true]at h;rw[List.map_cons]
   split
   ·show(v.im&&T.imk _)=true;rw[hv,ih h.2];rfl
   ·show(p.2.im&&T.imk _)=true;rw[h.1,ih h.2];rfl
 ·rename_i z;clear z
  induction ks with
  | nil=>show(v.im&&true)=true;rw[hv];rfl
  | cons p r ih =>
   have h:(p.2.im&&T.imk r)=true:=h;rw[Bool.and_eq_true]at h;show(p.2.im&&T.imk (r ++ [(k,v)]))=true;rw[h.1,ih h.2];rfl
def Oy:PSp:=fun ts Q=>∃(m:T)(ks:List (Key×T))(x:Str),ts = [m,.s x]/\m.dof=some ks/\(a7 ks (.inr x)).isSome=true/\Q .n
def OA:PSp:=fun ts Q=>∃(a:Addr)(ks:List (Key×T))(x:Str)(v:T),ts = [.dp a ks,.s x,v]/\a7 ks (.inr x)=none/\T.imk ks=true/\v.im=true/\ks.length<sizeLine/\Q (.dp a (oJ ks (.inr x) v))
def zD:PSp:=fun ts Q=>∃(m:T)(ks:List (Key×T))(x k:Str),ts = [m,.s x,.s k]/\m.dof=some ks/\a7 ks (.inr x)=some (.s k)/\Q .n
structure GW(ks:List Kd):Prop where
 k2:ks.length<=6
 nd:(ks.map (·.1)).Nodup
 mn:(names ks).Nodup
 ne:∀ k∈ks,k.2.length<=6
 fl:∀ k∈ks,∀ m∈k.2,m.2.length<=4/\∀ f∈m.2,f∈ks.map (·.1)
theorem d8.w(g:d8 ks):GW ks:=⟨g.k2,g.nd,g.mn,fun k hk=>(g.ne k hk).2,g.fl⟩
abbrev Mw:=List Str×Str
def gM(v:Mw):T:=.t [.t (v.1.map .s),.s v.2]
theorem kK(v:Mw):(gM v).im=true:=by
 show(T.ims (v.1.map .s)&&(true&&true))=true;rw[az];rfl
def mkL(ks:List Kd):List (Str×Mw):=ks.flatMap fun kd=>kd.2.map fun m=>(m.1,(m.2,kd.1))
def hsL(hs:List Hd):List (Str×Mw):=hs.map fun h=>(h.1,(h.2.1.map (·.2),h.2.2))
theorem oN(ks:List Kd):(mkL ks).map (·.1)=names ks:=by
 unfold mkL names;rw[List.map_flatMap]
 congr
 funext kd
 rw[List.map_map];rfl
theorem B1(h1:kd∈ks)(h2:m∈kd.2):(m.1,(m.2,kd.1))∈mkL ks:=List.mem_flatMap.mpr ⟨kd,h1,List.mem_map.mpr ⟨m,h2,rfl⟩⟩
theorem ve(hs:List Hd):(hsL hs).map (·.1)=hs.map (·.1):=by unfold hsL;rw[List.map_map];rfl
theorem LL{h:Hd}(h1:h∈hs):(h.1,(h.2.1.map (·.2),h.2.2))∈hsL hs:=List.mem_map.mpr ⟨h,h1,rfl⟩
theorem rH{α:Type}{xs:List α}{i:Nat}{x:α}(h:xs[i]? = some x):xs=xs.take i++x::xs.drop (i+1):=by
 obtain⟨hl,e⟩:=List.getElem?_eq_some_iff.mp h;rw[<- e,<- List.drop_eq_getElem_cons hl,List.take_append_drop]
def mkR(kd:Kd)(m:Mk1):Str×Mw:=(m.1,(m.2,kd.1))
theorem G5{i:Nat}(h:ks[i]? = some kd):mkL (ks.take (i+1))=mkL (ks.take i)++kd.2.map (mkR kd):=by
 unfold mkL;rw[List.take_add_one,h,List.flatMap_append];simp[mkR]
theorem Lu(h6:ks.length<=6)(h:∀ k∈ks,k.2.length<=6):(mkL ks).length<=36:=by
 have go:∀ l:List Kd,(∀ k∈l,k.2.length<=6) ->(mkL l).length<=6*l.length:=by
  intro l
  induction l with
  | nil=>intro _;simp[mkL]
  | cons k r ih =>
   intro h
   have:=ih fun k hk=>h k (List.mem_cons_of_mem _ hk)
   have h1:=h k List.mem_cons_self;have e:(mkL (k::r)).length=k.2.length+(mkL r).length:=by unfold mkL;rw[List.flatMap_cons,List.length_append,List.length_map]
   rw[e,List.length_cons];omega
 have:=go ks h
 omega
theorem LX{α:Type}{g:α->T}{xs:List (Str×α)}(n:(xs.map (·.1)).Nodup)(h:x∈xs.map (·.1)):(a7 (en g xs) (.inr x)).isSome=true:=by
 obtain⟨p,hp,rfl⟩:=List.mem_map.mp h;rw[fM (v:=p.2) n hp];rfl
def zE:PSp:=fun ts Q=>∃(x b m:T)(ns fs:List Str)(sc:Sc),ts = [.t [x,.t (ns.map .s),b],.t (fs.map .s),m]/\x.im=true/\b.im=true/\(∃ o vs,m = .fd o vs (en T.s sc))/\ns.length=fs.length/\fs.length<=1000/\sc.length<=1000000/\(sc.map (·.1)++ns).Nodup/\Q (.d (en T.s (sc++ns.zip fs)))
theorem iK(v:Str):(T.s v).im=true:=rfl
theorem lT{fs:List Fn}(h:∀ f∈fs,f.2.1.im=true):T.ims (fs.map tF)=true:=by
 induction fs with
 | nil=>rfl
 | cons f r ih =>
  show((true&&(T.ims (f.1.2.1.map tP)&&(true&&(f.2.1.im&&true))))&&T.ims (r.map tF))=true;rw[aO dg,h f List.mem_cons_self,ih fun f hf=>h f (List.mem_cons_of_mem _ hf)];rfl
theorem fresh_at{xs ys:List Str}{i:Nat}(n:(xs++ys).Nodup)(h:ys[i]? = some y):y ∉ xs++ys.take i:=by
 intro z;have e:xs++ys =(xs++ys.take i)++(y::ys.drop (i+1)):=by
  rw[List.append_assoc,<- rH h]
 rw[e]at n;exact(List.nodup_append.mp n).2.2 y z y List.mem_cons_self rfl
inductive Stp(ks:List Kd)(hs:List Hd):Sc->T->Sc->T->Prop
 | kN{sc:Sc}{w:Str}{c:Int}{b:T}:(w = "pay" \/ w = "get")->Stp ks hs sc (.t [.s w,.i c,b]) sc b
 | name{sc:Sc}{x y k:Str}{b:T}:(y,k)∈sc->x ∉ sc.map (·.1)->Stp ks hs sc (.t [.s "name",.s x,.s y,b]) (sc ++ [(x,k)]) b
 | make{sc:Sc}{x:Str}{m:Mk1}{kd:Kd}{ns:List Str}{b:T}:kd∈ks->m∈kd.2->Fills sc ns m.2->x ∉ sc.map (·.1)->Stp ks hs sc (.t [.s "make",.s x,.s m.1,.t (ns.map .s),b]) (sc ++ [(x,kd.1)]) b
 | call{sc:Sc}{x:Str}{h:Hd}{ns:List Str}{b:T}:h∈hs->Fills sc ns (h.2.1.map (·.2))->x ∉ sc.map (·.1)->Stp ks hs sc (.t [.s "call",.s x,.s h.1,.t (ns.map .s),b]) (sc ++ [(x,h.2.2)]) b
def Ds:PSp:=fun ts Q=>∃(o:Obj)(vs:List (Key×V))(L:List (Str×Mw))(pw b:T)(x m k:Str)(ns fs:List Str)(p:Addr)(sc:Sc),ts = [.fd o vs (en gM L),.t [pw,.s x,.s m,.t (ns.map .s),b],.dp p (en T.s sc)]/\(L.map (·.1)).Nodup/\(m,(fs,k))∈L/\Fills sc ns fs/\(sc.map (·.1)).Nodup/\x ∉ sc.map (·.1)/\pw.im=true/\b.im=true/\sc.length<=1000000/\Q (.dp p (en T.s (sc ++ [(x,k)])))
def Kn(C:Addr)(kn:T)(ks:List Kd)(hs:List Hd):Prop:=∃ o1 v1 o2 v2 o3 v3,kn = .ob C ["kinds","makers","functions"] [.fd o1 v1 (en tMs ks),.fd o2 v2 (en gM (mkL ks)),.fd o3 v3 (en gM (hsL hs))]
def x5(C:Addr):PSp:=fun ts Q=>∃(kn:T)(ks:List Kd)(hs:List Hd)(pc b:T)(p:Addr)(sc sc':Sc),ts = [kn,pc,.dp p (en T.s sc)]/\Kn C kn ks hs/\GW ks/\(hs.map (·.1)).Nodup/\Stp ks hs sc pc sc' b/\b.im=true/\(sc.map (·.1)).Nodup/\sc.length<=1000000/\Q (.dp p (en T.s sc'))
theorem e7(h:n<=1002000):n<sizeLine:=Nat.lt_of_le_of_lt h (by decide)
def C2(arms:List Arm)(ms:List Mk1)(o:Obj)(vs:List (Key×V))(sc:Sc):List T:=(arms.zip ms).map fun p=>.t [tA p.1,.t (p.2.2.map .s),.fd o vs (en T.s sc)]
def zH(C:Addr):PSp:=fun ts Q=>∃(kn:T)(ks:List Kd)(hs:List Hd)(x:Str)(kd:Kd)(arms:List Arm)(o:Obj)(vs:List (Key×V))(sc:Sc),ts = [kn,.t [.s "case",.s x,.t (arms.map tA)],.fd o vs (en T.s sc)]/\Kn C kn ks hs/\GW ks/\(x,kd.1)∈sc/\kd∈ks/\arms.map (·.1)=kd.2.map (·.1)/\(sc.map (·.1)).Nodup/\T.ims (arms.map tA)=true/\Q (.l (C2 arms kd.2 o vs sc))
theorem yA(ws:List Str):eqF (ws.map T.s) (ws.map T.s)=true:=HG fun x hx=>by
 obtain⟨w,_,rfl⟩:=List.mem_map.mp hx;exact show(w==w)=true from beq_self_eq_true w
structure Wi where
 nm:Str
 ns:List Str
 fs:List Str
 b:T
 o:Obj
 vs:List (Key×V)
 sc:Sc
 n:Nat
def tWi(w:Wi):T:=.t [.t [.s w.nm,.t (w.ns.map .s),w.b],.t (w.fs.map .s),.fd w.o w.vs (en T.s w.sc)]
structure WOk(ks:List Kd)(hs:List Hd)(r:Str)(w:Wi):Prop where
 ln:w.ns.length=w.fs.length
 l4:w.fs.length<=4
 nd:(w.sc.map (·.1)++w.ns).Nodup
 sn:Snd ks hs r w.n (w.sc++w.ns.zip w.fs) w.b
 sz:w.sc.length+4*w.n+4<=300010
theorem Snd.pos{b:T}(h:Snd ks hs r n sc b):1<=n:=by
 cases h <;> omega
theorem WOk.im{ks:List Kd}{hs:List Hd}{r:Str}{w:Wi}(h:WOk ks hs r w):(tWi w).im=true:=by
 show((true&&(T.ims (w.ns.map .s)&&(w.b.im&&true)))&&(T.ims (w.fs.map .s)&&(true&&true)))=true;rw[az,az,h.sn.im];rfl
def gs(ws:List Wi):Nat:=(ws.map (·.n)).sum
theorem EH{ws:List Wi}(h:∀ w∈ws,WOk ks hs r w):ws.length<=gs ws:=by
 induction ws with
 | nil=>exact Nat.le_refl _
 | cons w r' ih =>
  have h1:=(h w List.mem_cons_self).sn.pos;have h2:=ih fun w hw=>h w (List.mem_cons_of_mem _ hw)
  unfold gs at *;rw[List.map_cons,List.sum_cons,List.length_cons];omega
theorem xD(a b:List Wi):gs (a++b)=gs a+gs b:=by unfold gs;rw[List.map_append,List.sum_append]
theorem EG(a:List Wi):gs a.reverse=gs a:=by unfold gs;rw[List.map_reverse,List.sum_reverse]
theorem qW{ts:List T}(h:∀ t∈ts,t.im=true):T.ims ts=true:=by
 induction ts with
 | nil=>rfl
 | cons t r ih=>show(t.im&&T.ims r)=true;rw[h t List.mem_cons_self,ih fun t ht=>h t (List.mem_cons_of_mem _ ht)];rfl
theorem Hm{ws:List Wi}(h:∀ w∈ws,WOk ks hs r w):T.ims (ws.map tWi)=true:=qW fun t ht=>by
 obtain⟨w,hw,rfl⟩:=List.mem_map.mp ht;exact(h w hw).im
def EF(o:Obj)(vs:List (Key×V))(sc:Sc)(p:Arm×Mk1):Wi:=⟨p.1.1,p.1.2.1,p.2.2,p.1.2.2.1,o,vs,sc,p.1.2.2.2⟩
theorem EE(arms:List Arm)(ms:List Mk1)(o:Obj)(vs:List (Key×V))(sc:Sc):C2 arms ms o vs sc =((arms.zip ms).map (EF o vs sc)).map tWi:=by
 unfold C2;rw[List.map_map];rfl
theorem C5{o:Obj}{vs:List (Key×V)}(h:arms.length=ms.length):gs ((arms.zip ms).map (EF o vs sc)) =(arms.map (·.2.2.2)).sum:=by
 unfold gs;rw[List.map_map]
 have:((fun w:Wi=>w.n) ∘ EF o vs sc) =(fun a:Arm=>a.2.2.2) ∘ Prod.fst:=rfl
 rw[this,<- List.map_map,List.map_fst_zip (by omega)]
theorem Pc{l:List Nat}{x:Nat}(h:x∈l):x<=l.sum:=by
 induction l with
 | nil=>cases h
 | cons y r ih =>
  rw[List.sum_cons];rcases List.mem_cons.mp h with e|e
  ·omega
  ·have:=ih e;omega
theorem Mm{o:Obj}{vs:List (Key×V)}(G:GW ks)(hkd:kd∈ks)(hnm:arms.map (·.1)=kd.2.map (·.1))
  (h1:∀(i:Nat)(a:Arm)(m:Mk1),arms[i]? = some a->kd.2[i]? = some m->a.2.1.length=m.2.length/\(sc.map (·.1)++a.2.1).Nodup)
  (h2:∀(i:Nat)(a:Arm)(m:Mk1),arms[i]? = some a->kd.2[i]? = some m->Snd ks hs r a.2.2.2 (sc++a.2.1.zip m.2) a.2.2.1) (hsz:sc.length+4*(1+(arms.map (·.2.2.2)).sum)<=300010) :
  ∀ w∈(arms.zip kd.2).map (EF o vs sc),WOk ks hs r w:=by
 intro w hw;obtain⟨p,hp,rfl⟩:=List.mem_map.mp hw;obtain⟨i,hi⟩:=List.getElem?_of_mem hp;obtain⟨ha,hm⟩:=List.getElem?_zip_eq_some.mp hi;obtain⟨q1,q2⟩:=h1 i p.1 p.2 ha hm;have hle:p.1.2.2.2 <=(arms.map (·.2.2.2)).sum:=Pc (List.mem_map.mpr ⟨p.1,List.mem_of_getElem? ha,rfl⟩);exact⟨q1,(G.fl kd hkd p.2 (List.mem_of_getElem? hm)).1,q2,h2 i p.1 p.2 ha hm,by show sc.length+4*p.1.2.2.2+4<=300010;omega⟩
def zG(C:Addr):PSp:=fun ts Q=>∃(kn:T)(ks:List Kd)(hs:List Hd)(f:Fn)(o:Obj)(vs:List (Key×V)),ts = [kn,tF f,.fd o vs (en T.s f.1.2.1)]/\Kn C kn ks hs/\GW ks/\(hs.map (·.1)).Nodup/\Snd ks hs f.1.2.2 f.2.2 f.1.2.1 f.2.1/\f.2.2<=50000/\(f.1.2.1.map (·.1)).Nodup/\f.1.2.1.length<=4/\Q .n
theorem Kn.im{C:Addr}{kn:T}{ks:List Kd}{hs:List Hd}(h:Kn C kn ks hs):kn.im=true:=by obtain⟨_,_,_,_,_,_,rfl⟩:=h;rfl
theorem wC{k:Str}(h:(sc.map (·.1)).Nodup)(hx:x ∉ sc.map (·.1)):((sc ++ [(x,k)]).map (·.1)).Nodup:=by
 rw[List.map_append];refine List.nodup_append.mpr ⟨h,by simp,fun a ha b hb e=>?_⟩
 simp at hb;rw[e,hb]at ha;exact hx ha
structure Tf(ks:List Kd)(hs:List Hd)(r:Str)(n:Nat)(sc:Sc)(xs:List T)(w:Str)(b:T)(sc':Sc)(n':Nat):Prop where
 h0:atI xs 0=some (.s w)
 hl:atI xs (-1)=some b
 w1:w ≠ "give"
 w2:w ≠ "case"
 st:Stp ks hs sc (.t xs) sc' b
 sn:Snd ks hs r n' sc' b
 nn:n=n'+1
 nd:(sc'.map (·.1)).Nodup
 ln:sc'.length<=sc.length+1
theorem Snd.view{pc:T}(h:Snd ks hs r n sc pc)(hn:(sc.map (·.1)).Nodup) :
  (∃ x,pc = .t [.s "give",.s x]/\(x,r)∈sc) \/
  (∃(x:Str)(kd:Kd)(arms:List Arm),pc = .t [.s "case",.s x,.t (arms.map tA)]/\(x,kd.1)∈sc/\kd∈ks/\arms.map (·.1)=kd.2.map (·.1)/\n=1+(arms.map (·.2.2.2)).sum /\
   (∀(i:Nat)(a:Arm)(m:Mk1),arms[i]? = some a->kd.2[i]? = some m->a.2.1.length=m.2.length/\(sc.map (·.1)++a.2.1).Nodup) /\
   (∀(i:Nat)(a:Arm)(m:Mk1),arms[i]? = some a->kd.2[i]? = some m->Snd ks hs r a.2.2.2 (sc++a.2.1.zip m.2) a.2.2.1)) \/
  ∃(xs:List T)(w:Str)(b:T)(sc':Sc)(n':Nat),pc = .t xs/\Tf ks hs r n sc xs w b sc' n':=by
 cases h with
 | give hx=>exact .inl ⟨_,rfl,hx⟩
 | kN hw hb =>
  refine .inr (.inr ⟨_,_,_,_,_,rfl,rfl,rfl,?_,?_,.kN hw,hb,rfl,hn,Nat.le_succ _⟩)
  ·rcases hw with rfl|rfl <;> decide +kernel
  ·rcases hw with rfl|rfl <;> decide +kernel
 | name hy hx hb=>exact .inr (.inr ⟨_,_,_,_,_,rfl,rfl,rfl,by decide +kernel,by decide +kernel,.name hy hx,hb,rfl,wC hn hx,by simp⟩)
 | make hkd hm hF hx hb=>exact .inr (.inr ⟨_,_,_,_,_,rfl,rfl,rfl,by decide +kernel,by decide +kernel,.make hkd hm hF hx,hb,rfl,wC hn hx,by simp⟩)
 | call hh hF hx hb=>exact .inr (.inr ⟨_,_,_,_,_,rfl,rfl,rfl,by decide +kernel,by decide +kernel,.call hh hF hx,hb,rfl,wC hn hx,by simp⟩)
 | case arms hx hkd hnm h1 h2=>exact .inr (.inl ⟨_,_,arms,rfl,hx,hkd,hnm,rfl,h1,h2⟩)
theorem ne_str{w z:Str}(h:w≠z):(!decide (V.str w=V.str z))=true:=by rw[decide_eq_false fun e=>h (V.str.inj e)];rfl
theorem R3{l:List Addr}(h:l.Nodup){x y:Addr}(i j:Nat)(hi:l[i]? = some x)(hj:l[j]? = some y)(ne:i≠j):x≠y:=fun z=>by
 subst z;obtain⟨h1,e1⟩:=List.getElem?_eq_some_iff.mp hi;obtain⟨h2,e2⟩:=List.getElem?_eq_some_iff.mp hj;exact ne ((List.getElem_inj h).mp (e1.trans e2.symm))
variable{C:Addr}
theorem ow{B C':Addr}(h1:C'≠C)(h2:C'≠B):(Value.ref C :: .ref B::bmV).contains (.ref C')=false:=by
 have e1:(Value.ref C'==Value.ref C)=false:=beq_eq_false_iff_ne.mpr fun z=>h1 (Value.ref.inj z)
 have e2:(Value.ref C'==Value.ref B)=false:=beq_eq_false_iff_ne.mpr fun z=>h2 (Value.ref.inj z)
 rw[List.contains_cons,List.contains_cons,e1,e2];rfl
variable{bm:List Value}
theorem NS:(Value.ref C::bm).contains (.ref C)=true:=by rw[List.contains_cons,beq_self_eq_true,Bool.true_or]
theorem NQ{B:Addr}:(Value.ref C :: .ref B::bm).contains (.ref B)=true:=by rw[List.contains_cons,List.contains_cons,beq_self_eq_true,Bool.true_or,Bool.or_true]
section
variable{K:W.Frag}{fn:List Str}{C C':Addr}{bm:List Value}{ini:Option Addr}{i:Nat}{qs:QS}{qr:QH}{ns:List Str}{us:List T}{D:jb}{q:Sq}
theorem S5(c:bF K fn C bm ini)(h:(Value.ref C::bm).contains (.ref C')=true)(k:qs (D.go i) (q.set i (.r (.xc C ns us)))):Rr K fn C' i qs qr C ns us D q:=⟨bm,ini,c,by rw[if_pos h];exact k⟩
theorem OO(c:bF K fn C bm ini)(h:(Value.ref C::bm).contains (.ref C')=true)(k:qs D q):MI K fn C' qs qr C ns us D q:=⟨bm,ini,c,by rw[if_pos h];exact k⟩
end
def ref(a:Adr)(W:QW)(w x:Str):Prop:=W a.aM ["word","name"] [.s w,.s x]
def KJ(a:Adr):ml:=fun ts Q W=>∃(m:T)(ks:List (Key×T))(x:Str),ts = [m,.s x]/\m.dof=some ks/\(if(a7 ks (.inr x)).isSome=true then Q .n else ref a W "unknown" x)
def KP(a:Adr):ml:=fun ts Q W=>∃(p:Addr)(ks:List (Key×T))(x:Str)(v:T),ts = [.dp p ks,.s x,v]/\T.imk ks=true/\v.im=true/\ks.length<sizeLine/\(if(a7 ks (.inr x)).isSome=true then ref a W "twice" x else Q (.dp p (oJ ks (.inr x) v)))
theorem dj{α:Type}{g:α->T}{xs:List (Str×α)}:(a7 (en g xs) (.inr x)).isSome=true ↔ x∈xs.map (·.1):=by
 constructor
 ·intro h;refine Classical.byContradiction fun n=>?_
  rw[qZ n]at h;cases h
 ·intro h;unfold a7 en;rw[Option.isSome_map,List.find?_isSome];obtain⟨p,hp,rfl⟩:=List.mem_map.mp h;exact⟨_,List.mem_map.mpr ⟨p,hp,rfl⟩,by simp⟩
def iM(own:List Str):List Str->List (Str×Mw)->Option (Str×Str)
 | _,[]=>none
 | seen,p::r=>if p.1∈seen then some ("twice",p.1)else match p.2.1.find? (fun f=>!decide (f∈own))with
  | some f=>some ("unknown",f)
  | none=>iM own (seen ++ [p.1]) r
structure KsB(ks:List Kd):Prop where
 k2:ks.length<=6
 ne:∀ k∈ks,k.2.length<=6
def ans(a:Adr)(F:Option (Str×Str))(Q:Prop)(W:QW):Prop:=match F with
 | none=>Q
 | some p=>ref a W p.1 p.2
def uv(a:Adr):ml:=fun ts Q W=>∃(m:T)(ks:List Kd),ts = [m,tKs ks]/\m.dof=some (en tMs ks)/\KsB ks/\ans a (iM (ks.map (·.1)) [] (mkL ks)) (Q (.d (en gM (mkL ks)))) W
variable{own:List Str}{seen:List Str}
theorem gL{p:Str×Mw}{r:List (Str×Mw)}(h:p.1 ∉ seen):iM own seen (p::r)=match p.2.1.find? (fun f=>!decide (f∈own))with
  | some f=>some ("unknown",f)
  | none=>iM own (seen ++ [p.1]) r:=by
 rw[iM,if_neg h]
theorem yz{p:Str×Mw}{r:List (Str×Mw)}(h:p.1∈seen):iM own seen (p::r)=some (("twice":Str),p.1):=by
 rw[iM,if_pos h]
def fH:List Str->List Str->Option (Str×Str)
 | _,[]=>none
 | seen,x::r=>if x∈seen then some ("twice",x)else fH (seen ++ [x]) r
theorem tj{r:List Str}(h:x∈seen):fH seen (x::r)=some (("twice":Str),x):=by rw[fH,if_pos h]
theorem qY{r:List Str}(h:x ∉ seen):fH seen (x::r)=fH (seen ++ [x]) r:=by rw[fH,if_neg h]
def je(own:List Str):List Str->Sc->Option (Str×Str)
 | _,[]=>none
 | seen,p::r=>if p.1∈seen then some ("twice",p.1)else if p.2∈own then je own (seen ++ [p.1]) r else some ("unknown",p.2)
variable{p:Str×Str}
theorem yy{r:Sc}(h:p.1∈seen):je own seen (p::r)=some (("twice":Str),p.1):=by rw[je,if_pos h]
theorem Co{r:Sc}(h:p.1 ∉ seen)(h2:p.2 ∉ own):je own seen (p::r)=some (("unknown":Str),p.2):=by rw[je,if_neg h,if_neg h2]
theorem qX{r:Sc}(h:p.1 ∉ seen)(h2:p.2∈own):je own seen (p::r)=je own (seen ++ [p.1]) r:=by rw[je,if_neg h,if_pos h2]
def gi(own:List Str)(h:Hd):Option (Str×Str):=(je own [] h.2.1).or (if h.2.2∈own then none else some ("unknown",h.2.2))
def zF(a:Adr):ml:=fun ts Q W=>∃(fs:List Fn),ts = [.t (fs.map tF)]/\(∀ f∈fs,f.2.1.im=true/\f.1.2.1.length<=1000)/\fs.length<=8/\ans a (fH [] (fs.map (·.1.1))) (Q (.d (en gM (hsL (fs.map (·.1)))))) W
def qp(a:Adr):ml:=fun ts Q W=>∃(kn:T)(ks:List Kd)(hs:List Hd)(f:Fn),ts = [kn,tF f]/\Kn a.aT kn ks hs/\f.1.2.1.length<=4/\f.2.1.im=true/\(gi (ks.map (·.1)) f.1=none->GW ks/\(hs.map (·.1)).Nodup/\Snd ks hs f.1.2.2 f.2.2 f.1.2.1 f.2.1/\f.2.2<=50000/\(f.1.2.1.map (·.1)).Nodup)/\ans a (gi (ks.map (·.1)) f.1) (Q .n) W
def lV(ks:List Kd)(fs:List Fn):Option (Str×Str):=(fH [] (ks.map (·.1))).or ((iM (ks.map (·.1)) [] (mkL ks)).or ((fH [] (fs.map (·.1.1))).or (fs.findSome? fun f=>gi (ks.map (·.1)) f.1)))
structure vB(ks:List Kd)(fs:List Fn):Prop where
 kb:KsB ks
 l8:fs.length<=8
 im:∀ f∈fs,f.2.1.im=true/\f.1.2.1.length<=4
 ok:fH [] (ks.map (·.1))=none->iM (ks.map (·.1)) [] (mkL ks)=none->fH [] (fs.map (·.1.1))=none->∀ i f,fs[i]? = some f ->(∀ g∈fs.take (i+1),gi (ks.map (·.1)) g.1=none)->GW ks/\((fs.map (·.1)).map (·.1)).Nodup/\Snd ks (fs.map (·.1)) f.1.2.2 f.2.2 f.1.2.1 f.2.1/\f.2.2<=50000/\(f.1.2.1.map (·.1)).Nodup
def KL(a:Adr):ml:=fun ts Q W=>∃(ks:List Kd)(fs:List Fn),ts = [.t [tKs ks,.t (fs.map tF)]]/\vB ks fs/\ans a (lV ks fs) (Q (.b true)) W
def i5:PSp:=fun ts Q=>∃(xs:List T)(n:Int)(o:T),ts = [.t xs,.i n,o]/\T.ims xs=true/\o.im=true/\0<=n/\n<xs.length/\xs.length<=1000/\Q (.t (xs.set n.toNat o))
theorem Cd{xs ys:List T}(h1:T.ims xs=true)(h2:T.ims ys=true):T.ims (xs++ys)=true:=by
 induction xs with
 | nil=>exact h2
 | cons x r ih =>
  have h1:(x.im&&T.ims r)=true:=h1;rw[Bool.and_eq_true]at h1;show(x.im&&T.ims (r++ys))=true;rw[h1.1,ih h1.2];rfl
theorem Cb{xs:List T}(h:T.ims xs=true):∀ x∈xs,x.im=true:=by
 induction xs with
 | nil=>exact fun _ z=>nomatch z
 | cons y r ih =>
  have h:(y.im&&T.ims r)=true:=h;rw[Bool.and_eq_true]at h;exact fun x hx=>(List.mem_cons.mp hx).elim (fun z=>z▸h.1) (ih h.2 x)
theorem HV{xs:List T}{n:Int}(h0:0<=n)(h1:n<xs.length):dI xs none (some n)=xs.take n.toNat:=by
 obtain⟨k,rfl⟩:∃ k:Nat,n=k:=⟨n.toNat,by omega⟩
 unfold dI;rw[HT.mO,HT.mM,Nat.min_eq_left (by omega)]
 simp
theorem HX{xs:List T}{n:Int}(h0:0<=n)(h1:n<xs.length):dI xs (some (n+1)) none=xs.drop (n.toNat+1):=by
 obtain⟨k,rfl⟩:∃ k:Nat,n=k:=⟨n.toNat,by omega⟩
 unfold dI;rw[show((k:Int)+1) =((k+1:Nat):Int)from by omega,HT.mO,HT.mM,Nat.min_eq_left (by omega),Int.toNat_natCast,List.take_of_length_le (by rw[List.length_drop];exact Nat.le_refl _)]
theorem Kf{xs:List T}{o:T}(h:n<xs.length):xs.take n ++ [o]++xs.drop (n+1)=xs.set n o:=by
 rw[List.set_eq_take_append_cons_drop,if_pos h];simp
theorem ng{xs:List T}(h:T.ims xs=true):T.ims (xs.take n)=true:=qW fun x hx=>Cb h x (List.mem_of_mem_take hx)
theorem yo{xs:List T}(h:T.ims xs=true):T.ims (xs.drop n)=true:=qW fun x hx=>Cb h x (List.mem_of_mem_drop hx)
def Dp:PSp:=fun ts Q=>∃(ks:List Kd)(fs:List Fn)(w x:Str),ts = [.t [tKs ks,.t (fs.map tF)],.t [.s w,.s x]]/\vB ks fs/\lV ks fs=some (w,x)/\Q (.b true)
def Gm:PSp:=fun ts Q=>∃(ks:List Kd)(fs:List Fn)(w x:Str),ts = [.t [tKs ks,.t (fs.map tF)]]/\vB ks fs/\lV ks fs=some (w,x)/\Q (.b true)
def Keeps(hs hs':List Hd)(L:List Str):Prop:=∀ h∈hs,h.1∈L->h∈hs'
abbrev Itm:=Nat×Sc×T
def eh(S:List Itm):Nat:=(S.map (·.1)).sum
theorem mF(S S':List Itm):eh (S++S')=eh S+eh S':=by unfold eh;rw[List.map_append,List.sum_append]
theorem xH{S:List Itm}(h:∀ it∈S,Snd ks hs r it.1 it.2.1 it.2.2):S.length<=eh S:=by
 induction S with
 | nil=>exact Nat.zero_le _
 | cons x l ih =>
  have h1:=(h x List.mem_cons_self).pos;have h2:=ih fun y hy=>h y (List.mem_cons_of_mem _ hy)
  show l.length+1<=x.1+eh l;omega
def Gn:PSp:=fun ts Q=>∃(ks:List Kd)(hs:List Hd)(r:Str)(n:Nat)(sc:Sc)(b:T),ts = [b]/\Snd ks hs r n sc b/\n<=50000/\∀ L:List Str,L.length<=n ->(∀ hs',Keeps hs hs' L->Snd ks hs' r n sc b)->Q (.l (L.map .s))
def vG(ks:List Kd)(fs:List Fn)(own:Str)(n:Nat):Prop:=∀(i:Nat)(g:Fn),i<n->fs[i]? = some g->∀ hs':List Hd,(∀ h∈fs.map (·.1),h.1≠own->h∈hs')->Snd ks hs' g.1.2.2 g.2.2 g.1.2.1 g.2.1
def pN:PSp:=fun ts Q=>∃(ks:List Kd)(fs:List Fn)(f:Fn)(n:Nat),ts = [.t [tKs ks,.t (fs.map tF)],.i n]/\fs[n]? = some f/\fs.length<=8/\(∀ g∈fs,Snd ks (fs.map (·.1)) g.1.2.2 g.2.2 g.1.2.1 g.2.1/\g.2.2<=50000)/\∀ c:Bool,(c=false->vG ks fs f.1.1 n)->Q (.b c)
theorem Snd.heads{hs':List Hd}(hk:∀ h∈hs,∃ h'∈hs',h'.1=h.1/\h'.2.1.map (·.2)=h.2.1.map (·.2)/\h'.2.2=h.2.2){b:T}(h:Snd ks hs r n sc b):Snd ks hs' r n sc b:=by
 induction h with
 | give hx=>exact .give hx
 | kN hw _ ih=>exact .kN hw ih
 | name hy hx _ ih=>exact .name hy hx ih
 | make hkd hm hF hx _ ih=>exact .make hkd hm hF hx ih
 | call hh hF hx _ ih =>
  obtain⟨h',hm,e1,e2,e3⟩:=hk _ hh;rw[<- e1];rw[<- e3]at ih;exact .call hm (by rw[e2];exact hF) (by exact hx) ih
 | case arms hx hkd hnm h1 _ ih=>exact .case arms hx hkd hnm h1 ih
theorem gc{p:List Str}(h:(seen++y::p).Nodup):y ∉ seen:=fun z=>(List.nodup_append.mp h).2.2 y z y List.mem_cons_self rfl
theorem gN{l:List Str}:∀{seen:List Str},(seen++l).Nodup->fH seen l=none:=by
 induction l with
 | nil=>exact fun _=>rfl
 | cons y p ih=>exact fun{seen} h=>by rw[qY (gc h)];exact ih (by simpa using h)
theorem Cp{pre post:List Str}:∀{seen:List Str},(seen++pre).Nodup->x∈seen++pre->fH seen (pre++x::post)=some (("twice":Str),x):=by
 induction pre with
 | nil=>exact fun{seen} _ h=>tj (by simpa using h)
 | cons y p ih=>exact fun{seen} h hx=>by rw[List.cons_append,qY (gc h)];exact ih (by simpa using h) (by simpa using hx)
theorem tm{fs:List Str}(h:∀ f∈fs,f∈own):(fs.find? fun f=>!decide (f∈own))=none:=List.find?_eq_none.mpr fun f hf=>by simp[h f hf]
theorem DU{l:List (Str×Mw)}:∀{seen:List Str},(seen++l.map (·.1)).Nodup ->(∀ p∈l,∀ f∈p.2.1,f∈own)->iM own seen l=none:=by
 induction l with
 | nil=>exact fun _ _=>rfl
 | cons y p ih =>
   intro seen h hf;rw[gL (gc h),tm (hf y List.mem_cons_self)];exact ih (by simpa using h) fun q hq=>hf q (List.mem_cons_of_mem _ hq)
theorem AB{pre post:List (Str×Mw)}{x:Str×Mw}:∀{seen:List Str},(seen++pre.map (·.1)).Nodup ->(∀ p∈pre,∀ f∈p.2.1,f∈own)->x.1∈seen++pre.map (·.1)->iM own seen (pre++x::post)=some (("twice":Str),x.1):=by
 induction pre with
 | nil=>exact fun{seen} _ _ h=>yz (by simpa using h)
 | cons y p ih =>
   intro seen h hf hx;rw[List.cons_append,gL (gc h),tm (hf y List.mem_cons_self)];exact ih (by simpa using h) (fun q hq=>hf q (List.mem_cons_of_mem _ hq)) (by simpa using hx)
theorem wY{pre post:List (Str×Mw)}{x:Str×Mw}{f:Str}:∀{seen:List Str},(seen++(pre.map (·.1) ++ [x.1])).Nodup ->(∀ p∈pre,∀ f∈p.2.1,f∈own) ->(x.2.1.find? fun f=>!decide (f∈own))=some f->iM own seen (pre++x::post)=some (("unknown":Str),f):=by
 induction pre with
 | nil=>exact fun{seen} h _ hx=>by rw[List.nil_append,gL (gc (p:=[]) (by simpa using h)),hx]
 | cons y p ih =>
   intro seen h hf hx;rw[List.cons_append,gL (gc (by simpa using h)),tm (hf y List.mem_cons_self)]
   exact ih (by simpa using h) (fun q hq=>hf q (List.mem_cons_of_mem _ hq)) hx
theorem vg{l:Sc}:∀{seen:List Str},(seen++l.map (·.1)).Nodup ->(∀ p∈l,p.2∈own)->je own seen l=none:=by
 induction l with
 | nil=>exact fun _ _=>rfl
 | cons y p ih =>
   intro seen h hf;rw[qX (gc h) (hf y List.mem_cons_self)];exact ih (by simpa using h) fun q hq=>hf q (List.mem_cons_of_mem _ hq)
theorem AA{pre post:Sc}{x:Str×Str}:∀{seen:List Str},(seen++pre.map (·.1)).Nodup ->(∀ p∈pre,p.2∈own)->x.1∈seen++pre.map (·.1)->je own seen (pre++x::post)=some (("twice":Str),x.1):=by
 induction pre with
 | nil=>exact fun{seen} _ _ h=>yy (by simpa using h)
 | cons y p ih =>
   intro seen h hf hx;rw[List.cons_append,qX (gc h) (hf y List.mem_cons_self)];exact ih (by simpa using h) (fun q hq=>hf q (List.mem_cons_of_mem _ hq)) (by simpa using hx)
theorem wX{pre post:Sc}{x:Str×Str}:∀{seen:List Str},(seen++(pre.map (·.1) ++ [x.1])).Nodup ->(∀ p∈pre,p.2∈own)->x.2 ∉ own->je own seen (pre++x::post)=some (("unknown":Str),x.2):=by
 induction pre with
 | nil=>exact fun{seen} h _ hx=>by rw[List.nil_append,Co (gc (p:=[]) (by simpa using h)) hx]
 | cons y p ih =>
   intro seen h hf hx;rw[List.cons_append,qX (gc (by simpa using h)) (hf y List.mem_cons_self)]
   exact ih (by simpa using h) (fun q hq=>hf q (List.mem_cons_of_mem _ hq)) hx
variable{N:Nat}{u:Int}{fm:Int}{nx:Sq->Prop}{b:Nat}
section
variable{P:Program}{w:World}{K:W.Frag}{mg:Str->Option Value}{base:Heap}{a:Adr}
theorem dX(T:Txt K mg a):aU P w K mg base CX0 1 a.oV a.HR ["_law_deal_here","_law_many"] EY:=by
 refine T.aK.F.ok qM (fun vs H Q E h=>?_) (fun cdv A outer s H vs Q E hr h=>?_)
 ·obtain⟨d,l,m,rfl,_⟩:=h;rfl
 ·obtain⟨d,l,m,rfl,⟨s0,n0,ls0,D0⟩,m0,m1,k⟩:=h;have hu:=bJ hr;refine⟨_,((bE (x4 PassesOwn.never (PW.pt (Gb (mV MR (iA hu (pv 0) cS (fun _ _=>rfl)) bD (bu _)) (BB (mV GG (jw nE (by rfl) T.bh PySem.boot_len (bw (iA hu (pv 0) cS (fun _ _=>rfl)) eB)) bD (bu _)))))
 (eZ (qR hu (pv 0) cS (GA PySem.F.plainAttrs_list PySem.F.slot_list_pop PySem.F.type_list_pop GV (iA hu (pv 0) cS (fun _ _=>rfl))) rfl)))
 (bE (iz (i:=2) qM.nd rfl (Or.inl rfl) (iA hu (pv 0) cS (fun _ _=>rfl)))
 (bE (Gi (mV GG (pv 2) bD (bu _))
 (bE (qR hu (pv 0) cS (cw yd (pv 2) (pv 1)) rfl)
 (eZ (sf (cw iB (pv 2) (pv 1)))))
 BF)
 (bE (iz (i:=3) qM.nd rfl (Or.inl rfl) (cw iB (cw oM (cw lO (iA hu (pv 0) cS (fun _ _=>rfl)) bD) bD) bD))
 (bE (qR hu (pv 0) cS (cw iB (cw oM (cw lO (pv 3) bD) bD) bD) rfl)
 (bE (iz (i:=4) qM.nd rfl (Or.inl rfl) (cw iB (cw lO (iA hu (pv 0) cS (fun _ _=>rfl)) (iA hu (pv 0) cS (fun _ _=>rfl))) bD))
 (eZ (sf (cw iB (cw oM (cw lO (cw iB (cw lO (pv 3) (pv 3)) bD) bD) (pv 4)) (pv 1))))))))))),?_⟩
  refine C4 (fun c σ H1=>∃ s n ls,σ = [some (.ref d),some (.int m),none,none,none]/\cy H1 d l s n ls/\Kp d l H H1/\c=ls.length) ⟨s0,n0,ls0,rfl,D0,Kp.refl,rfl⟩ ?_ ?_
  ·rintro c σ H1 ⟨s1,n1,ls,rfl,D,K1,rfl⟩
   refine⟨_,rfl,d,_,rfl,D.SK,?_⟩;refine⟨_,rfl,_,_,rfl,rfl,_,rfl,?_⟩;refine aJ (fun h1=>?_) (fun h1=>?_)
   ·have h1:0<n1:=of_decide_eq_true h1;have q0:0<=n1 / m:=Int.ediv_nonneg (by omega) (by omega)
    refine⟨_,rfl,_,rfl,_,_,rfl,rfl,⟨m0,m1⟩,_,rfl,d,_,rfl,D.RH,?_⟩;refine⟨_,rfl,_,rfl,_,_,rfl,rfl,m0,?_⟩;exact k _ _ (mod_lt m0).1 (mod_lt m0).2 ⟨_,_,_,D.num q0⟩ K1.Nz
   ·have b1:=mod_lt (x:=s1*48271+7919) (m:=2147483647) (by decide)
    refine⟨_,rfl,d,_,rfl,D.Hx,_,_,rfl,rfl,.inr ⟨by decide,by decide⟩,_,_,rfl,rfl,_,_,rfl,rfl,(by show(0:Int)<2147483647;decide),?_⟩
    have b2:=mod_lt (x:=(s1*48271+7919) % 2147483647*40692+104729) (m:=2147483399) (by decide)
    refine⟨_,rfl,_,_,rfl,rfl,.inr ⟨by decide,by decide⟩,_,_,rfl,rfl,_,_,rfl,rfl,(by show(0:Int)<2147483399;decide),_,rfl,d,_,rfl,D.RG,?_⟩
    have D2:=D.UZ (m:=((s1*48271+7919) % 2147483647*40692+104729) % 2147483399) b2.1 (by omega)
    refine⟨_,rfl,d,_,rfl,D2.Hx,_,rfl,d,_,rfl,D2.Hx,_,_,rfl,rfl,.inl ⟨by omega,by omega⟩,_,_,rfl,rfl,(by show(0:Int)<2147483563;decide),?_⟩
    have b4:=mod_lt (x:=(s1*48271+7919) % 2147483647*((s1*48271+7919) % 2147483647)) (m:=2147483629) (by decide)
    refine⟨_,rfl,_,rfl,_,_,rfl,rfl,.inl ⟨by omega,by omega⟩,_,_,rfl,rfl,(by show(0:Int)<2147483629;decide),_,_,rfl,rfl,.inr ⟨by decide,by decide⟩,_,rfl,_,_,rfl,rfl,_,rfl,_,_,rfl,rfl,m0,?_⟩
    exact k _ _ (mod_lt m0).1 (mod_lt m0).2 ⟨_,_,_,D2⟩ K1.Nz
  ·rintro c σ H1 ⟨s1,n1,ls,rfl,D,K1,rfl⟩ hx
   refine⟨_,rfl,d,_,rfl,D.SK,rfl,_,rfl,?_⟩;refine aJ (fun h1=>?_) (fun h1=>hx)
   refine⟨_,rfl,d,_,rfl,D.Nj,l,_,rfl,.inl (SqL.of D.hl),_,_,rfl,rfl,_,rfl,?_⟩;refine aJ (fun h2=>?_) (fun h2=>hx)
   have h2:(0:Int)<((ls.map V.int).length:Int):=of_decide_eq_true h2;rcases List.eq_nil_or_concat ls with rfl |⟨ls',x,rfl⟩
   ·simp at h2
   ·have hl':H1 l=some (.lst (ls'.map V.int ++ [.int x])):=by simpa using D.hl
    refine⟨fun σ' H'=>∃ s n ls2,σ' = [some (.ref d),some (.int m),none,none,none]/\cy H' d l s n ls2/\Kp d l H H'/\ls2.length<(ls' ++ [x]).length,fun σ' H' ⟨s2,n2,ls2,e,D2,K2,h⟩=>⟨ls2.length,by simpa using h,s2,n2,ls2,e,D2,K2,rfl⟩,?_⟩
    have x0:0<=x:=D.l0 x (by simp)
    have D2:=D.list (ls':=ls') fun y hy=>D.l0 y (by simp[hy])
    refine⟨_,rfl,d,_,rfl,D.Nj,.inl ⟨rfl,_,SqL.of hl'⟩,l,_,.int x,rfl,rfl,hl',(by simp),?_⟩
    rw[List.dropLast_concat];refine⟨_,rfl,d,_,rfl,D2.RH,?_⟩;exact⟨_,_,ls',rfl,D2.num x0,(K1.UQ).Nz,by simp⟩
theorem Lg(T:Txt K mg a):aU P w K mg base CX0 1 a.oW a.HS ["_law_script","_law_base"] (NU K):=by
 refine T.xy.F.ok mL (fun vs H Q E h=>?_) (fun cdv A outer s H vs Q E hr h=>?_)
 ·obtain⟨a,ns,b,rfl,_⟩:=h;rfl
 ·obtain⟨p0,ns,b,rfl,hS,hlen,b0,b1,k⟩:=h;have hu:=bJ hr;refine⟨_,((bE (BH (i:=2) mL.nd rfl (Or.inl rfl) rfl (qT (x9 Bm (pv 0) (wj (pv 1)) (wj bD))) (N':=["_law_cell"]) (.own rfl .nil) (fun _ _ _ _ _=>⟨(mX (i:=0) (show(["_law_cell"]:List Str).Nodup from by decide +kernel) rfl (Or.inl rfl)),BE,(jw (pe rfl) (by rfl) T.Io (by kernel_rfl) (bw (pv 0) (bw (cw zM bD (pv 0)) eB)))⟩))
 (bE (iz (i:=3) mL.nd rfl (Or.inl rfl) (cw oM bD (pv 1)))
 (bE (zB PassesOwn.never rfl (qT (pv 2)) (mX (i:=4) mL.nd rfl (Or.inl rfl))
 (eZ (iz (i:=3) mL.nd rfl (Or.inl rfl) (cw iB (cw oM (cw lO (pv 3) bD) (cw iB (pv 4) bD)) bD))))
 (eZ (sf (K7 (sg cS (pv 3) (sg cS bD (sg cS (sj rfl rfl T.A1 rfl T.tX (BO rfl (qT (pv 2)) (N':=["_law_cell"]) (.own rfl .nil) (fun _ _ _ _ _=>⟨(mX (i:=0) (show(["_law_cell"]:List Str).Nodup from by decide +kernel) rfl (Or.inl rfl)),(BD (mV RR (pv 0) (cw OP bD bD) (bu _))),(pv 0)⟩))) KQ))) rfl rfl (by intro z;cases z) (by decide)))))))),?_⟩
  obtain⟨cs,ecs,lcs⟩:=HW ns (some b) (some 63);refine⟨_,rfl,_,rfl,_,rfl,_,rfl,p0,_,rfl,hS,fun p hp=>⟨p,rfl,⟨_,SqL.of aj⟩,?_⟩⟩
  rw[ecs];have s1:mj H (upd H p (.lst (cs.map V.int))):=(mj.refl H).new hp;refine vp (K:=K) (a:=p) (xs:=cs.map V.int) (fun i ys σ' H'=>∃ zs:List Int,ys=zs.map V.int/\(∀ z∈zs,0<=z)/\zs.length=i/\(∃ o,σ' = [o])/\H'=upd H p (.lst (cs.map V.int))) ⟨[],rfl,by simp,rfl,⟨_,rfl⟩,rfl⟩ ?_ ?_ ?_
  ·rintro i ys σ' H' hi ⟨zs,rfl,_,hz,_,rfl⟩
   refine⟨SqL.of aj,?_⟩;rw[List.length_map]at hi ⊢;exact aA (by omega)
  ·rintro i x ys σ' H' hi ⟨zs,rfl,z0,hz,⟨o,rfl⟩,rfl⟩
   obtain⟨c,rfl⟩:=int_at hi;refine LR ?_;refine⟨_,rfl,_,rfl,_,_,rfl,rfl,_,_,rfl,?_⟩;refine⟨zs ++ [if 0 - c > c then 0 - c else c],by simp,?_,by simp[hz],⟨_,rfl⟩,rfl⟩
   intro z hz';rcases List.mem_append.mp hz' with h|h
   ·exact z0 z h
   ·rw[List.mem_singleton.mp h]
    split <;> omega
  ·rintro ys σ' H' ⟨zs,rfl,z0,hz,_,rfl⟩ D hD
   have s2:mj H (upd (upd H p (.lst (cs.map V.int))) D (.lst (zs.map V.int))):=s1.new hD;have hcD:(upd (upd H p (.lst (cs.map V.int))) D (.lst (zs.map V.int))) D=some (.lst (zs.map V.int)):=aj
   generalize upd (upd H p (.lst (cs.map V.int))) D (.lst (zs.map V.int))=H2 at s2 hcD ⊢
   refine⟨_,rfl,_,_,rfl,rfl,?_⟩;refine⟨_,rfl,D,rfl,⟨_,SqL.of hcD⟩,HB (K:=K) (a:=D) (xs:=zs.map V.int) (fun i σ' H'=>∃(n:Int)(o:Option V),σ' = [some (.ref p0),some (.int b),some (.ref D),some (.int n),o]/\0<=n/\n<2147483647/\H2=H')
    ⟨_,_,rfl,by omega,by omega,rfl⟩ (fun i σ' H' _ ⟨_,_,_,_,_,e⟩=>by rw[<- e];exact SqL.of hcD) ?_ ?_⟩
   ·rintro i y σ' H' hi ⟨n,o,rfl,n0,n1,rfl⟩
    obtain⟨z,rfl⟩:=int_at hi;refine⟨_,rfl,_,_,rfl,rfl,.inr ⟨by decide,by decide⟩,_,rfl,_,_,rfl,rfl,(by show(0:Int)<2147483629;decide),_,_,rfl,rfl,_,_,rfl,rfl,(by show(0:Int)<2147483647;decide),?_⟩
    exact⟨_,_,rfl,(mod_lt (by decide)).1,(mod_lt (by decide)).2,rfl⟩
   ·rintro σ' H' ⟨n,o,rfl,n0,n1',rfl⟩
    intro pd hpd;have PR:(upd H2 pd (.dK [])) D=some (.lst (zs.map V.int)):=by rw[ai (aI hcD hpd)];exact hcD
    have s3:mj H (upd H2 pd (.dK [])):=s2.new hpd;have PK:(upd H2 pd (.dK [])) pd=some (.dK []):=aj;have fpd:H pd=none:=s2.free hpd
    generalize upd H2 pd (.dK [])=H3 at PR s3 PK ⊢
    refine⟨_,rfl,_,rfl,D,rfl,⟨_,SqL.of PR⟩,vp (K:=K) (a:=D) (xs:=zs.map V.int) (fun i ys σ' H'=>∃ ws:List Int,ys=ws.map V.int/\(∀ z∈ws,0<=z)/\ws.length<=i/\(∃ o,σ' = [o])/\H3=H') ⟨[],rfl,by simp,Nat.le_refl _,⟨_,rfl⟩,rfl⟩ ?_ ?_ ?_⟩
    ·rintro i ys σ' H' hi ⟨ws,rfl,_,hz',_,rfl⟩
     refine⟨SqL.of PR,?_⟩;rw[List.length_map]at hi ⊢;rw[List.length_map]at hz;exact aA (by omega)
    ·rintro i x ys σ' H' hi ⟨ws,rfl,w0,hz',⟨o,rfl⟩,rfl⟩
     obtain⟨c,rfl,hc⟩:=LG hi;refine⟨_,rfl,_,_,rfl,rfl,⟨by decide,by decide,by decide⟩,_,_,rfl,rfl,_,rfl,?_⟩
     refine aJ (fun h1=>?_) (fun h1=>?_)
     ·refine⟨_,rfl,ws ++ [c],by simp,?_,by simp;omega,⟨_,rfl⟩,rfl⟩
      intro z hz';rcases List.mem_append.mp hz' with h|h
      ·exact w0 z h
      ·rw[List.mem_singleton.mp h];exact z0 c hc
     ·exact⟨ws,rfl,w0,by omega,⟨_,rfl⟩,rfl⟩
    ·rintro ys σ' H' ⟨ws,rfl,w0,hz',_,rfl⟩ D2 hD2
     refine⟨D2,_,rfl,SqL.of aj,fun q hq=>?_⟩
     have n1:pd≠D2:=aI PK hD2;have e1:(upd H3 D2 (.lst (ws.map V.int))) pd=some (.dK []):=by rw[ai n1];exact PK
     have n2:pd≠q:=aI e1 hq;have s4:mj H (upd (upd H3 D2 (.lst (ws.map V.int))) q (.lst ((ws.map V.int).reverse))):=(s3.new hD2).new hq;refine⟨by rw[ai n2];exact e1,[(.inr "seed",.int n),(.inr "number",.int 0),(.inr "left",.ref q)],rfl,(by show 3<=15;decide),?_⟩
     rw[show eC [] [((.inr "seed":Key),V.int n),(.inr "number",.int 0),(.inr "left",.ref q)]=dk n 0 q from by kernel_rfl]
     refine k pd q _ fpd ((s3.new hD2).free hq) ⟨n,0,ws.reverse,aj,?_,n0,n1',Int.le_refl _,?_⟩ ?_
     ·rw[ai n2.symm,aj,List.map_reverse]
     ·intro x hx;exact w0 x (by simpa using hx)
     ·intro c o hc
      have:c≠pd:=aI hc fpd
      rw[ai this];exact s4 c o hc
theorem GI(T:Txt K mg a):aU P w K mg base CX0 2 a.km a.Cz ["_law_deal_here","_law_many"] (spQ K KH):=by
 have aG:=gj (@dX P w K mg base a T);refine T.CV.F.okQ cg (fun ts Q h=>?_) (fun _ _ _ _ _ _ hr=>?_)
 ·obtain⟨m,rfl,_⟩:=h;rfl
 ·have hu:=bJ hr;refine⟨_,_,((ag (ay 2 cg.nd a4)
 (ag (ay 3 cg.nd (Ky (QPF.w a4) (QPF.w (cE rfl (kg rfl T.e8 (ae (QPF.w (aL aG hr T.aK (ae (qv 0) (ae ah ar)))) ar)) (N':=["_law_k","_law_letters","_law_deal_here"]) (.own rfl (.got (i:=2) rfl rfl (.inl rfl) (.got (i:=0) rfl rfl (.inl rfl) .nil))) (cM (g:=(Tg.nm 0)) (fun _ _ _ _ _=>⟨(dz 0),(QPE.f (aq (qv 1) (QPF.w (aL aG hr T.aK (ae (qv 2) (ae ah ar))))))⟩))))))
 (ag (ay 4 cg.nd (aL aG hr T.aK (ae (qv 0) (ae (QPF.w (a5 (QPF.w (aS T.bh (ae (qv 3) ar))) ah)) ar))))
 (ag (ay 5 cg.nd (aL aG hr T.aK (ae (qv 0) (ae ah ar))))
 (ag (ay 6 cg.nd (a8 av))
 (ag (dy (g:=(Tg.nm 7)) PassesOwn.never rfl (gC rfl T.e8 (ae (qv 1) ar)) (br 7 cg.nd)
 (ag (ay 8 cg.nd (a5 (QPF.w (a5 (QPF.w (cA (qv 3) c9 (c8 (qv 4)))) (aq (qv 2) (QPF.w (se (QPF.w (a5 (qv 5) (QPF.w (zw ah (qv 7))))) ah))))) (QPF.w (cA (qv 3) (c8 (qv 4)) c9))))
 (ag (ay 8 cg.nd (a5 (QPF.w (a5 (qv 8) (QPF.w (zw (QPF.w a4) (QPF.w (se (qv 7) ah)))))) (QPF.w (zw (QPF.w a4) (QPF.w (KC (qv 7) ah))))))
 (ag (a6 (bj (GF rfl) rM rfl (qv 8) (QPF.w (aC (v9 (by rfl)))))
 (ak (ay 8 cg.nd (a5 (qv 8) (QPF.w a4))))
 aN)
 (ak (cD (i:=6) (pv 6) (QPE.f (qv 8))))))))
 (ag (ay 9 cg.nd (a8 (v9 (by rfl))))
 (ag (ay 8 cg.nd (QPE.f (aq (qv 9) (QPF.w (aL aG hr T.aK (ae (qv 0) (ae ah ar)))))))
 (ag (a6 (QPW.pt (fk (b6 hu (QPF.w (aL aG hr T.aK (ae (qv 0) (ae ah ar)))) ah) (c7 (bj (oK rfl) rM rfl (qv 8) (qv 6)))))
 (ak (Ks (i:=6) (pv 6) (QPF.w (aL aG hr T.aK (ae (qv 0) (ae (qv 1) ar)))) (qv 8)))
 aN)
 (ak (mR (i:=6) (pv 6))))))))))))),fun ts Q h=>?_⟩
  obtain⟨m,rfl,m0,m1,hq⟩:=h;refine⟨by decide,by decide,fun n n0 n1=>⟨by omega,by omega,aA (by rw[cQ];omega),fun i ys=>∃ cs:List Nat,ys=cs.map (fun c=>.s ⟨#[c]⟩)/\cs.length=i,⟨[],rfl,rfl⟩,?_,?_⟩⟩
  ·rintro i x ys hx ⟨cs,rfl,hc⟩
   obtain⟨rfl,hi⟩:=il hx;refine⟨_,rfl,by decide,by decide,fun r r0 r1=>⟨by decide +kernel,_,B2 r0 r1,rfl,?_⟩⟩
   exact⟨cs ++ [qz r.toNat],by simp,by simp[hc]⟩
  ·rintro ys ⟨cs,rfl,hc⟩
   rw[cQ]at hc;have e2:((cs.map (fun c=>(⟨#[c]⟩:Str))).map (·.length)).sum=cs.length:=by
    clear hc
    induction cs with
    | nil=>rfl
    | cons c cs ih=>simp only[List.map_cons,List.sum_cons,List.length_cons,ih,show(⟨#[c]⟩:Str).length=1 from rfl];omega
   refine⟨cs.map (fun c=>(⟨#[c]⟩:Str)),?_,?_,?_⟩
   ·rw[<- JK,List.map_map];rfl
   ·rw[e2,show(Str.ofString "").length=0 from by decide +kernel];omega
   have z:=PySem.size_glued (Str.ofString "") (cs.map (fun c=>(⟨#[c]⟩:Str)))
   rw[e2,show(Str.ofString "").length=0 from by decide +kernel]at z
   have lz:(Txt.join (Str.ofString "") (cs.map (fun c=>(⟨#[c]⟩:Str)))).length<=5:=by
    show(Builtin.Str.glued _ _).length<=5;omega
   generalize Txt.join (Str.ofString "") (cs.map (fun c=>(⟨#[c]⟩:Str)))=core at lz ⊢
   refine⟨bf (by omega),by omega,by omega,fun at_ a0 a1=>⟨by decide,by decide,fun tn t0 t1=>?_⟩⟩
   have lc1:(Txt.slice core none (some at_)).length<=5:=Nat.le_trans (Txt.slice_le _ _ _) lz;have lc2:(Txt.slice core (some at_) none).length<=5:=Nat.le_trans (Txt.slice_le _ _ _) lz;have lx:(Str.ofString "x").length=1:=by decide +kernel
   have ly:(Str.ofString "y").length=1:=by decide +kernel
   have lq:(Str.ofString "q").length=1:=by decide +kernel
   refine⟨by omega,by omega,fun i q=>(∃ o7 o8 L,q = [.r .cq,.r (.i m),.o (.s wD),.o (.s core),.o (.i at_),.o (.i tn),.o (.l L),o7,o8,.no]/\L =((List.range i).map (wordOf kept (Txt.slice core none (some at_)) (Txt.slice core (some at_) none) tn.toNat)).map .s),⟨_,_,_,rfl,rfl⟩,?_,?_⟩
   ·rintro i x q hx ⟨o7,o8,L,rfl,rfl⟩
    obtain⟨rfl,hi⟩:=il hx;have hi:i<52:=by omega
    have e1:∀ c:Nat,(⟨#[c]⟩:Str).length=1:=fun _=>rfl
    have eL:qz (((tn+7*(0+(i:Int))) % 26).toNat)=qz (tn.toNat+7*i):=by
     have ht:tn+7*(0+(i:Int)) =((tn.toNat+7*i:Nat):Int):=by rw[Int.zero_add,Int.natCast_add,Int.natCast_mul,Int.toNat_of_nonneg t0];rfl
     rw[ht];show 97+(tn.toNat+7*i) % 26 % 26=97+(tn.toNat+7*i) % 26;rw[Nat.mod_mod]
    have r1:=gG "x" ((0+(i:Int)) % 2).toNat;have r2:=gG "y" ((0+(i:Int)) / 26).toNat;rw[lx]at r1;rw[ly]at r2;refine⟨_,rfl,bf (by omega),.inl ⟨by omega,by omega⟩,(by show(0:Int)<26;decide),(by decide +kernel),_,B2 (mod_lt (by decide)).1 (mod_lt (by decide)).2,bf (by rw[e1];omega),bf (by omega),bf (by rw[Str.length_append,e1];omega),?_⟩
    refine⟨(by show(0:Int)<2;decide),by omega,by omega,by omega,bf (by rw[Str.length_append,Str.length_append,e1];omega),⟨by decide,by decide⟩,by omega,by omega,by omega,bf (by rw[Str.length_append,Str.length_append,Str.length_append,e1];omega),?_⟩
    have eW:Txt.slice core none (some at_)++⟨#[qz (((tn+7*(0+(i:Int))) % 26).toNat)]⟩++Txt.slice core (some at_) none++jr "x" ((0+(i:Int)) % 2).toNat++jr "y" ((0+(i:Int)) / 26).toNat=dn (Txt.slice core none (some at_)) (Txt.slice core (some at_) none) tn.toNat i:=by
     unfold dn;rw[eL,show((0+(i:Int)) % 2).toNat=i % 2 from by rw[Int.zero_add];rfl,show((0+(i:Int)) / 26).toNat=i / 26 from by rw[Int.zero_add];rfl]
    have lW:=ku (Txt.slice core none (some at_)) (Txt.slice core (some at_) none) tn.toNat i;rw[eW];have snoc:∀ z:Str,z=wordOf kept (Txt.slice core none (some at_)) (Txt.slice core (some at_) none) tn.toNat i ->
      ((List.range i).map (wordOf kept (Txt.slice core none (some at_)) (Txt.slice core (some at_) none) tn.toNat)).map L2.T.s ++ [L2.T.s z] =((List.range (i+1)).map (wordOf kept (Txt.slice core none (some at_)) (Txt.slice core (some at_) none) tn.toNat)).map L2.T.s:=fun z hz=>by
     subst hz;rw[List.range_succ];simp
    have ln:(((List.range i).map (wordOf kept (Txt.slice core none (some at_)) (Txt.slice core (some at_) none) tn.toNat)).map L2.T.s).length<sizeLine:=aA (by simp;omega)
    refine⟨by rfl,aJ (fun g1=>?_) (fun g1=>?_)⟩
    ·have g1:inV (.str (dn (Txt.slice core none (some at_)) (Txt.slice core (some at_) none) tn.toNat i)) (kept.map V.str)=true:=by rw[<- jM];exact g1
     exact⟨bf (by rw[lq];omega),ln,rfl,_,_,_,rfl,snoc ((dn (Txt.slice core none (some at_)) (Txt.slice core (some at_) none) tn.toNat i)++("q":Str)) (by unfold wordOf;rw[g1,if_pos rfl])⟩
    ·have g1:inV (.str (dn (Txt.slice core none (some at_)) (Txt.slice core (some at_) none) tn.toNat i)) (kept.map V.str)=false:=by
      cases e:inV (.str (dn (Txt.slice core none (some at_)) (Txt.slice core (some at_) none) tn.toNat i)) (kept.map V.str)with
      | false=>rfl
      | true=>rw[<- jM]at e;exact absurd e g1
     exact⟨ln,rfl,_,_,_,rfl,snoc (dn (Txt.slice core none (some at_)) (Txt.slice core (some at_) none) tn.toNat i) (by unfold wordOf;rw[g1,if_neg (by decide),Str.append_empty])⟩
   ·rintro q ⟨o7,o8,L,rfl,rfl⟩
    rw[cQ];have nd:((List.range m.toNat).map (wordOf kept (Txt.slice core none (some at_)) (Txt.slice core (some at_) none) tn.toNat)).Nodup:=nodup_range fun i j hi hj hne=>C3 (by omega) (by omega) hne
    have wl:∀ w∈(List.range m.toNat).map (wordOf kept (Txt.slice core none (some at_)) (Txt.slice core (some at_) none) tn.toNat),1<=w.length/\w.length<=20:=fun w hw=>by
     obtain⟨i,hi,rfl⟩:=List.mem_map.mp hw;exact y3 lc1 lc2 (by have:=List.mem_range.mp hi;omega)
    have ll:((List.range m.toNat).map (wordOf kept (Txt.slice core none (some at_)) (Txt.slice core (some at_) none) tn.toNat)).length=m.toNat:=by simp
    generalize(List.range m.toNat).map (wordOf kept (Txt.slice core none (some at_)) (Txt.slice core (some at_) none) tn.toNat)=ws at nd wl ll
    refine⟨by decide,by decide,fun r r0 r1=>?_⟩
    obtain⟨wd,ew,hm⟩:=Ml (ws:=near) r0 r1;refine⟨_,ew,rfl,by decide,by decide,fun r3 _ _=>⟨rfl,?_⟩⟩
    have done:Q (.l (ws.map .s)):=hq ws (by omega) nd wl
    refine aJ (fun _=>?_) (fun _=>Vl done)
    refine⟨by rw[fJ];rfl,aJ (fun h2=>?_) (fun _=>done)⟩
    have hni:wd ∉ ws:=Ca (by rw[<- jM];simpa using h2)
    refine⟨m0,by omega,fun r4 r40 r41=>⟨r4.toNat,?_,az ws,rfl,?_⟩⟩
    ·unfold ixN;rw[if_pos r40,if_pos (by rw[List.length_map];omega)]
    ·have z:=hq (ws.set r4.toNat wd) (by rw[List.length_set];omega) (DE nd hni) fun w hw=>by
      rcases List.mem_or_eq_of_mem_set hw with z|z
      ·exact wl w z
      ·rw[z];exact GR wd hm
     rw[List.map_set]at z;exact z
theorem GK(T:Txt K mg a):aU P w K mg base CX0 2 a.ko a.CA ["_law_deal_here","_law_words_here"] (spQ K KO):=by
 have aG:=gj (@dX P w K mg base a T);refine T.CW.F.okQ bQ (fun ts Q h=>?_) (fun _ _ _ _ _ _ hr=>?_)
 ·obtain⟨ws,rfl,_⟩:=h;rfl
 ·have hu:=bJ hr;refine⟨_,_,((ag (ay 2 bQ.nd (aL aG hr T.aK (ae (qv 0) (ae ah ar))))
 (ag (ay 3 bQ.nd (a5 (QPF.w (cA (qv 1) (c8 (qv 2)) c9)) (QPF.w (cA (qv 1) c9 (c8 (qv 2))))))
 (ag (ay 4 bQ.nd (a5 ah (QPF.w (aL aG hr T.aK (ae (qv 0) (ae (QPF.w (jv (a8 (af a9 (af a9 (af a9 av)))) (QPF.w (aL aG hr T.aK (ae (qv 0) (ae ah ar)))))) ar))))))
 (ag (ay 5 bQ.nd (jv (a8 (af a9 (af a9 (af a9 av)))) (QPF.w (aL aG hr T.aK (ae (qv 0) (ae ah ar))))))
 (ag (ay 6 bQ.nd (jv (a8 (af a9 (af a9 (af a9 av)))) (QPF.w (aL aG hr T.aK (ae (qv 0) (ae ah ar))))))
 (ag (ay 7 bQ.nd (aL aG hr T.aK (ae (qv 0) (ae ah ar))))
 (ag (ay 8 bQ.nd (a8 av))
 (ag (ay 9 bQ.nd a9)
 (ag (dy (g:=(Tg.nm 10)) PassesOwn.never rfl (gC rfl T.e8 (ae (qv 4) ar)) (br 10 bQ.nd)
 (ag (ay 11 bQ.nd (a8 av))
 (ag (dy (g:=(Tg.nm 12)) PassesOwn.never rfl (gC rfl T.e8 (ae (QPF.w (a5 ah (QPF.w (aL aG hr T.aK (ae (qv 0) (ae (qv 5) ar)))))) ar)) (br 12 bQ.nd)
 (ag (ix (i:=13) bQ.nd rfl (Or.inl rfl) rfl (kg rfl T.e8 (ae (QPF.w (aL aG hr T.aK (ae (qv 0) (ae (qv 6) ar)))) ar)) (N':=["_law_i","_law_words_here","_law_deal_here","_law_many"]) (.own rfl (.got (i:=1) rfl rfl (.inl rfl) (.got (i:=0) rfl rfl (.inl rfl) (.got (i:=4) rfl rfl (.inl rfl) .nil)))) (cM (g:=(Tg.nm 0)) (fun _ _ _ _ _=>⟨(dz 0),(QPE.f (aq (qv 1) (QPF.w (aL aG hr T.aK (ae (qv 2) (ae (qv 3) ar))))))⟩)))
 (ag (a6 (QPW.pt (fk (b6 hu (qv 12) ah) (c7 (QPW.pt (pL (b6 hu (qv 7) ah) (lJ (QPW.pt (fk (b6 hu (qv 7) ah) (c7 (b6 hu (qv 10) ah))))))))))
 (ak (ay 13 bQ.nd (a8 av)))
 aN)
 (ag (cD (i:=11) (pv 11) (aC (af (QPE.f (aq (qv 3) (qv 9))) (af (bz (cp rfl) ck (by rfl) T.dY (by kernel_rfl) (ae (qv 13) ar)) av))))
 (ak (ay 9 bQ.nd (a5 (qv 9) ah)))))))
 (ak (cD (i:=8) (pv 8) (aC (af (QPE.f (aq (qv 1) (qv 10))) (af (bz (cp rfl) ck (by rfl) T.dY (by kernel_rfl) (ae (qv 11) ar)) av))))))))
 (ak (aQ (bz (cp rfl) ck (by rfl) T.dY (by kernel_rfl) (ae (qv 8) ar)))))))))))))),fun ts Q h=>?_⟩
  obtain⟨ws,rfl,hl,hnd,hq⟩:=h;refine⟨by decide,by decide,fun tn t0 t1=>?_⟩
  have hM:(ws.drop tn.toNat++ws.take tn.toNat).Nodup:=Dj hnd;have lM:(ws.drop tn.toNat++ws.take tn.toNat).length=52:=by rw[List.length_append,List.length_drop,List.length_take];omega
  refine⟨az _,az _,bf (by have:=congrArg List.length (SV hl t0 t1);rw[List.length_append,List.length_map]at this;omega),Cc _ _ _,Cc _ _ _,?_⟩
  rw[SV hl t0 t1]
  generalize ws.drop tn.toNat++ws.take tn.toNat=M at hM lM
  refine⟨by decide,by decide,fun r2 r20 r21=>?_⟩
  obtain⟨v2,ev2,hv2⟩:=BL (x:=2) (y:=3) (z:=6) r20 r21;refine⟨_,ev2,by omega,by omega,fun r3 r30 r31=>⟨by decide,by decide,fun r4 r40 r41=>?_⟩⟩
  obtain⟨v4,ev4,hv4⟩:=BL (x:=2) (y:=3) (z:=6) r40 r41;refine⟨_,ev4,by decide,by decide,fun r5 r50 r51=>?_⟩
  obtain⟨v5,ev5,hv5⟩:=BL (x:=2) (y:=3) (z:=5) r50 r51;refine⟨_,ev5,by decide,by decide,fun bare _ _=>?_⟩
  refine⟨by omega,by omega,fun i q=>∃ ks made L o10 o11 o12 o13,q = [.r .cq,.r (.l (ws.map .s)),.o (.i tn),.o (.l (M.map .s)),.o (.i (1+r3)),.o (.i v4),.o (.i v5),.o (.i bare),.o (.l L),.o (.i (made:Nat)),o10,o11,o12,o13]/\L=ks.map tK/\vA ws M (1+r3).toNat ks i made,
   ⟨[],0,_,_,_,_,_,rfl,rfl,⟨rfl,rfl,Nat.le_refl _,(fun _ z=>nomatch z),(fun _ z=>nomatch z)⟩⟩,?_,?_⟩
  ·rintro i x q hx ⟨ks,made,L,o10,o11,o12,o13,rfl,rfl,D⟩
   obtain⟨rfl,hi⟩:=il hx;have hb1:=D.b1;have lks:ks.length=i:=by
    have:=congrArg List.length D.nm
    rw[List.length_map,List.length_take,Nat.min_eq_left (by omega)]at this
    exact this
   have hwi:i<ws.length:=by omega
   refine⟨_,rfl,by omega,by omega,fun r6 r60 r61=>?_⟩
   refine⟨by omega,by omega,fun j q=>∃ ms cO L' o12 o13,q = [.r .cq,.r (.l (ws.map .s)),.o (.i tn),.o (.l (M.map .s)),.o (.i (1+r3)),.o (.i v4),.o (.i v5),.o (.i bare),.o (.l (ks.map tK)),.o (.i (cO:Nat)),.r (.i (0+(i:Nat))),.o (.l L'),o12,o13]/\L'=ms.map tM/\ms.length=j/\cO=made+j/\M.take made++ms.map (·.1)=M.take cO/\(∀ m∈ms,m.2.length<=4/\∀ f∈m.2,f∈ws.take (1+r3).toNat),
    ⟨[],made,_,_,_,rfl,rfl,rfl,rfl,by simp,fun _ z=>nomatch z⟩,?_,?_⟩
   ·rintro j x q hx ⟨ms,cO,L',o12,o13,rfl,rfl,lms,emd,hmd,hfl⟩
    obtain⟨rfl,hj⟩:=il hx;refine⟨_,rfl,by omega,by omega,fun r7 r70 r71=>⟨by omega,by omega,aA (by rw[cQ];omega),fun p ys=>∃ fs:List Str,ys=fs.map .s/\fs.length=p/\∀ f∈fs,f∈ws.take (1+r3).toNat,⟨[],rfl,rfl,fun _ z=>nomatch z⟩,?_,?_⟩⟩
    ·rintro p x ys hx ⟨fs,rfl,lf,hf⟩
     obtain⟨rfl,hp⟩:=il hx;refine⟨_,rfl,by omega,by omega,fun r8 r80 r81=>?_⟩
     have h8:r8.toNat<ws.length:=by omega
     refine⟨_,Ip r80 h8,rfl,fs ++ [ws[r8.toNat]],by simp,by simp[lf],fun f hff=>?_⟩
     rcases List.mem_append.mp hff with h|h
     ·exact hf f h
     ·rw[List.mem_singleton.mp h];exact List.mem_take_iff_getElem.mpr ⟨r8.toNat,Nat.lt_min.mpr ⟨(Int.toNat_lt_toNat (by omega)).mpr r81,h8⟩,rfl⟩
    ·rintro ys ⟨fs,rfl,lf,hf⟩
     rw[cQ]at lf;have Nh:cO<M.length:=by omega
     have em:atI (M.map L2.T.s) ((cO:Nat):Int)=some (.s M[cO]):=pQ (by simp[Nh])
     have fin:∀ fs':List Str,fs'.length<=4 ->(∀ f∈fs',f∈ws.take (1+r3).toNat)->ms.length+1=j+1/\cO+1=made+(j+1)/\M.take made++(ms ++ [(M[cO],fs')]).map (·.1)=M.take (cO+1)/\∀ m∈ms ++ [(M[cO],fs')],m.2.length<=4/\∀ f∈m.2,f∈ws.take (1+r3).toNat:=fun fs' l4 hf'=>by
      refine⟨by omega,by omega,?_,fun m hm=>?_⟩
      ·rw[List.map_append,<- List.append_assoc,hmd];exact take_one (by simp[Nh])
      ·rcases List.mem_append.mp hm with h|h
       ·exact hfl m h
       ·rw[List.mem_singleton.mp h];exact⟨l4,hf'⟩
     have g0:(ms.map tM).length<sizeLine:=aA (by rw[List.length_map];omega)
     have f0:=fin [] (by decide) (fun _ z=>nomatch z)
     have f1:=fin fs (by omega) hf
     refine⟨rfl,aJ (fun _=>⟨rfl,aJ (fun _=>?_) (fun _=>⟨rfl,aJ (fun _=>⟨rfl,aJ (fun _=>?_) (fun _=>?_)⟩) (fun _=>?_)⟩)⟩) (fun _=>?_)⟩
     all_goals first
      | exact⟨g0,_,em,rfl,az fs,ms ++ [(M[cO],fs)],cO+1,_,_,_,rfl,by simp[tM],by simpa using f1.1,f1.2.1,f1.2.2.1,f1.2.2.2⟩
      | exact⟨g0,_,em,rfl,rfl,ms ++ [(M[cO],[])],cO+1,_,_,_,rfl,by simp[tM],by simpa using f0.1,f0.2.1,f0.2.2.1,f0.2.2.2⟩
   ·rintro q ⟨ms,cO,L',o12,o13,rfl,rfl,lms,emd,hmd,hfl⟩
    rw[cQ]at lms emd;have ei:atI (ws.map L2.T.s) (0+((i:Nat):Int))=some (.s ws[i]):=by rw[Int.zero_add];exact pQ (by simp[hwi])
    refine⟨aA (by rw[List.length_map];omega),_,ei,rfl,aO jN _,?_⟩
    refine⟨ks ++ [(ws[i],ms)],cO,_,_,_,_,_,rfl,by simp[tK,tMs],D.next (by simp[hwi]) hmd (fun z=>?_) (by omega) (by omega) hfl⟩
    rw[z]at lms;simp at lms;omega
  ·rintro q ⟨ks,made,L,o10,o11,o12,o13,rfl,rfl,D⟩
   rw[cQ]at D;refine⟨aO fB _,?_⟩;exact hq ks (D.SJ hnd hM (by omega) (by omega) (by omega))
theorem BS(T:Txt K mg a):aU P w K mg base CX0 2 a.oU a.HQ ["_law_deal_here","_law_scope","_law_some"] (spQ K zI):=by
 have aG:=gj (@dX P w K mg base a T);refine T.uk.F.okQ qL (fun ts Q h=>?_) (fun _ _ _ _ _ _ hr=>?_)
 ·obtain⟨sc,fs,t,_,rfl,_⟩:=h;rfl
 ·have hu:=bJ hr;refine⟨_,_,((ag (ay 3 qL.nd (a8 av))
 (ag (dy (g:=(Tg.nm 4)) PassesOwn.never rfl (Oc (i:=2) (pv 2)) (br 4 qL.nd)
 (ag (ix (i:=5) qL.nd rfl (Or.inl rfl) rfl (mS (qv 1)) (N':=["_law_name","_law_other","_law_kind"]) (.own rfl (.own rfl (.got (i:=4) rfl rfl (.inl rfl) .nil))) (v8 (g:=(Tg.tp [0,1])) (fun _ _ _ _ _=>⟨(d5 (dz 0) (dz 1)),(b6 hu (qv 1) (qv 2)),(QPE.f (qv 0))⟩)))
 (ag (a6 (b6 hu (qv 5) (QPF.w (a8 av)))
 (ak (aQ fY))
 aN)
 (ak (cD (i:=3) (pv 3) (QPE.f (aq (qv 5) (QPF.w (gD (pe rfl) Fe (by rfl) T.Io (by kernel_rfl) (ae (QPF.w (aL aG hr T.aK (ae (qv 0) (ae (QPF.w (aS T.bh (ae (qv 5) ar))) ar)))) (ae (QPF.w (aL aG hr T.aK (ae (qv 0) (ae (QPF.w (aS T.bh (ae (qv 5) ar))) ar)))) ar)))))))))))
 (ak (aQ (bz (cp rfl) ck (by rfl) T.dY (by kernel_rfl) (ae (qv 3) ar))))))),fun ts Q h=>?_⟩
  obtain⟨sc,fs,t,ht,rfl,hsc,hfs,hn,hq⟩:=h;rcases ht with rfl|rfl
  all_goals
   refine⟨fun i q=>∃ ns o4 o5 L,q = [.r .cq,.r (.l (sc.map tP)),.r _,.o (.l L),o4,o5]/\L=ns.map .s/\Fills sc ns (fs.take i),⟨[],_,_,_,rfl,rfl,rfl,fun _ z=>nomatch z⟩,?_,?_⟩
   ·rintro i x q hx ⟨ns,o4,o5,L,rfl,rfl,hF⟩
    rw[List.getElem?_map]at hx;obtain⟨f,hf,rfl⟩:=Option.map_eq_some_iff.mp hx;have hif:i<fs.length:=(List.getElem?_eq_some_iff.mp hf).1;refine⟨_,rfl,aA (by rw[List.length_map];omega),fun k ys=>∃ os:List Str,ys=os.map .s/\os.length<=k/\∀ n∈os,(n,f)∈sc,⟨[],rfl,Nat.le_refl _,fun _ z=>nomatch z⟩,?_,?_⟩
    ·rintro k x ys hx ⟨os,rfl,lo,ho⟩
     rw[List.getElem?_map]at hx;obtain⟨p,hp,rfl⟩:=Option.map_eq_some_iff.mp hx;refine⟨_,rfl,rfl,aJ (fun e=>⟨rfl,os ++ [p.1],by simp,by simp;omega,fun n hn=>?_⟩) (fun _=>⟨os,rfl,by omega,ho⟩)⟩
     rcases List.mem_append.mp hn with h|h
     ·exact ho n h
     ·rw[List.mem_singleton.mp h];have e':(L2.T.s p.2).v =(L2.T.s f).v:=by simpa using e
      have e2:p.2=f:=V.str.inj e';rw[<- e2];exact List.mem_of_getElem? hp
    ·rintro ys ⟨os,rfl,lo,ho⟩
     rw[List.length_map]at lo;refine⟨by rw[fJ];rfl,aJ (fun _=>hn) (fun hne=>?_)⟩
     have l0:0<os.length:=by
      cases os with
      | nil=>exact absurd rfl hne
      | cons _ _=>simp
     have ln:ns.length=i:=by rw[hF.1,List.length_take];omega
     have lo':((os.map L2.T.s).length:Int)=os.length:=by rw[List.length_map]
     refine⟨aA (by rw[List.length_map];omega),by rw[lo'];omega,by rw[lo'];omega,fun r r0 r1=>⟨by rw[lo'];omega,by rw[lo'];omega,fun r' r0' r1'=>?_⟩⟩
     rw[lo']at r1 r1';have hm:∃ m:Int,(if r' > r then r' else r)=m/\0<=m/\m<os.length:=⟨_,rfl,by split <;> omega,by split <;> omega⟩
     obtain⟨m,em,m0,m1⟩:=hm;have hmo:m.toNat<os.length:=by omega
     refine⟨.s os[m.toNat],(by show atI (os.map L2.T.s) (if r' > r then r' else r)=_;rw[em];exact Ip m0 hmo),rfl,ns ++ [os[m.toNat]],_,_,_,rfl,by simp,?_⟩
     rw[<- take_one hf];exact hF.snoc (ho _ (List.getElem_mem _))
   ·rintro q ⟨ns,o4,o5,L,rfl,rfl,hF⟩
    rw[List.length_map,List.take_length]at hF;exact⟨az _,hq ns hF⟩
theorem GL(T:Txt K mg a):aU P w K mg base CX0 3 a.kq a.CB ["_law_deal_here","_law_world","_law_scope","_law_f"] (spQ K qS):=by
 have ua:=@BS P w K mg base a T;refine T.xx.F.okQ cz (fun ts Q h=>?_) (fun _ _ _ _ _ _ hr=>?_)
 ·obtain⟨ks,hs,ws,sc,f,h,rfl,_⟩:=h;rfl
 ·have hu:=bJ hr;refine⟨_,_,((ag (vZ (g:=(Tg.tp [4,5,6])) (i:=1) (pv 1) (qV (K:=K) (n:=3) rfl rfl (cB (br 4 cz.nd) (cB (br 5 cz.nd) (cB (br 6 cz.nd) qU)))))
 (ag (ay 7 cz.nd (QPE.f (aq (aq (qv 5) (qv 3)) ah)))
 (ag (ay 8 cz.nd (aL ua hr T.uk (ae (qv 0) (ae (qv 2) (ae (QPF.w (a8 (af (QPE.f (qv 7)) av))) ar)))))
 (ag (a6 (bj mY jj (bu _) (qv 8) (QPF.w fY))
 (ak (aQ (aC (af a4 (af (QPE.f (aq (qv 8) ah)) av)))))
 aN)
 (ag (ay 9 cz.nd (QPE.f (aq (qv 6) (QPF.w (aS T.bh (ae (qv 2) ar))))))
 (ag (dy (g:=(Tg.tp [10,11])) PassesOwn.never rfl (fX (QPE.f (iy (QPF.w (bz (nF rfl) rN (by rfl) T.A2 (by kernel_rfl) (ae (qv 4) ar))) (qv 7)))) (d5 (br 10 cz.nd) (br 11 cz.nd))
 (ag (ay 12 cz.nd (aL ua hr T.uk (ae (qv 0) (ae (qv 2) (ae (qv 11) ar)))))
 (ak (a6 (bj mY jj (bu _) (qv 12) (QPF.w fY))
 (ak (aQ (aC (af a4 (af (QPE.f (qv 9)) (af (QPE.f (qv 10)) (af (QPE.f (qv 12)) (af (aC (af a4 (af (QPE.f (qv 9)) av))) av))))))))
 aN))))
 (ag (ay 12 cz.nd (bz (cp rfl) ck (by rfl) T.dY (by kernel_rfl) (ae (QPF.w (cE rfl (mS (QPF.w (cA (qv 2) c9 (c8 (QPF.w (aS T.bh (ae (aq (aq (qv 5) (qv 3)) ah) ar))))))) (N':=["_law_name","_law_other"]) (.own rfl (.own rfl .nil)) (cM (g:=(Tg.tp [0,1])) (fun _ _ _ _ _=>⟨(d5 (dz 0) (dz 1)),(QPE.f (qv 0))⟩)))) ar)))
 (ak (aQ (aC (af a4 (af (QPE.f (qv 9)) (af (QPE.f (aq (aq (qv 5) (qv 3)) ah)) (af (QPE.f (qv 12)) (af (aC (af a4 (af (QPE.f (qv 9)) av))) av)))))))))))))))),fun ts Q hh=>?_⟩
  obtain⟨ks,hs,ws,sc,f,h,rfl,W,hf,S,hq⟩:=hh;have yt:h∈hs:=List.mem_of_getElem? hf;obtain⟨hp1,hp2,hp3,hp4⟩:=W.hp h yt;have ef:atI (hs.map tH) (f:Int)=some (tH h):=dq (by rw[List.getElem?_map,hf];rfl)
  have hsl:sc.length<ws.length:=by have:=S.ln;have:=W.wl;omega
  have ex:atI (ws.map L2.T.s) ((sc.map tP).length:Int)=some (.s ws[sc.length]):=by rw[List.length_map];exact pQ (List.getElem?_eq_getElem hsl)
  have fx:ws[sc.length] ∉ sc.map (·.1):=S.fresh W.wn (List.getElem?_eq_getElem hsl)
  generalize ws[sc.length]=x at ex fx
  refine⟨_,rfl,_,ef,_,rfl,rfl,rfl,sc,[h.2.2],_,.inr rfl,rfl,by have:=S.ln;omega,by show 1<=1000;decide,?_,fun ns hF=>?_⟩
  ·obtain⟨kd,hkd,ek⟩:=MV hp4;refine⟨_,ex,rfl,aO fB ks,_,so ks,_,va W.gk.nd hp4,eO _,fun i q=>∃ o10 o11 o12,q = [.r .cq,.r (tW ks hs ws),.r (.l (sc.map tP)),.r (.i f),.r (tKs ks),.r (.l (hs.map tH)),.r (.l (ws.map .s)),.o (.s h.2.2),.o .n,.o (.s x),o10,o11,o12],⟨_,_,_,rfl⟩,?_,?_⟩
   ·rintro i t q hx ⟨o10,o11,o12,rfl⟩
    rw[List.getElem?_map]at hx;obtain⟨m,hm,rfl⟩:=Option.map_eq_some_iff.mp hx;have hm':m∈kd.2:=by rw[<- yj W.gk.nd hkd,ek];exact List.mem_of_getElem? hm
    refine⟨_,rfl,sc,m.2,_,.inl rfl,rfl,by have:=S.ln;omega,by have:=(W.gk.fl kd hkd m hm').1;omega,⟨_,_,_,rfl⟩,fun ns hF=>?_⟩
    refine⟨rfl,rfl,az _,rfl,hq 2 _ (by decide) (.make hkd hm' hF fx (.give ?_)) (nk tE (Nat.le_refl _))⟩
    rw[ek];simp
   ·rintro q ⟨o10,o11,o12,rfl⟩
    have ec:dI (sc.map tP) none (some ((h.2.1.map tP).length:Int))=h.2.1.map tP:=by rw[List.length_map,tI (by rw[List.length_map];exact S.p1),<- List.map_take,S.pf]
    refine⟨_,ef,_,rfl,aO dg _,?_⟩;rw[ec];refine⟨aA (by rw[List.length_map];omega),fun i ys=>ys =((h.2.1.take i).map (·.1)).map .s,rfl,?_,?_⟩
    ·rintro i t ys hx rfl
     rw[List.getElem?_map]at hx;obtain⟨p,hp,rfl⟩:=Option.map_eq_some_iff.mp hx;refine⟨_,rfl,rfl,?_⟩;show _ ++ [L2.T.s p.1]=_;rw[List.take_add_one,hp];simp
    ·rintro ys rfl
     rw[List.length_map,List.take_length];refine⟨az _,rfl,_,ef,_,rfl,rfl,az _,rfl,hq 2 _ (by decide) (.call yt ?_ fx (.give (by simp))) (nk tE (Nat.le_refl _))⟩
     have z:=Fills.self (sc:=sc) (n:=h.2.1.length)
     rwa [S.pf]at z
  ·obtain⟨n,rfl⟩:∃ n,ns = [n]:=by
    match ns,hF.1 with
    | [n],_=>exact⟨n,rfl⟩
   exact⟨_,rfl,rfl,hq 1 _ (by decide) (.give (hF.2 (n,h.2.2) (by simp))) tE⟩
theorem Lh(T:Txt K mg a)(N:Nat)(iX:aU P w K mg base CX0 (2*N+3) a.lZ a.AI ["_law_deal_here","_law_world","_law_scope","_law_f","_law_room"] (spQ K (lK N))):aU P w K mg base CX0 (2*N+4) a.oX a.HU ["_law_deal_here","_law_world","_law_scope","_law_f","_law_room"] (spQ K (Oz N)):=by
 have aG:=gj (@dX P w K mg base a T);refine T.IJ.F.okQ cP (fun ts Q h=>?_) (fun _ _ _ _ _ _ hr=>?_)
 ·obtain⟨ks,hs,ws,sc,f,h,u,rfl,_⟩:=h;rfl
 ·have hu:=bJ hr;refine⟨_,_,((ag (vZ (g:=(Tg.tp [5,6,7])) (i:=1) (pv 1) (qV (K:=K) (n:=3) rfl rfl (cB (br 5 cP.nd) (cB (br 6 cP.nd) (cB (br 7 cP.nd) qU)))))
 (ag (iu (g:=(Tg.tp [8,9])) (aq (qv 2) (QPF.w (gD (pe rfl) Fe (by rfl) T.Io (by kernel_rfl) (ae (QPF.w (aL aG hr T.aK (ae (qv 0) (ae (QPF.w (aS T.bh (ae (qv 2) ar))) ar)))) (ae (QPF.w (aL aG hr T.aK (ae (qv 0) (ae (QPF.w (aS T.bh (ae (qv 2) ar))) ar)))) ar))))) (d5 (br 8 cP.nd) (br 9 cP.nd)))
 (ag (ay 10 cP.nd (QPE.f (iy (QPF.w (bz (nF rfl) rN (by rfl) T.A2 (by kernel_rfl) (ae (qv 5) ar))) (qv 9))))
 (ag (xV (i:=4) (pv 4) (pv 4) (QPF.w (aS T.bh (ae (qv 10) ar))))
 (ag (ay 11 cP.nd (a8 av))
 (ag (dy (g:=(Tg.tp [12,13])) PassesOwn.never rfl (fX (QPE.f (qv 10))) (d5 (br 12 cP.nd) (br 13 cP.nd))
 (ag (ix (i:=14) cP.nd rfl (Or.inl rfl) rfl (By rfl T.fN (by kernel_rfl) (ae (qv 13) ar)) (N':=["_law_k","_law_field","_law_words_here","_law_scope"]) (.own rfl (.own rfl (.got (i:=7) rfl rfl (.inl rfl) (.got (i:=2) rfl rfl (.inl rfl) .nil)))) (cM (g:=(Tg.tp [0,1])) (fun _ _ _ _ _=>⟨(d5 (dz 0) (dz 1)),(aC (af (QPE.f (aq (qv 2) (QPF.w (a5 (QPF.w (aS T.bh (ae (qv 3) ar))) (qv 0))))) (af (QPE.f (qv 1)) av)))⟩)))
 (ag (ay 15 cP.nd (bz (cp rfl) ck (by rfl) T.dY (by kernel_rfl) (ae (QPF.w (cE rfl (mS (qv 14)) (N':=["_law_name","_law_field"]) (.own rfl (.own rfl .nil)) (cM (g:=(Tg.tp [0,1])) (fun _ _ _ _ _=>⟨(d5 (dz 0) (dz 1)),(QPE.f (qv 0))⟩)))) ar)))
 (ak (cD (i:=11) (pv 11) (aC (af (QPE.f (qv 12)) (af (QPE.f (qv 15)) (af (aL iX hr T.mw (ae (qv 0) (ae (qv 1) (ae (QPF.w (a5 (qv 2) (qv 14))) (ae (qv 3) (ae (qv 4) ar)))))) av)))))))))
 (ak (aQ (aC (af a4 (af (QPE.f (qv 8)) (af (bz (cp rfl) ck (by rfl) T.dY (by kernel_rfl) (ae (qv 11) ar)) av))))))))))))),fun ts Q hh=>?_⟩
  obtain⟨ks,hs,ws,sc,f,h,u,rfl,W,hf,S,hl,hne,huN,hq⟩:=hh;have l0:0<sc.length:=List.length_pos_iff.mpr hne;have lsc:((sc.map tP).length:Int)=sc.length:=by rw[List.length_map]
  refine⟨_,rfl,by rw[lsc];omega,by rw[lsc];omega,fun r r0 r1=>⟨by rw[lsc];omega,by rw[lsc];omega,fun r' r0' r1'=>?_⟩⟩
  rw[lsc]at r1 r1';obtain⟨m0,m1⟩:=max_two r0 r1 r0' r1';obtain⟨⟨x,k⟩,hx,ex⟩:=gd (f:=tP) m0 m1;refine⟨tP (x,k),ex,rfl,_,rfl,?_⟩;obtain⟨kd,hkd,ek⟩:=MV (S.kd _ hx);obtain rfl:kd.1=k:=ek;have em:=yj W.gk.nd hkd;refine⟨aO fB ks,_,so ks,tMs kd.2,by rw[va W.gk.nd (S.kd _ hx),em],eO _,Int.natCast_nonneg _,?_⟩
  obtain⟨ne1,ne6⟩:=W.gk.ne kd hkd;have lk1:1<=kd.2.length:=List.length_pos_iff.mpr ne1;have lkm:((kd.2.map tM).length:Int)=kd.2.length:=by rw[List.length_map]
  have wl:=W.wl;have e1:(u - ((kd.2.map tM).length:Int)).toNat=u.toNat - kd.2.length:=by rw[lkm];omega
  generalize u - ((kd.2.map tM).length:Int)=u' at e1 ⊢
  refine⟨eO kd.2,fun i q=>∃ arms L o12 o13 o14 o15,q = [.r .cq,.r (tW ks hs ws),.r (.l (sc.map tP)),.r (.i f),.r (.rm u'),.r (tKs ks),.r (.l (hs.map tH)),.r (.l (ws.map .s)),.r (.s x),.r (.s kd.1),.o (tMs kd.2),.o (.l L),o12,o13,o14,o15]/\L=arms.map tA/\uQ ks hs h.2.2 sc (sz u'.toNat) (3*u'.toNat+2) arms (kd.2.take i),
   ⟨[],_,_,_,_,_,rfl,rfl,⟨rfl,fun i a m h1=>by simp at h1⟩⟩,?_,?_⟩
  ·rintro i t q hx ⟨arms,L,o12,o13,o14,o15,rfl,rfl,hA⟩
   rw[List.getElem?_map]at hx;obtain⟨m,hm,rfl⟩:=Option.map_eq_some_iff.mp hx;obtain⟨fl4,flk⟩:=W.gk.fl kd hkd m (List.mem_of_getElem? hm);have hik:i<kd.2.length:=(List.getElem?_eq_some_iff.mp hm).1;have lA:arms.length=i:=by rw[hA.ln,List.length_take];omega
   obtain⟨ln,ndn,S'⟩:=S.more (ns:=(ws.drop sc.length).take m.2.length) W.wn rfl (by omega) (by omega) flk
   refine⟨_,rfl,aA (by rw[cn,List.length_map];omega),fun j ys=>ys =(((ws.drop sc.length).take j).zip (m.2.take j)).map tP,rfl,?_,?_⟩
   ·rintro j y ys hy rfl
    obtain⟨z,hz,rfl⟩:=gQ hy;rw[List.getElem?_map]at hz;obtain⟨g,hg,rfl⟩:=Option.map_eq_some_iff.mp hz;have hjm:j<m.2.length:=(List.getElem?_eq_some_iff.mp hg).1;have hwj:sc.length+j<ws.length:=by omega
    have ew:atI (ws.map L2.T.s) (((sc.map tP).length:Int)+(j:Nat))=some (.s ws[sc.length+j]):=by
     rw[List.length_map];exact pQ (j:=sc.length+j) (List.getElem?_eq_getElem hwj)
    refine⟨_,rfl,_,ew,rfl,rfl,?_⟩;show _ ++ [tP (ws[sc.length+j],g)]=_;rw[xB (a:=ws[sc.length+j]) (by rw[List.getElem?_drop,List.getElem?_eq_getElem hwj]) hg,List.map_append]
    rfl
   ·rintro ys rfl
    rw[show(jQ (m.2.map L2.T.s)).length=m.2.length by rw[cn,List.length_map],List.take_length]
    generalize hns:(ws.drop sc.length).take m.2.length=ns at ln ndn S' ⊢
    refine⟨aA (by rw[List.length_map,List.length_zip];omega),fun j ys=>ys =(((ns.zip m.2).take j).map (·.1)).map .s,rfl,?_,?_⟩
    ·rintro j y ys hy rfl
     rw[List.getElem?_map]at hy;obtain⟨p,hp,rfl⟩:=Option.map_eq_some_iff.mp hy;refine⟨_,rfl,rfl,?_⟩;show _ ++ [L2.T.s p.1]=_;rw[List.take_add_one,hp];simp
    ·rintro ys rfl
     rw[show((ns.zip m.2).map tP).length =(ns.zip m.2).length by rw[List.length_map],List.take_length,qG ln]
     refine⟨az _,aA (by rw[List.length_map];omega),rfl,az _,bf (by rw[List.length_map,List.length_map,List.length_zip];omega),aO dg _,aO dg _,ks,hs,ws,sc++ns.zip m.2,f,h,_,by rw[List.map_append],W,hf,S',by rw[List.length_append,List.length_zip];omega,by omega,fun n b hn hb dd=>?_⟩
     refine⟨arms ++ [(m.1,ns,b,n)],_,_,_,_,_,rfl,by simp[tA],?_⟩
     rw[List.take_add_one,hm];exact hA.snoc ⟨rfl,ln,ndn,hb,hn,dd⟩
  ·rintro q ⟨arms,L,o12,o13,o14,o15,rfl,rfl,hA⟩
   rw[List.length_map,List.take_length]at hA;obtain⟨hS,hle⟩:=hA.snd hx hkd;refine⟨rfl,hA.im,hq _ _ ?_ hS ((hA.dep (by omega)).mono (by omega))⟩
   rw[hA.ln,e1]at hle
   have:=JN (n:=u.toNat) lk1 ne6
   omega
def qMk(N:Nat):QS:=fq (FX (Tg.tp [16,17]) (qOp qIx (aD 5) (bS ft (ao (aD 0) (ao (qCB oH (ao (aD 5) bg)) bg)))))
 (fq (FX (Tg.tp [18,19]) (qOp qIx (aD 17) (bS ft (ao (aD 0) (ao (qCB oH (ao (aD 17) bg)) bg)))))
  (fq (kA 15 (bS zI (ao (aD 0) (ao (aD 2) (ao (aD 19) bg)))))
   (fq (wa (gE (qOp (Dm false) (aD 15) (qC .n))) (fun D q=>bS qS (ao (aD 0) (ao (aD 1) (ao (aD 2) (ao (aD 3) bg)))) q D.rt) pM)
    fun D q=>fZ (ao (qC (.s (Str.ofString "make"))) (ao (qIm (aD 9)) (ao (qIm (aD 18)) (ao (qIm (aD 15)) (ao (bS (lK N) (ao (aD 0) (ao (aD 1) (ao (qOp we (aD 2) (F8 (ao (fZ (ao (qIm (aD 9)) (ao (qIm (aD 16)) bg))) bg))) (ao (aD 3) (ao (aD 4) bg)))))) bg))))) q D.rt)))
def qCl(N:Nat):QS:=fq (wa (gE (qOp qj (aD 8) (qC (.i 6))))
 (fq (kA 14 (bS ft (ao (aD 0) (ao (qCB oH (ao (aD 6) bg)) bg))))
  (fq (kA 15 (bS zI (ao (aD 0) (ao (aD 2) (ao (BA [none] (asT (qOp qIx (qOp qIx (aD 6) (aD 14)) (qC (.i 1)))) (Tg.nm 0) FY (qIm (qOp qIx (aD 0) (qC (.i 1))))) bg)))))
   (wa (gE (qOp (Dm true) (aD 15) (qC .n))) (fun D q=>fZ (ao (qC (.s (Str.ofString "call"))) (ao (qIm (aD 9)) (ao (qIm (qOp qIx (qOp qIx (aD 6) (aD 14)) (qC (.i 0)))) (ao (qIm (aD 15)) (ao (bS (lK N) (ao (aD 0) (ao (aD 1) (ao (qOp we (aD 2) (F8 (ao (fZ (ao (qIm (aD 9)) (ao (qIm (qOp qIx (qOp qIx (aD 6) (aD 14)) (qC (.i 2)))) bg))) bg))) (ao (aD 3) (ao (aD 4) bg)))))) bg))))) q D.rt) pM))) pM) (qMk N)
def qNm(N:Nat):QS:=fq (FX (Tg.tp [12,13]) (qOp qIx (aD 2) (bS ft (ao (aD 0) (ao (qCB oH (ao (aD 2) bg)) bg)))))
 fun D q=>fZ (ao (qC (.s (Str.ofString "name"))) (ao (qIm (aD 9)) (ao (qIm (aD 12)) (ao (bS (lK N) (ao (aD 0) (ao (aD 1) (ao (qOp we (aD 2) (F8 (ao (fZ (ao (qIm (aD 9)) (ao (qIm (aD 13)) bg))) bg))) (ao (aD 3) (ao (aD 4) bg)))))) bg)))) q D.rt
structure CY(N B D:Nat)(ks:List Kd)(hs:List Hd)(ws:List Str)(sc:Sc)(f:Nat)(h:Hd)(u:Int)(x:Str)(Q:L2.T->Prop):Prop where
 W:Wld ks hs ws
 kd:∀ p∈sc,p.2∈ks.map (·.1)
 l16:sc.length<=16
 fx:x ∉ sc.map (·.1)
 hE:qS [.cq,tW ks hs ws,.l (sc.map tP),.i f] Q
 go:∀{k:Str},k∈ks.map (·.1)->∀{Q':L2.T->Prop},(∀ n b,n<=B->Snd ks hs h.2.2 n (sc ++ [(x,k)]) b->Dep D b->Q' b)->lK N [.cq,tW ks hs ws,.l (sc.map tP ++ [tP (x,k)]),.i f,.rm u] Q'
 hq:∀ n b,n<=B+1->Snd ks hs h.2.2 n sc b->Dep (D+1) b->Q b
 d1:1<=D
theorem Bu{f:Nat}{h:Hd}{Q:L2.T->Prop}(C:CY N B D ks hs ws sc f h u x Q)(o10 o11 o12 o13 o14 o15 o16 o17 o18 o19:Sl) :
  qMk N { nx:=fun _=>Q .n,rt:=Q } [.r .cq,.r (tW ks hs ws),.r (.l (sc.map tP)),.r (.i f),.r (.rm u),.r (tKs ks),.r (.l (hs.map tH)),.r (.l (ws.map .s)),.o (.i fm),.o (.s x),o10,o11,o12,o13,o14,o15,o16,o17,o18,o19]:=by
 obtain⟨W,kdm,h3,fx,hE,go,hq,d1⟩:=C;have lk:((ks.map tK).length:Int)=ks.length:=by rw[List.length_map]
 have k1:=W.gk.k1;have k2:=W.gk.k2;refine⟨by rw[lk];omega,by rw[lk];omega,fun r6 r60 r61=>?_⟩
 rw[lk]at r61;obtain⟨kd,hkd,ek⟩:=gd (f:=tK) r60 r61;obtain⟨ne1,ne6⟩:=W.gk.ne kd hkd;have lm:((kd.2.map tM).length:Int)=kd.2.length:=by rw[List.length_map]
 have l1:1<=kd.2.length:=List.length_pos_iff.mpr ne1;refine⟨_,ek,fB kd,_,rfl,by rw[lm];omega,by rw[lm];omega,fun r7 r70 r71=>?_⟩
 rw[lm]at r71;obtain⟨m,hm,em⟩:=gd (f:=tM) r70 r71;refine⟨_,em,jN m,_,rfl,sc,m.2,_,.inl rfl,rfl,by omega,by have:=(W.gk.fl kd hkd m hm).1;omega,hE,fun ns hF=>?_⟩
 refine⟨rfl,rfl,az _,rfl,rfl,bf (by rw[List.length_map];show sc.length+1<=10000;omega),aO dg _,rfl,?_⟩
 exact go (List.mem_map.mpr ⟨kd,hkd,rfl⟩) fun n b hn hb dd=>hq (n+1) _ (by omega) (.make hkd hm hF fx hb) (nk dd d1)
theorem Ki{f:Nat}{h:Hd}{Q:L2.T->Prop}(C:CY N B D ks hs ws sc f h u x Q)(hne:sc ≠ [])(o10 o11 o12 o13 o14 o15 o16 o17 o18 o19:Sl) :
  qNm N { nx:=nx,rt:=Q } [.r .cq,.r (tW ks hs ws),.r (.l (sc.map tP)),.r (.i f),.r (.rm u),.r (tKs ks),.r (.l (hs.map tH)),.r (.l (ws.map .s)),.o (.i fm),.o (.s x),o10,o11,o12,o13,o14,o15,o16,o17,o18,o19]:=by
 obtain⟨W,kdm,h3,fx,hE,go,hq,d1⟩:=C;have lsc:((sc.map tP).length:Int)=sc.length:=by rw[List.length_map]
 have l0:0<sc.length:=List.length_pos_iff.mpr hne;refine⟨by rw[lsc];omega,by rw[lsc];omega,fun r5 r50 r51=>?_⟩
 rw[lsc]at r51;obtain⟨⟨y,k⟩,hy,ey⟩:=gd (f:=tP) r50 r51;refine⟨_,ey,rfl,_,rfl,rfl,rfl,rfl,rfl,bf (by rw[List.length_map];show sc.length+1<=10000;omega),aO dg _,rfl,?_⟩
 exact go (kdm _ hy) fun n b hn hb dd=>hq (n+1) _ (by omega) (.name hy fx hb) (HK dd)
theorem Kk{f:Nat}{h:Hd}{Q:L2.T->Prop}(C:CY N B D ks hs ws sc f h u x Q)(o10 o11 o12 o13 o14 o15 o16 o17 o18 o19:Sl) :
  qCl N { nx:=fun _=>Q .n,rt:=Q } [.r .cq,.r (tW ks hs ws),.r (.l (sc.map tP)),.r (.i f),.r (.rm u),.r (tKs ks),.r (.l (hs.map tH)),.r (.l (ws.map .s)),.o (.i fm),.o (.s x),o10,o11,o12,o13,o14,o15,o16,o17,o18,o19]:=by
 obtain⟨W,kdm,h3,fx,hE,go,hq,d1⟩:=id C;refine⟨rfl,aJ (fun _=>?_) (fun _=>Bu C _ _ _ _ _ _ _ _ _ _)⟩
 have lh:((hs.map tH).length:Int)=hs.length:=by rw[List.length_map]
 have h1':=W.h1;have h8':=W.h8;refine⟨by rw[lh];omega,by rw[lh];omega,fun g g0 g1=>?_⟩
 rw[lh]at g1;obtain⟨hd,hhd,eg⟩:=gd (f:=tH) g0 g1;obtain⟨q1,q2,q3,q4⟩:=W.hp hd hhd;refine⟨_,eg,_,rfl,aA (by rw[List.length_map];omega),fun i ys=>ys =((hd.2.1.take i).map (·.2)).map .s,rfl,?_,?_⟩
 ·rintro i t ys ht rfl
  rw[List.getElem?_map]at ht;obtain⟨p,hp,rfl⟩:=Option.map_eq_some_iff.mp ht;refine⟨_,rfl,_,rfl,rfl,?_⟩;show _ ++ [L2.T.s p.2]=_;rw[List.take_add_one,hp];simp
 ·rintro ys rfl
  rw[show(hd.2.1.map tP).length=hd.2.1.length by rw[List.length_map],List.take_length]
  refine⟨sc,hd.2.1.map (·.2),_,.inr rfl,rfl,by omega,by rw[List.length_map];omega,Bu C _ _ _ _ _ _ _ _ _ _,fun ns hF=>?_⟩
  refine⟨rfl,_,eg,_,rfl,rfl,az _,rfl,_,eg,_,rfl,rfl,bf (by rw[List.length_map];show sc.length+1<=10000;omega),aO dg _,rfl,?_⟩
  exact go q4 fun n b hn hb dd=>hq (n+1) _ (by omega) (.call hhd hF fx hb) (nk dd d1)
theorem RL{r:Int}(h0:0<=r)(h1:r<3):∃ w:Str,atI [L2.T.s "pay",L2.T.s "pay",L2.T.s "get"] r=some (.s w)/\(w = "pay" \/ w = "get"):=by
 obtain⟨n,rfl⟩:∃ n:Nat,r=n:=⟨r.toNat,by omega⟩
 match n,h1 with
 | 0,_=>exact⟨_,rfl,.inl rfl⟩
 | 1,_=>exact⟨_,rfl,.inl rfl⟩
 | 2,_=>exact⟨_,rfl,.inr rfl⟩
 | n+3,h=>omega
theorem Li(T:Txt K mg a)(N:Nat):aU P w K mg base CX0 (2*N+3) a.lZ a.AI ["_law_deal_here","_law_world","_law_scope","_law_f","_law_room"] (spQ K (lK N)):=by
 induction N with
 | zero =>
  refine never fun ts Q hh=>?_
  obtain⟨ks,hs,ws,sc,f,h,u,rfl,W,hf,S,hl,huN,hq⟩:=hh;omega
 | succ N iX =>
  have Ql:=Lh T N iX;have aG:=gj (@dX P w K mg base a T);have ua:=@BS P w K mg base a T;have CQ:=@GL P w K mg base a T;refine T.mw.F.okQ bV (fun ts Q h=>?_) (fun _ _ _ _ _ _ hr=>?_)
  ·obtain⟨ks,hs,ws,sc,f,h,u,rfl,_⟩:=h;rfl
  ·have hu:=bJ hr;refine⟨_,_,((ag (vZ (g:=(Tg.tp [5,6,7])) (i:=1) (pv 1) (qV (K:=K) (n:=3) rfl rfl (cB (br 5 bV.nd) (cB (br 6 bV.nd) (cB (br 7 bV.nd) qU)))))
 (ag (ay 8 bV.nd (aL aG hr T.aK (ae (qv 0) (ae ah ar))))
 (ag (a6 (QPW.pt (pL (xT (Kx (qv 4) ah) ah) (pL (b6 hu (qv 8) ah) (lJ (xU (QPF.w (aS T.bh (ae (qv 2) ar))) ah)))))
 (ak (aQ (aL CQ hr T.xx (ae (qv 0) (ae (qv 1) (ae (qv 2) (ae (qv 3) ar)))))))
 aN)
 (ag (xV (i:=4) (pv 4) (pv 4) ah)
 (ag (ay 9 bV.nd (QPE.f (aq (qv 7) (QPF.w (aS T.bh (ae (qv 2) ar))))))
 (ag (a6 (xT (qv 8) ah)
 (ag (ay 10 bV.nd (a5 ah (QPF.w (aL aG hr T.aK (ae (qv 0) (ae (QPF.w (jv (a8 (af a9 (af a9 (af a9 av)))) (QPF.w (aL aG hr T.aK (ae (qv 0) (ae ah ar)))))) ar))))))
 (ag (ay 11 bV.nd (jv (a8 (v9 (by rfl))) (QPF.w (aL aG hr T.aK (ae (qv 0) (ae ah ar))))))
 (ak (aQ (aC (af (QPE.f (qv 11)) (af (QPE.f (qv 10)) (af (aL iX hr T.mw (ae (qv 0) (ae (qv 1) (ae (qv 2) (ae (qv 3) (ae (qv 4) ar)))))) av))))))))
 aN)
 (ag (a6 (QPW.pt (fk (xT (qv 8) ah) (c7 (bj (sD hu rfl) oy (bu _) (qv 2) (QPF.w (a8 av))))))
 (ak (aQ (aL Ql hr T.IJ (ae (qv 0) (ae (qv 1) (ae (qv 2) (ae (qv 3) (ae (qv 4) ar))))))))
 aN)
 (ag (a6 (QPW.pt (fk (b6 hu (qv 8) ah) (c7 (bj (sD hu rfl) oy (bu _) (qv 2) (QPF.w (a8 av))))))
 (ag (iu (g:=(Tg.tp [12,13])) (aq (qv 2) (QPF.w (aL aG hr T.aK (ae (qv 0) (ae (QPF.w (aS T.bh (ae (qv 2) ar))) ar))))) (d5 (br 12 bV.nd) (br 13 bV.nd)))
 (ak (aQ (aC (af a4 (af (QPE.f (qv 9)) (af (QPE.f (qv 12)) (af (aL iX hr T.mw (ae (qv 0) (ae (qv 1) (ae (QPF.w (a5 (qv 2) (QPF.w (a8 (af (aC (af (QPE.f (qv 9)) (af (QPE.f (qv 13)) av))) av))))) (ae (qv 3) (ae (qv 4) ar)))))) av))))))))
 aN)
 (ag (a6 (b6 hu (qv 8) ah)
 (ag (ay 14 bV.nd (aL aG hr T.aK (ae (qv 0) (ae (QPF.w (aS T.bh (ae (qv 6) ar))) ar))))
 (ag (ay 15 bV.nd (aL ua hr T.uk (ae (qv 0) (ae (qv 2) (ae (QPF.w (cE rfl (ju (aq (aq (qv 6) (qv 14)) ah)) (N':=["_law_param"]) (.own rfl .nil) (cM (g:=(Tg.nm 0)) (fun _ _ _ _ _=>⟨(dz 0),(QPE.f (aq (qv 0) ah))⟩)))) ar)))))
 (ak (a6 (bj mY jj (bu _) (qv 15) (QPF.w fY))
 (ak (aQ (aC (af a4 (af (QPE.f (qv 9)) (af (QPE.f (aq (aq (qv 6) (qv 14)) ah)) (af (QPE.f (qv 15)) (af (aL iX hr T.mw (ae (qv 0) (ae (qv 1) (ae (QPF.w (a5 (qv 2) (QPF.w (a8 (af (aC (af (QPE.f (qv 9)) (af (QPE.f (aq (aq (qv 6) (qv 14)) ah)) av))) av))))) (ae (qv 3) (ae (qv 4) ar)))))) av))))))))
 aN))))
 aN)
 (ag (iu (g:=(Tg.tp [16,17])) (aq (qv 5) (QPF.w (aL aG hr T.aK (ae (qv 0) (ae (QPF.w (aS T.bh (ae (qv 5) ar))) ar))))) (d5 (br 16 bV.nd) (br 17 bV.nd)))
 (ag (iu (g:=(Tg.tp [18,19])) (aq (qv 17) (QPF.w (aL aG hr T.aK (ae (qv 0) (ae (QPF.w (aS T.bh (ae (qv 17) ar))) ar))))) (d5 (br 18 bV.nd) (br 19 bV.nd)))
 (ag (ay 15 bV.nd (aL ua hr T.uk (ae (qv 0) (ae (qv 2) (ae (qv 19) ar)))))
 (ag (a6 (bj OS J7 (bu _) (qv 15) (QPF.w fY))
 (ak (aQ (aL CQ hr T.xx (ae (qv 0) (ae (qv 1) (ae (qv 2) (ae (qv 3) ar)))))))
 aN)
 (ak (aQ (aC (af a4 (af (QPE.f (qv 9)) (af (QPE.f (qv 18)) (af (QPE.f (qv 15)) (af (aL iX hr T.mw (ae (qv 0) (ae (qv 1) (ae (QPF.w (a5 (qv 2) (QPF.w (a8 (af (aC (af (QPE.f (qv 9)) (af (QPE.f (qv 16)) av))) av))))) (ae (qv 3) (ae (qv 4) ar)))))) av)))))))))))))))))))))),fun ts Q hh=>?_⟩
   obtain⟨ks,hs,ws,sc,f,h,u,rfl,W,hf,S,hl,huN,hq⟩:=hh;have hE:qS [.cq,tW ks hs ws,.l (sc.map tP),.i f] Q:=⟨ks,hs,ws,sc,f,h,rfl,W,hf,S,fun n b hn hb dd=>hq n b (Nat.le_trans hn (EX _)) hb (dd.mono (by omega))⟩
   have lsc:((sc.map tP).length:Int)=sc.length:=by rw[List.length_map]
   have wl:=W.wl;have hsl:sc.length<ws.length:=by omega
   have ex:atI (ws.map L2.T.s) ((sc.map tP).length:Int)=some (.s ws[sc.length]):=by rw[List.length_map];exact pQ (List.getElem?_eq_getElem hsl)
   have hx:ws[sc.length]? = some ws[sc.length]:=List.getElem?_eq_getElem hsl;have fx:ws[sc.length] ∉ sc.map (·.1):=S.fresh W.wn hx
   generalize ws[sc.length]=x at ex fx hx
   refine⟨_,rfl,by decide,by decide,fun fm f0 f1=>⟨rfl,fun r hr1=>aJ (fun _=>hE) (fun h1=>⟨rfl,aJ (fun _=>hE) (fun _=>aJ (fun _=>hE) (fun h3=>?_))⟩)⟩⟩
   have h1:¬ r<1:=fun z=>h1 (decide_eq_true z)
   have h3:sc.length<=16:=by
    have h3:¬(16:Int)<((sc.map tP).length:Int):=fun z=>h3 (decide_eq_true z)
    rw[lsc]at h3;omega
   have u1:u.toNat =(u - 1).toNat+1:=by omega
   have uN:(u - 1).toNat<N:=by omega
   have s1:=zd (u - 1).toNat;rw[<- u1]at s1;have go:∀{k:Str},k∈ks.map (·.1)->∀{Q':L2.T->Prop},(∀ n b,n<=sz (u - 1).toNat->Snd ks hs h.2.2 n (sc ++ [(x,k)]) b->Dep (3*(u - 1).toNat+2) b->Q' b)->lK N [.cq,tW ks hs ws,.l (sc.map tP ++ [tP (x,k)]),.i f,.rm (u - 1)] Q':=fun{k} hk {Q'} hQ =>
    ⟨ks,hs,ws,sc ++ [(x,k)],f,h,u - 1,by rw[List.map_append];rfl,W,hf,S.snoc hx (by omega) hk,by rw[List.length_append];simp;omega,uN,hQ⟩
   have C:CY N (sz (u - 1).toNat) (3*(u - 1).toNat+2) ks hs ws sc f h (u - 1) x Q:=⟨W,S.kd,h3,fx,hE,go,fun n b hn hb dd=>hq n b (by omega) hb (dd.mono (by omega)),by omega⟩
   refine⟨by decide,_,ex,rfl,aJ (fun _=>?_) (fun _=>?_)⟩
   ·refine⟨by decide,by decide,fun r2 r20 r21=>?_⟩
    obtain⟨v2,ev2,hv2⟩:=BL (x:=3) (y:=9) (z:=9999999) r20 r21;refine⟨_,ev2,by omega,by omega,fun c c0 c1=>⟨by decide,by decide,fun r4 r40 r41=>?_⟩⟩
    obtain⟨wd,ew,hw⟩:=RL r40 r41;refine⟨_,ew,rfl,rfl,ks,hs,ws,sc,f,h,u - 1,rfl,W,hf,S,hl,uN,fun n b hn hb dd=>hq (n+1) _ (by omega) (.kN hw hb) ((DY dd).mono (by omega))⟩
   ·refine(fun rest=>aJ (fun _=>aJ (fun hne=>?_) (fun _=>rest)) (fun _=>rest)) ?_
    ·have Vu:sc ≠ []:=fun z=>by rw[z]at hne;exact absurd hne (by decide)
     exact⟨ks,hs,ws,sc,f,h,u - 1,rfl,W,hf,S,by omega,Vu,uN,fun n b hn hb dd=>hq n b (by rw[u1];exact hn) hb (dd.mono (by omega))⟩
    refine(fun rest=>⟨rfl,aJ (fun _=>aJ (fun hne=>Ki C (fun z=>by rw[z]at hne;exact absurd hne (by decide)) _ _ _ _ _ _ _ _ _ _) (fun _=>rest)) (fun _=>rest)⟩) ?_
    exact Kk C _ _ _ _ _ _ _ _ _ _
theorem zR(T:Txt K mg a):aU P w K mg base CX0 66 a.fi a.vo ["_law_deal_here","_law_words_here"] (spQ K Dr):=by
 have aG:=gj (@dX P w K mg base a T);have My:=@GK P w K mg base a T;have iX:=@Li P w K mg base a T 31;refine T.vF.F.okQ bO (fun ts Q h=>?_) (fun _ _ _ _ _ _ hr=>?_)
 ·obtain⟨ws,rfl,_⟩:=h;rfl
 ·have hu:=bJ hr;refine⟨_,_,((ag (ay 2 bO.nd (aL My hr T.CW (ae (qv 0) (ae (qv 1) ar))))
 (ag (ay 3 bO.nd (aL aG hr T.aK (ae (qv 0) (ae ah ar))))
 (ag (ay 4 bO.nd (a8 av))
 (ag (dy (g:=(Tg.nm 5)) PassesOwn.never rfl (gC rfl T.e8 (ae (QPF.w (a5 ah (QPF.w (aL aG hr T.aK (ae (qv 0) (ae (QPF.w (jv (a8 (af a9 (af a9 (af a9 (af a9 av))))) (QPF.w (aL aG hr T.aK (ae (qv 0) (ae ah ar)))))) ar)))))) ar)) (br 5 bO.nd)
 (ag (ay 6 bO.nd (jv (a8 (af a9 (af a9 (af a9 (af a9 (af a9 (af a9 (af a9 av)))))))) (QPF.w (aL aG hr T.aK (ae (qv 0) (ae ah ar))))))
 (ag (ix (i:=7) bO.nd rfl (Or.inl rfl) rfl (kg rfl T.e8 (ae (qv 6) ar)) (N':=["_law_k","_law_words_here","_law_kinds_here","_law_deal_here"]) (.own rfl (.got (i:=1) rfl rfl (.inl rfl) (.got (i:=2) rfl rfl (.inl rfl) (.got (i:=0) rfl rfl (.inl rfl) .nil)))) (cM (g:=(Tg.nm 0)) (fun _ _ _ _ _=>⟨(dz 0),(aC (af (QPE.f (aq (qv 1) (qv 0))) (af (QPE.f (aq (aq (qv 2) (QPF.w (aL aG hr T.aK (ae (qv 3) (ae (QPF.w (aS T.bh (ae (qv 2) ar))) ar))))) ah)) av)))⟩)))
 (ak (cD (i:=4) (pv 4) (aC (af (QPE.f (aq (qv 1) (QPF.w (se (QPF.w (a5 (qv 3) (qv 5))) ah)))) (af (bz (cp rfl) ck (by rfl) T.dY (by kernel_rfl) (ae (qv 7) ar)) (af (QPE.f (aq (aq (qv 2) (QPF.w (aL aG hr T.aK (ae (qv 0) (ae (QPF.w (aS T.bh (ae (qv 2) ar))) ar))))) ah)) av)))))))))
 (ag (ay 8 bO.nd (a8 av))
 (ag (dy (g:=(Tg.tp [5,9])) PassesOwn.never rfl (FT (i:=4) rfl T.fN (by kernel_rfl) (pv 4)) (d5 (br 5 bO.nd) (br 9 bO.nd))
 (ag (ay 10 bO.nd (Kw (a8 (af (jv (a8 (af a9 (af a9 (af a9 (af a9 (af a9 (af a9 av))))))) (QPF.w (aL aG hr T.aK (ae (qv 0) (ae ah ar))))) av))))
 (ak (cD (i:=8) (pv 8) (a5 (qv 9) (QPF.w (aC (af (aL iX hr T.mw (ae (qv 0) (ae (Kv (ae (qv 2) (ae (qv 4) (ae (qv 1) ar)))) (ae (QPF.w (bz (Ed rfl) De (by rfl) T.A1 (by kernel_rfl) (ae (aq (qv 9) ah) ar))) (ae (qv 5) (ae (qv 10) ar)))))) av))))))))
 (ak (aQ (aC (af (QPE.f (qv 2)) (af (bz (cp rfl) ck (by rfl) T.dY (by kernel_rfl) (ae (qv 8) ar)) av)))))))))))),fun ts Q hh=>?_⟩
  obtain⟨ws,rfl,hl,hnd,hq⟩:=hh;refine⟨ws,rfl,hl,hnd,fun ks gk=>⟨by decide,by decide,fun tn t0 t1=>⟨by decide,by decide,fun r r0 r1=>?_⟩⟩⟩
  obtain⟨v,hv,ev⟩:=gd (xs:=[2,3,3,8]) (f:=L2.T.i) r0 r1;have hv:v=2\/v=3\/v=3\/v=8:=by simpa using hv
  have k1:=gk.k1;have k2:=gk.k2;have lk:((ks.map tK).length:Int)=ks.length:=by rw[List.length_map]
  refine⟨_,ev,by omega,by omega,fun n n0 n1=>?_⟩
  refine⟨by omega,by omega,fun i q=>∃ hs L o5 o6 o7,q = [.r .cq,.r (.l (ws.map .s)),.o (tKs ks),.o (.i tn),.o (.l L),o5,o6,o7,.no,.no,.no]/\L=hs.map tH/\vC ks ws tn.toNat hs i,⟨[],_,_,_,_,rfl,rfl,⟨rfl,rfl,fun _ z=>nomatch z⟩⟩,?_,?_⟩
  ·rintro i x q hx ⟨hs,L,o5,o6,o7,rfl,rfl,hH⟩
   obtain⟨rfl,hi⟩:=il hx;refine⟨_,rfl,by decide,by decide,fun r2 r20 r21=>?_⟩
   obtain⟨m,hm,em⟩:=gd (xs:=[1,1,2,2,0,3,4]) (f:=L2.T.i) r20 r21;have hm:m=1\/m=1\/m=2\/m=2\/m=0\/m=3\/m=4:=by simpa using hm
   refine⟨_,em,by omega,by omega,aA (by rw[cQ];omega),fun p ys=>∃ ps:Sc,ys=ps.map tP/\ps.map (·.1)=ws.take p/\∀ q∈ps,q.2∈ks.map (·.1),⟨[],rfl,rfl,fun _ z=>nomatch z⟩,?_,?_⟩
   ·rintro p y ys hy ⟨ps,rfl,hp1,hp2⟩
    obtain⟨rfl,hp⟩:=il hy;have hpw:p<ws.length:=by omega
    have ew:atI (ws.map L2.T.s) (0+((p:Nat):Int))=some (.s ws[p]):=by rw[Int.zero_add];exact pQ (by simp[hpw])
    refine⟨_,rfl,_,ew,rfl,by rw[lk];omega,by rw[lk];omega,fun r3 r30 r31=>?_⟩
    rw[lk]at r31;obtain⟨kd,hkd,ek⟩:=gd (f:=tK) r30 r31;refine⟨_,ek,_,rfl,rfl,ps ++ [(ws[p],kd.1)],by simp[tP],?_,fun q hq'=>?_⟩
    ·rw[List.map_append,hp1];exact take_one (by simp[hpw])
    ·rcases List.mem_append.mp hq' with z|z
     ·exact hp2 q z
     ·rw[List.mem_singleton.mp z];exact List.mem_map.mpr ⟨kd,hkd,rfl⟩
   ·rintro ys ⟨ps,rfl,hp1,hp2⟩
    rw[cQ]at hp1;have lps:ps.length=m.toNat:=by
     have:=congrArg List.length hp1
     rw[List.length_map,List.length_take]at this;omega
    have hwi:(tn.toNat+i) % 52<ws.length:=by omega
    have ei:atI (ws.map L2.T.s) ((tn+(0+(i:Int))) % 52)=some (.s ws[(tn.toNat+i) % 52]):=by
     have e:(tn+(0+(i:Int))) % 52 =(((tn.toNat+i) % 52:Nat):Int):=by omega
     rw[e];exact pQ (by simp[hwi])
    refine⟨aA (by rw[List.length_map,hH.ln];omega),(by show(0:Int)<52;decide),_,ei,rfl,aO dg _,by rw[lk];omega,by rw[lk];omega,fun r4 r40 r41=>?_⟩
    rw[lk]at r41;obtain⟨kd,hkd,ek⟩:=gd (f:=tK) r40 r41;refine⟨_,ek,_,rfl,rfl,hs ++ [(ws[(tn.toNat+i) % 52],ps,kd.1)],_,_,_,_,rfl,by simp[tH],hH.snoc (List.getElem?_eq_getElem hwi) ⟨by show ps.length<=4;omega,hp2,by show ps.map (·.1)=ws.take ps.length;rw[lps];exact hp1,List.mem_map.mpr ⟨kd,hkd,rfl⟩⟩⟩
  ·rintro q ⟨hs,L,o5,o6,o7,rfl,rfl,hH⟩
   rw[cQ]at hH;have W:Wld ks hs ws:=⟨gk,hl,hnd,by rw[hH.ln];omega,by rw[hH.ln];omega,hH.nd hl hnd (by omega),hH.hp⟩
   refine⟨fun i q=>∃ fs L o5 o9 o10,q = [.r .cq,.r (.l (ws.map .s)),.o (tKs ks),.o (.i tn),.r (.l (hs.map tH)),o5,o6,o7,.o (.l L),o9,o10]/\L=fs.map tF/\fs.map (·.1)=hs.take i/\∀ f∈fs,Snd ks hs f.1.2.2 f.2.2 f.1.2.1 f.2.1/\f.2.2<=50000/\Dep 92 f.2.1,⟨[],_,_,_,_,rfl,rfl,rfl,fun _ z=>nomatch z⟩,?_,?_⟩
   ·rintro i x q hx ⟨fs,L,o5,o9,o10,rfl,rfl,hf1,hf2⟩
    obtain⟨y,hy,rfl⟩:=gQ hx;rw[List.getElem?_map]at hy;obtain⟨hd,hhd,rfl⟩:=Option.map_eq_some_iff.mp hy;have yt:=List.mem_of_getElem? hhd;obtain⟨q1,q2,q3,q4⟩:=W.hp hd yt;have lfs:fs.length=i:=by
     have:=congrArg List.length hf1
     rw[List.length_map,List.length_take]at this
     have:=(List.getElem?_eq_some_iff.mp hhd).1
     omega
    have lhs:=W.h8;have hil:=(List.getElem?_eq_some_iff.mp hhd).1;refine⟨_,rfl,by decide,by decide,fun r5 r50 r51=>?_⟩
    obtain⟨u,hu5,eu⟩:=gd (xs:=[3,6,10,6,10,30]) (f:=L2.T.i) r50 r51;have hu5:u=3\/u=6\/u=10\/u=6\/u=10\/u=30:=by simpa using hu5
    refine⟨_,eu,aA (by rw[List.length_map];omega),_,rfl,aO dg _,ks,hs,ws,hd.2.1,i,hd,u,rfl,W,hhd,⟨q3,by omega,q2,Nat.le_refl _,by rw[List.take_length]⟩,by omega,by omega,fun n b hn hb dd=>?_⟩
    refine⟨bf (by show 4<=10000;decide),Sk hd,(by show(b.im&&true)=true;rw[hb.im];rfl),fs ++ [(hd,b,n)],_,_,_,_,rfl,by simp[tF],?_,fun f' hf'=>?_⟩
    ·rw[List.map_append,hf1,List.take_add_one,hhd];rfl
    ·rcases List.mem_append.mp hf' with z|z
     ·exact hf2 f' z
     ·rw[List.mem_singleton.mp z];exact⟨hb,Nat.le_trans hn (Nat.le_trans (JM (by omega)) Q0),dd.mono (by omega)⟩
   ·rintro q ⟨fs,L,o5,o9,o10,rfl,rfl,hf1,hf2⟩
    rw[cn,List.length_map,List.take_length]at hf1;have him:L2.T.ims (fs.map tF)=true:=by
     have go:∀(l:List Fn),(∀ f∈l,f.2.1.im=true)->L2.T.ims (l.map tF)=true:=by
      intro l
      induction l with
      | nil=>intro _;rfl
      | cons f r ih =>
       intro h;show((true&&(L2.T.ims (f.1.2.1.map tP)&&(true&&(f.2.1.im&&true))))&&L2.T.ims (r.map tF))=true;rw[aO dg,h f List.mem_cons_self,ih fun f hf=>h f (List.mem_cons_of_mem _ hf)];rfl
     exact go fs fun f hf=>(hf2 f hf).1.im
    refine⟨jO ks,him,hq ks fs ⟨gk,?_,?_,fun f hf=>?_,fun f hf=>?_,fun f hf=>(hf2 f hf).2.2⟩⟩
    ·have:=congrArg List.length hf1
     rw[List.length_map]at this
     have:=W.h8
     omega
    ·have:fs.map (·.1.1) =(fs.map (·.1)).map (·.1):=by rw[List.map_map];rfl
     rw[this,hf1];exact W.hn
    ·have hm:f.1∈hs:=by rw[<- hf1];exact List.mem_map.mpr ⟨f,hf,rfl⟩
     obtain⟨q1,q2,q3,q4⟩:=W.hp f.1 hm;exact⟨q1,q2,by rw[q3];exact hnd.sublist (List.take_sublist _ _),q4⟩
    ·rw[hf1];exact⟨(hf2 f hf).1,(hf2 f hf).2.1⟩
theorem wu(T:Txt K mg a):aU P w K mg base CX0 1 a.lY a.AH ["known","name"] (spQ K Oy):=by
 refine T.i3.F.okQ Br (fun ts Q h=>?_) (fun _ _ _ _ _ _ hr=>?_)
 ·obtain⟨m,ks,x,rfl,_⟩:=h;rfl
 ·have hu:=bJ hr;refine⟨_,_,((ak (a6 (bj (u9 hu) mI rfl (qv 1) (qv 0))
 (ak gB)
 aN))),fun ts Q h=>?_⟩
  obtain⟨m,ks,x,rfl,hm,hx,hq⟩:=h;cases m with
  | d ks'=>cases hm;exact aJ (fun z=>absurd (show(!(a7 ks (.inr x)).isSome)=true from z) (by rw[hx];decide)) (fun _=>hq)
  | fd o vs ks'=>cases hm;exact aJ (fun z=>absurd (show(!(a7 ks (.inr x)).isSome)=true from z) (by rw[hx];decide)) (fun _=>hq)
  | dp p ks'=>cases hm;exact aJ (fun z=>absurd (show(!(a7 ks (.inr x)).isSome)=true from z) (by rw[hx];decide)) (fun _=>hq)
  | _=>cases hm
theorem m3(T:Txt K mg a):aU P w K mg base CX0 1 a.cW a.pR ["bound","name","kind"] (spQ K zD):=by
 refine T.j8.F.okQ vS (fun ts Q h=>?_) (fun _ _ _ _ _ _ hr=>?_)
 ·obtain⟨m,ks,x,k,rfl,_⟩:=h;rfl
 ·have hu:=bJ hr;refine⟨_,_,((ak (a6 (bj u7 oz (bu _) (iy (qv 0) (qv 1)) (qv 2))
 (ak gB)
 aN))),fun ts Q h=>?_⟩
  obtain⟨m,ks,x,k,rfl,hm,hx,hq⟩:=h;cases m with
  | d ks'=>cases hm;exact⟨_,hx,rfl,aJ (fun z=>absurd z (by simp)) (fun _=>hq)⟩
  | fd o vs ks'=>cases hm;exact⟨_,hx,rfl,aJ (fun z=>absurd z (by simp)) (fun _=>hq)⟩
  | dp p ks'=>cases hm;exact⟨_,hx,rfl,aJ (fun z=>absurd z (by simp)) (fun _=>hq)⟩
  | _=>cases hm
theorem wA(T:Txt K mg a):aU P w K mg base CX0 1 a.l5 a.AJ ["bound","name","what"] (spM K 0 OA):=by
 refine T.bR.F.okM Bs (fun ts Q h=>?_) (fun _ _ _ _ _ _ hr=>?_)
 ·obtain⟨p,ks,x,v,rfl,_⟩:=h;rfl
 ·have hu:=bJ hr;refine⟨_,_,((ag (a6 (bj (GH hu) mI rfl (qv 1) (qv 0))
 (ak gB)
 aN)
 (ak (Bx (i:=0) hu (pv 0) (qv 1) (qv 2))))),fun ts Q p' ks' h ht=>?_⟩
  obtain⟨p,ks,x,v,rfl,hx,hi,hv,hl,hq⟩:=h;cases ht;refine aJ (fun z=>absurd (show(a7 ks' (.inr x)).isSome=true from z) (by rw[hx];decide)) (fun _=>⟨hl,hi,hv,_,rfl,Ce hi hv,hq⟩)
theorem Lf(T:Txt K mg a):aU P w K mg base CX0 1 a.bG a.iO ["self","kinds","makers","functions"] (zf a.aT ["kinds","makers","functions"]):=by
 refine Fun.ok (k:=0) T.fc uu (fun vs H Q E h=>?_) fun cdv A outer s H vs Q E hr h=>?_
 ·obtain⟨x,dx,args,rfl,hl,_⟩:=h;show args.length+1=4;rw[hl];rfl
 ·obtain⟨x,dx,args,rfl,hl,hx,hq⟩:=h;obtain⟨v1,v2,v3,rfl⟩:∃ v1 v2 v3,args = [v1,v2,v3]:=by
   match args,hl with
   | [v1,v2,v3],_=>exact⟨v1,v2,v3,rfl⟩
  refine⟨_,bE (zC (pv 0) (pv 1) rfl) (bE (zC (pv 0) (pv 2) rfl) (eZ (zC (pv 0) (pv 3) rfl))),?_⟩;refine⟨_,rfl,_,rfl,x,a.aT,dx,_,rfl,hx,T.d7,T.df,(by show 0<1000;decide),?_⟩
  refine⟨_,rfl,_,rfl,x,a.aT,dx,_,rfl,aj,T.d7,T.i7,(by show 1<1000;decide),?_⟩
  refine⟨_,rfl,_,rfl,x,a.aT,dx,_,rfl,aj,T.d7,T.fw,(by show 2<1000;decide),?_⟩
  rw[qI,qI];exact hq
theorem wx(T:Txt K mg a):aU P w K mg base CX0 2 a.cX a.pS ["arm","fields","above"] (spQ K zE):=by
 have ub:=@wA P w K mg base a T;refine T.p8.F.okQ eY (fun ts Q h=>?_) (fun _ _ _ _ _ _ hr=>?_)
 ·obtain⟨x,b,m,ns,fs,sc,rfl,_⟩:=h;rfl
 ·have hu:=bJ hr;refine⟨_,_,((ag (a6 (bj u7 oz (bu _) (QPF.w (aS T.bh (ae (aq (qv 0) ah) ar))) (QPF.w (aS T.bh (ae (qv 1) ar))))
 (ak gB)
 aN)
 (ag (ay 3 eY.nd (bz tR vQ (by rfl) T.A2 (by kernel_rfl) (ae (qv 2) ar)))
 (ag (dy (g:=(Tg.tp [4,5])) PassesOwn.never rfl (FR rfl T.Im (by kernel_rfl) (ae (aq (qv 0) ah) (ae (qv 1) ar))) (d5 (br 4 eY.nd) (br 5 eY.nd))
 (ak (ke (i:=3) (j:=0) ub (hr.mono (by first|decide|omega)) rfl T.bR.m T.bR.F.kp T.bR.b (dS (i:=3) (pv 3) (ae (qv 4) (ae (qv 5) ar))))))
 (ak (mR (i:=3) (pv 3))))))),fun ts Q h=>?_⟩
  obtain⟨x,b,m,ns,fs,sc,rfl,hxi,hbi,⟨o,vs,rfl⟩,hlen,hl1,hl2,hn,hq⟩:=h;refine⟨_,rfl,rfl,aJ (fun z=>absurd z (by simp[hlen])) (fun _=>⟨bY iK _,_,rfl,az _,az _,fun i q=>∃ D o4 o5,q = [.r (.t [x,.t (ns.map .s),b]),.r (.t (fs.map .s)),.r (.fd o vs (en L2.T.s sc)),.o (.d D),o4,o5]/\D=en L2.T.s (sc++(ns.zip fs).take i),⟨_,_,_,rfl,by simp⟩,?_,?_⟩)⟩
  ·rintro i t q hx ⟨D,o4,o5,rfl,rfl⟩
   obtain⟨y,z,h1,h2,rfl⟩:=qH hx;rw[List.getElem?_map]at h1 h2;obtain⟨n,hn1,rfl⟩:=Option.map_eq_some_iff.mp h1;obtain⟨f,hf1,rfl⟩:=Option.map_eq_some_iff.mp h2;have hz:(ns.zip fs)[i]? = some (n,f):=List.getElem?_zip_eq_some.mpr ⟨hn1,hf1⟩;have hi:=(List.getElem?_eq_some_iff.mp hn1).1;have fr:n ∉ (sc++(ns.zip fs).take i).map (·.1):=by
    rw[List.map_append,List.map_take,qG hlen];exact fresh_at hn hn1
   refine⟨_,rfl,bY iK _,fun p=>⟨rfl,p,_,n,.s f,rfl,qZ fr,bY iK _,rfl,e7 (by rw[l9,List.length_append,List.length_take];omega),?_⟩⟩
   rw[l7 fr];refine⟨_,_,_,rfl,?_⟩;rw[List.take_add_one,hz,List.append_assoc];rfl
  ·rintro q ⟨D,o4,o5,rfl,rfl⟩
   have e:(vH (ns.map L2.T.s) (fs.map L2.T.s)).length =(ns.zip fs).length:=by rw[jf,List.length_map,List.length_map,List.length_zip]
   rw[e,List.take_length];exact hq
theorem yf(T:Txt K mg a):aU P w K mg base CX0 2 a.dH a.tG ["makings","piece","bound"] (spM K 2 Ds):=by
 have pB:=@wu P w K mg base a T;have j7:=@m3 P w K mg base a T;have ub:=@wA P w K mg base a T;refine T.cT.F.okM cU (fun ts Q h=>?_) (fun _ _ _ _ _ _ hr=>?_)
 ·obtain⟨o,vs,L,pw,b,x,m,k,ns,fs,p,sc,rfl,_⟩:=h;rfl
 ·have hu:=bJ hr;refine⟨_,_,((ag (ay 3 cU.nd (QPE.f (aq (qv 1) ah)))
 (ag (dy (g:=(Tg.nm 4)) PassesOwn.never rfl (fX (QPE.f (qv 3))) (br 4 cU.nd)
 (ak (iw (QPF.w (aL pB hr T.i3 (ae (qv 2) (ae (qv 4) ar)))))))
 (ag (iw (QPF.w (aL pB hr T.i3 (ae (qv 0) (ae (aq (qv 1) ah) ar)))))
 (ag (ay 5 cU.nd (QPE.f (aq (iy (qv 0) (aq (qv 1) ah)) ah)))
 (ag (a6 (bj u7 oz (bu _) (QPF.w (aS T.bh (ae (qv 3) ar))) (QPF.w (aS T.bh (ae (qv 5) ar))))
 (ak gB)
 aN)
 (ag (dy (g:=(Tg.tp [4,6])) PassesOwn.never rfl (FR rfl T.Im (by kernel_rfl) (ae (qv 3) (ae (qv 5) ar))) (d5 (br 4 cU.nd) (br 6 cU.nd))
 (ak (iw (QPF.w (aL j7 hr T.j8 (ae (qv 2) (ae (qv 4) (ae (qv 6) ar))))))))
 (ak (ke (i:=2) (j:=0) ub (hr.mono (by first|decide|omega)) rfl T.bR.m T.bR.F.kp T.bR.b (dS (i:=2) (pv 2) (ae (aq (qv 1) ah) (ae (aq (iy (qv 0) (aq (qv 1) ah)) ah) ar)))))))))))),fun ts Q p' ks' h ht=>?_⟩
  obtain⟨o,vs,L,pw,b,x,m,k,ns,fs,p,sc,rfl,hL,hm,hF,hsn,hx,hpi,hbi,hsl,hq⟩:=h;cases ht;have lk:=fM (g:=gM) hL hm;have lnn:∀{i:Nat}{n f:Str},ns[i]? = some n->fs[i]? = some f ->(n,f)∈sc:=fun{i n f} h1 h2=>hF.2 (n,f) (List.mem_of_getElem? (i:=i) (List.getElem?_zip_eq_some.mpr ⟨h1,h2⟩))
  refine⟨_,rfl,az _,az _,fun i q=>∃ o4,q = [.r (.fd o vs (en gM L)),.r (.t [pw,.s x,.s m,.t (ns.map .s),b]),.o (.dp p' (en L2.T.s sc)),.o (.t (ns.map .s)),o4,.no,.no],⟨_,rfl⟩,?_,?_⟩
  ·rintro i t q hx' ⟨o4,rfl⟩
   rw[List.getElem?_map]at hx';obtain⟨n,hn1,rfl⟩:=Option.map_eq_some_iff.mp hx';have hi:=(List.getElem?_eq_some_iff.mp hn1).1;have yt:=lnn hn1 (List.getElem?_eq_getElem (by rw[<- hF.1];exact hi))
   exact⟨_,rfl,_,_,n,rfl,rfl,LX hsn (List.mem_map.mpr ⟨_,yt,rfl⟩),_,rfl⟩
  ·rintro q ⟨o4,rfl⟩
   refine⟨_,rfl,_,_,m,rfl,rfl,by rw[lk];rfl,_,rfl,_,lk,_,rfl,az _,rfl,aJ (fun z=>absurd z (by simp[hF.1])) (fun _=>?_)⟩
   refine⟨az _,az _,fun i q=>∃ o4 o6,q = [.r (.fd o vs (en gM L)),.r (.t [pw,.s x,.s m,.t (ns.map .s),b]),.o (.dp p' (en L2.T.s sc)),.o (.t (ns.map .s)),o4,.o (.t (fs.map .s)),o6],⟨_,_,rfl⟩,?_,?_⟩
   ·rintro i t q hx' ⟨o4,o6,rfl⟩
    obtain⟨y,z,h1,h2,rfl⟩:=qH hx';rw[List.getElem?_map]at h1 h2;obtain⟨n,hn1,rfl⟩:=Option.map_eq_some_iff.mp h1;obtain⟨f,hf1,rfl⟩:=Option.map_eq_some_iff.mp h2;exact⟨_,rfl,_,_,n,f,rfl,rfl,fM hsn (lnn hn1 hf1),_,_,rfl⟩
   ·rintro q ⟨o4,o6,rfl⟩
    refine⟨bY iK _,_,rfl,_,rfl,_,lk,_,rfl,rfl,p',_,x,.s k,rfl,qZ hx,bY iK _,rfl,e7 (by rw[l9];omega),?_⟩
    rw[l7 hx];exact⟨_,rfl,bY iK _,hq⟩
theorem uw(T:Txt K mg a):aU P w K mg base CX0 3 a.cH a.nq ["known","piece","bound"] (spM K 2 (x5 a.aT)):=by
 have pB:=@wu P w K mg base a T;have ub:=@wA P w K mg base a T;have t9:=@yf P w K mg base a T;refine T.ff.F.okM kG (fun ts Q h=>?_) (fun _ _ _ _ _ _ hr=>?_)
 ·obtain⟨kn,ks,hs,pc,b,p,sc,sc',rfl,_⟩:=h;rfl
 ·have hu:=bJ hr;refine⟨_,_,((ag (ay 3 kG.nd (QPE.f (aq (qv 1) ah)))
 (ak (a6 (b6 hu (qv 3) (QPF.w a4))
 (ak (ke (i:=2) (j:=2) t9 (hr.mono (by first|decide|omega)) rfl T.cT.m T.cT.F.kp T.cT.b (kf (mT T.d7 T.i7 (qv 0)) (kf (qv 1) (dS (i:=2) (pv 2) ar)))))
 (ak (a6 (b6 hu (qv 3) (QPF.w a4))
 (ak (ke (i:=2) (j:=2) t9 (hr.mono (by first|decide|omega)) rfl T.cT.m T.cT.F.kp T.cT.b (kf (mT T.d7 T.fw (qv 0)) (kf (qv 1) (dS (i:=2) (pv 2) ar)))))
 (ak (a6 (b6 hu (qv 3) (QPF.w a4))
 (ag (iw (QPF.w (aL pB hr T.i3 (ae (qv 2) (ae (aq (qv 1) ah) ar)))))
 (ak (ke (i:=2) (j:=0) ub (hr.mono (by first|decide|omega)) rfl T.bR.m T.bR.F.kp T.bR.b (dS (i:=2) (pv 2) (ae (aq (qv 1) ah) (ae (iy (qv 2) (aq (qv 1) ah)) ar))))))
 aN)))))))),fun ts Q p' ks' h ht=>?_⟩
  obtain⟨kn,ks,hs,pc,b,p,sc,sc',rfl,⟨o1,v1,o2,v2,o3,v3,rfl⟩,G,hn,hS,hbi,hsn,hsl,hq⟩:=h;cases ht;cases hS with
  | kN hw =>
   refine⟨_,rfl,rfl,rfl,aJ (fun z=>?_) (fun _=>⟨rfl,aJ (fun z=>?_) (fun _=>⟨rfl,aJ (fun z=>?_) (fun _=>⟨_,rfl,bY iK _,hq⟩)⟩)⟩)⟩
   all_goals(rcases hw with rfl|rfl <;> exact absurd z (by decide +kernel))
  | @name x y k _ hy hx =>
   refine⟨_,rfl,rfl,rfl,aJ (fun z=>absurd z (by decide +kernel)) (fun _=>⟨rfl,aJ (fun z=>absurd z (by decide +kernel)) (fun _=>⟨rfl,aJ (fun _=>?_) (fun z=>absurd (by decide +kernel) z)⟩)⟩)⟩
   have lk:=fM (g:=L2.T.s) hsn hy;refine⟨_,rfl,_,_,y,rfl,rfl,by rw[lk];rfl,bY iK _,_,rfl,_,rfl,_,lk,rfl,p',_,x,.s k,rfl,qZ hx,bY iK _,rfl,e7 (by rw[l9];omega),?_⟩
   rw[l7 hx];exact⟨_,rfl,bY iK _,hq⟩
  | @make x m kd ns _ hkd hm hF hx =>
   refine⟨_,rfl,rfl,rfl,aJ (fun _=>?_) (fun z=>absurd (by decide +kernel) z)⟩
   exact⟨bY iK _,rfl,by decide,_,rfl,rfl,(by show(true&&(true&&(true&&(L2.T.ims (ns.map .s)&&(b.im&&true)))))=true;rw[az,hbi];rfl),rfl,o2,v2,mkL ks,.s "make",b,x,m.1,kd.1,ns,m.2,p',sc,rfl,by rw[oN];exact G.mn,B1 hkd hm,hF,hsn,hx,rfl,hbi,hsl,_,rfl,bY iK _,hq⟩
  | @call x h ns _ hh hF hx =>
   refine⟨_,rfl,rfl,rfl,aJ (fun z=>absurd z (by decide +kernel)) (fun _=>⟨rfl,aJ (fun _=>?_) (fun z=>absurd (by decide +kernel) z)⟩)⟩
   exact⟨bY iK _,rfl,by decide,_,rfl,rfl,(by show(true&&(true&&(true&&(L2.T.ims (ns.map .s)&&(b.im&&true)))))=true;rw[az,hbi];rfl),rfl,o3,v3,hsL hs,.s "call",b,x,h.1,h.2.2,ns,h.2.1.map (·.2),p',sc,rfl,by rw[ve];exact hn,LL hh,hF,hsn,hx,rfl,hbi,hsl,_,rfl,bY iK _,hq⟩
theorem wz(T:Txt K mg a):aU P w K mg base CX0 1 a.cZ a.pU ["known","piece","bound"] (spQ K (zH a.aT)):=by
 refine T.qf.F.okQ mK (fun ts Q h=>?_) (fun _ _ _ _ _ _ hr=>?_)
 ·obtain⟨kn,ks,hs,x,kd,arms,o,vs,sc,rfl,_⟩:=h;rfl
 ·have hu:=bJ hr;refine⟨_,_,((ag (ay 3 mK.nd (QPE.f (KA hu (mT T.d7 T.df (qv 0)) (iy (qv 2) (aq (qv 1) ah)) (QPF.w (aC av)))))
 (ag (a6 (bj (OQ hu rfl) J0 (bu _) (QPF.w (cE rfl (ju (aq (qv 1) ah)) (N':=["arm"]) (.own rfl .nil) (cM (g:=(Tg.nm 0)) (fun _ _ _ _ _=>⟨(dz 0),(QPE.f (aq (qv 0) ah))⟩)))) (QPF.w (cE rfl (ju (qv 3)) (N':=["maker"]) (.own rfl .nil) (cM (g:=(Tg.nm 0)) (fun _ _ _ _ _=>⟨(dz 0),(QPE.f (aq (qv 0) ah))⟩)))))
 (ak gB)
 aN)
 (ak (aQ (cE rfl (Od rfl T.Im (by kernel_rfl) (ae (aq (qv 1) ah) (ae (qv 3) ar))) (N':=["arm","maker","bound"]) (.own rfl (.own rfl (.got (i:=2) rfl rfl (.inl rfl) .nil))) (cM (g:=(Tg.tp [0,1])) (fun _ _ _ _ _=>⟨(d5 (dz 0) (dz 1)),(aC (af (QPE.f (qv 0)) (af (QPE.f (aq (qv 1) ah)) (af (QPE.f (qv 2)) av))))⟩)))))))),fun ts Q h=>?_⟩
  obtain⟨kn,ks,hs,x,kd,arms,o,vs,sc,rfl,⟨o1,v1,o2,v2,o3,v3,rfl⟩,G,hx,hkd,hnm,hsn,him,hq⟩:=h;have lk:=fM (g:=L2.T.s) hsn hx;have lk2:a7 (en tMs ks) (.inr kd.1)=some (tMs kd.2):=fM (g:=tMs) (v:=kd.2) G.nd hkd;refine⟨rfl,by decide,_,rfl,_,rfl,_,lk,?_⟩
  show L2.T.im (Option.getD (a7 (en tMs ks) (.inr kd.1)) (.t []))=true/\_;rw[lk2];have h6:=G.ne kd hkd;have hla:arms.length=kd.2.length:=by have:=congrArg List.length hnm;simpa using this
  refine⟨eO kd.2,_,rfl,aA (by rw[List.length_map];omega),fun i ys=>ys =((arms.take i).map (·.1)).map .s,rfl,?_,?_⟩
  ·rintro i y ys hy rfl
   rw[List.getElem?_map]at hy;obtain⟨p,hp,rfl⟩:=Option.map_eq_some_iff.mp hy;refine⟨_,rfl,_,rfl,rfl,?_⟩;show _ ++ [L2.T.s p.1]=_;rw[List.take_add_one,hp];simp
  ·rintro ys rfl
   rw[show(arms.map tA).length=arms.length by rw[List.length_map],List.take_length]
   refine⟨aA (by rw[List.length_map];omega),fun i ys=>ys =((kd.2.take i).map (·.1)).map .s,rfl,?_,?_⟩
   ·rintro i y ys hy rfl
    rw[List.getElem?_map]at hy;obtain⟨p,hp,rfl⟩:=Option.map_eq_some_iff.mp hy;refine⟨_,rfl,_,rfl,rfl,?_⟩;show _ ++ [L2.T.s p.1]=_;rw[List.take_add_one,hp];simp
   ·rintro ys rfl
    rw[show(kd.2.map tM).length=kd.2.length by rw[List.length_map],List.take_length,<- hnm]
    refine⟨by rw[fJ];rfl,aJ (fun z=>absurd (show(!eqF ((arms.map (·.1)).map L2.T.s) ((arms.map (·.1)).map L2.T.s))=true from z) (by rw[yA];decide)) (fun _=>?_)⟩
    refine⟨_,rfl,aA (by rw[jf,List.length_map,List.length_map];omega),fun i ys=>ys=C2 (arms.take i) (kd.2.take i) o vs sc,rfl,?_,?_⟩
    ·rintro i y ys hy rfl
     obtain⟨y1,z1,h1,h2,rfl⟩:=qH hy;rw[List.getElem?_map]at h1 h2;obtain⟨a1,ha1,rfl⟩:=Option.map_eq_some_iff.mp h1;obtain⟨m1,hm1,rfl⟩:=Option.map_eq_some_iff.mp h2;refine⟨_,rfl,?_,_,rfl,az _,rfl,?_⟩
     ·have z:∀ l:List L2.T,L2.T.ims l=true->∀ t∈l,t.im=true:=by
       intro l
       induction l with
       | nil=>intro _ t ht;cases ht
       | cons x r ih =>
        intro h t ht;have h:(x.im&&L2.T.ims r)=true:=h;rw[Bool.and_eq_true]at h;rcases List.mem_cons.mp ht with e|e
        ·rw[e];exact h.1
        ·exact ih h.2 t e
      exact z _ him (tA a1) (List.mem_map.mpr ⟨a1,List.mem_of_getElem? ha1,rfl⟩)
     ·show _ ++ [L2.T.t [tA a1,.t (m1.2.map .s),.fd o vs (en L2.T.s sc)]]=_;unfold C2;rw[xB ha1 hm1,List.map_append];rfl
    ·rintro ys rfl
     have e:(vH (arms.map tA) (kd.2.map tM)).length=arms.length:=by rw[jf,List.length_map,List.length_map];omega
     rw[e,List.take_length,hla,List.take_length];exact hq
theorem wy(T:Txt K mg a):aU P w K mg base CX0 4 a.cY a.pT ["known","function","params"] (spQ K (zG a.aT)):=by
 have pB:=@wu P w K mg base a T;have j7:=@m3 P w K mg base a T;have yP:=@wx P w K mg base a T;have xu:=@uw P w K mg base a T;have yR:=@wz P w K mg base a T;refine T.p9.F.okQ bU (fun ts Q h=>?_) (fun _ _ _ _ _ _ hr=>?_)
 ·obtain⟨kn,ks,hs,f,o,vs,rfl,_⟩:=h;rfl
 ·have hu:=bJ hr;refine⟨_,_,((ag (ay 3 bU.nd (a8 (af (aC (af (aC (af a4 (af (aC av) (af (QPE.f (aq (qv 1) ah)) av)))) (af (aC av) (af (QPE.f (qv 2)) av)))) av)))
 (ak (rY PassesOwn.never (gy (qv 3))
 (ag (FP (j:=4) bU.nd rfl (Or.inl rfl) (pv 3))
 (ag (ay 5 bU.nd (QPE.f (aq (qv 4) ah)))
 (ag (ay 6 bU.nd (aL yP hr T.p8 (ae (qv 5) (ae (aq (qv 4) ah) (ae (aq (qv 4) ah) ar)))))
 (ag (ay 7 bU.nd (QPE.f (aq (qv 5) ah)))
 (ag (rY PassesOwn.never (QPW.pt (fk (bj u7 oz (bu _) (aq (qv 7) ah) (QPF.w a4)) (c7 (bj u7 oz (bu _) (aq (qv 7) ah) (QPF.w a4)))))
 (ag (ke (i:=6) (j:=2) xu (hr.mono (by first|decide|omega)) rfl T.ff.m T.ff.F.kp T.ff.b (kf (qv 0) (kf (qv 7) (dS (i:=6) (pv 6) ar))))
 (ak (ay 7 bU.nd (QPE.f (aq (qv 7) (QPF.w (FV ah))))))))
 (ag (iw (QPF.w (aL pB hr T.i3 (ae (qv 6) (ae (aq (qv 7) ah) ar)))))
 (ak (a6 (b6 hu (aq (qv 7) ah) (QPF.w a4))
 (ak (iw (QPF.w (aL j7 hr T.j8 (ae (qv 6) (ae (aq (qv 7) ah) (ae (aq (qv 1) ah) ar)))))))
 (ag (FQ (i:=6) (ay 8 bU.nd (aL yR hr T.qf (ae (qv 0) (ae (qv 7) (ae (qv 6) ar))))))
 (ak (oG (i:=3) (pv 3) (xX rfl rfl T.A1 rfl T.tX (qv 8))))))))))))))))),fun ts Q h=>?_⟩
  obtain⟨kn,ks,hs,f,o,vs,rfl,hK,G,hn,hS,hS5,hpn,hp4,hq⟩:=h;refine⟨_,rfl,hS.im,rfl,fun c q=>∃(ws:List Wi)(A:List L2.T)(o4 o5 o6 o7 o8:Sl),q = [.r kn,.r (tF f),.r (.fd o vs (en L2.T.s f.1.2.1)),.o (.l A),o4,o5,o6,o7,o8]/\A=ws.map tWi/\(∀ w∈ws,WOk ks hs f.1.2.2 w)/\gs ws<=50000/\c=gs ws,⟨_,[⟨"",[],[],f.2.1,o,vs,f.1.2.1,f.2.2⟩],_,_,_,_,_,_,rfl,rfl,?_,?_,rfl⟩,?_⟩
  ·intro w hw;rw[List.mem_singleton.mp hw];exact⟨rfl,Nat.zero_le _,by simpa using hpn,by simpa using hS,by show f.1.2.1.length+4*f.2.2+4<=300010;omega⟩
  ·show f.2.2+0<=50000;omega
  ·rintro c q ⟨ws,A,o4,o5,o6,o7,o8,rfl,rfl,hW,hs5,rfl⟩
   rcases List.eq_nil_or_concat ws with rfl |⟨ws',wi,rfl⟩
   ·exact hq
   ·rw[List.concat_eq_append]at *;have hw:=hW wi (by simp)
    have hW':∀ w∈ws',WOk ks hs f.1.2.2 w:=fun w h=>hW w (List.mem_append_left _ h)
    have LJ:gs (ws' ++ [wi])=gs ws'+wi.n:=by rw[xD];simp[gs]
    have hl:=EH hW';refine aJ (fun _=>?_) (fun z=>absurd (by simp) z)
    refine⟨fun q'=>∃(ws2:List Wi)(A:List L2.T)(o4 o5 o6 o7 o8:Sl),q' = [.r kn,.r (tF f),.r (.fd o vs (en L2.T.s f.1.2.1)),.o (.l A),o4,o5,o6,o7,o8]/\A=ws2.map tWi/\(∀ w∈ws2,WOk ks hs f.1.2.2 w)/\gs ws2<gs (ws' ++ [wi]),?_,?_⟩
    ·rintro q' ⟨ws2,A,o4,o5,o6,o7,o8,rfl,rfl,g1,g2⟩
     exact⟨gs ws2,g2,ws2,_,_,_,_,_,_,rfl,rfl,g1,by omega,rfl⟩
    ·refine⟨ws'.map tWi,tWi wi,by simp,?_,by decide,?_⟩
     ·have:=Hm hW
      exact this
     ·have hki:=hK.im;refine⟨_,rfl,(by show(true&&(L2.T.ims (wi.ns.map .s)&&(wi.b.im&&true)))=true;rw[az,hw.sn.im];rfl),_,rfl,_,rfl,.s wi.nm,wi.b,_,wi.ns,wi.fs,wi.sc,rfl,rfl,hw.sn.im,⟨wi.o,wi.vs,rfl⟩,hw.ln,by have:=hw.l4;omega,by have:=hw.sz;omega,hw.nd,?_⟩
      refine⟨_,rfl,hw.sn.im,fun c q=>∃(pc:L2.T)(sc:Sc)(n:Nat)(o8:Sl),q = [.r kn,.r (tF f),.r (.fd o vs (en L2.T.s f.1.2.1)),.o (.l (ws'.map tWi)),.o (tWi wi),.o (.t [.s wi.nm,.t (wi.ns.map .s),wi.b]),.o (.d (en L2.T.s sc)),.o pc,o8]/\Snd ks hs f.1.2.2 n sc pc/\(sc.map (·.1)).Nodup/\sc.length+4*n<=300010/\n<=wi.n/\c=n,⟨_,wi.b,wi.sc++wi.ns.zip wi.fs,wi.n,_,rfl,hw.sn,?_,?_,Nat.le_refl _,rfl⟩,?_⟩
      ·rw[List.map_append,qG hw.ln];exact hw.nd
      ·rw[List.length_append,List.length_zip];have:=hw.sz;have:=hw.l4;omega
      ·rintro c q ⟨pc,sc,n,o8,rfl,hSn,hsn,hsz,hnw,rfl⟩
       rcases hSn.view hsn with⟨x,rfl,hx⟩ |⟨x,kd,arms,rfl,hx,hkd,hnm,en',h1,h2⟩ |⟨xs,w1,b,sc',n',rfl,V⟩
       ·have lk:=fM (g:=L2.T.s) hsn hx;refine⟨_,rfl,rfl,aJ (fun z=>absurd z (by decide +kernel)) (fun _=>?_)⟩
        refine⟨_,rfl,_,_,x,rfl,rfl,by rw[lk];rfl,_,rfl,rfl,aJ (fun _=>?_) (fun z=>absurd (by decide +kernel) z)⟩
        exact⟨_,rfl,_,rfl,_,_,x,f.1.2.2,rfl,rfl,lk,ws',_,_,_,_,_,_,rfl,rfl,hW',by rw[LJ];have:=hw.sn.pos;omega⟩
       ·have lk:=fM (g:=L2.T.s) hsn hx;have h6:=G.ne kd hkd;have hla:arms.length=kd.2.length:=by have:=congrArg List.length hnm;simpa using this
        have him:L2.T.ims (arms.map tA)=true:=by
         have z:(true&&(true&&(L2.T.ims (arms.map tA)&&true)))=true:=hSn.im;simpa using z
        refine⟨_,rfl,rfl,aJ (fun _=>⟨_,rfl,rfl,aJ (fun z=>absurd z (by decide +kernel)) (fun _=>?_)⟩) (fun z=>absurd (by decide +kernel) z)⟩
        refine⟨_,rfl,_,_,x,rfl,rfl,by rw[lk];rfl,_,rfl,rfl,aJ (fun z=>absurd z (by decide +kernel)) (fun _=>?_)⟩
        refine⟨bY iK _,fun o' vs'=>⟨kn,ks,hs,x,kd,arms,o',vs',sc,rfl,hK,G,hx,hkd,hnm,hsn,him,?_⟩⟩
        have hA:=Mm (o:=o') (vs:=vs') G hkd hnm h1 h2 (by omega)
        refine⟨by rw[EE];exact Hm hA,?_,ws'++((arms.zip kd.2).map (EF o' vs' sc)).reverse,_,_,_,_,_,_,rfl,?_,fun w hw'=>?_,?_⟩
        ·rw[List.length_map,List.length_reverse];unfold C2;rw[List.length_map,List.length_zip]
         have:gs ws'+wi.n<=50000:=by rw[<- LJ];exact hs5
         exact Nat.le_of_lt (e7 (by omega))
        ·rw[EE,List.map_append,List.map_reverse]
        ·rcases List.mem_append.mp hw' with z|z
         ·exact hW' w z
         ·exact hA w (List.mem_reverse.mp z)
        ·rw[xD,EG,C5 hla,LJ];omega
       ·refine⟨_,V.h0,rfl,aJ (fun _=>⟨_,V.h0,rfl,aJ (fun _=>?_) (fun z=>absurd (ne_str V.w2) z)⟩) (fun z=>absurd (ne_str V.w1) z)⟩
        have hnn:=V.nn;have hln:=V.ln;refine⟨fun q'=>∃(pc:L2.T)(sc:Sc)(n2:Nat)(o8:Sl),q' = [.r kn,.r (tF f),.r (.fd o vs (en L2.T.s f.1.2.1)),.o (.l (ws'.map tWi)),.o (tWi wi),.o (.t [.s wi.nm,.t (wi.ns.map .s),wi.b]),.o (.d (en L2.T.s sc)),.o pc,o8]/\Snd ks hs f.1.2.2 n2 sc pc/\(sc.map (·.1)).Nodup/\sc.length+4*n2<=300010/\n2<=wi.n/\n2<c,?_,?_⟩
        ·rintro q' ⟨pc,sc2,n2,o8,rfl,g1,g2,g3,g4,g5⟩
         exact⟨n2,g5,pc,sc2,n2,_,rfl,g1,g2,g3,g4,rfl⟩
        ·exact⟨bY iK _,fun p=>⟨hki,hSn.im,rfl,kn,ks,hs,_,b,p,sc,sc',rfl,hK,G,hn,V.st,V.sn.im,hsn,by omega,_,V.hl,V.sn.im,b,sc',n',_,rfl,V.sn,V.nd,by omega,by omega,by omega⟩⟩
theorem kI(T:Txt K mg a):aU P w K mg base CX0 1 a.bI a.iN ["self","word","name"] (xI a.aM ["word","name"]):=by
 refine Fun.ok (k:=0) T.fe ur (fun vs H Q E h=>?_) fun cdv A outer s H vs Q E hr h=>?_
 ·obtain⟨b,ys,rfl,hl,_⟩:=h;simp[hl]
 ·refine⟨_,bE (BG (fn:=fns) (pv 0) (pv 1)) (eZ (BG (fn:=fns) (pv 0) (pv 2))),?_⟩;obtain⟨b,ys,rfl,hl,hb,k⟩:=h;obtain⟨y,z,rfl⟩:∃ y z,ys = [y,z]:=(match ys,hl with | [y,z],_=>⟨y,z,rfl⟩)
  refine⟨y,rfl,.ref b,rfl,b,a.aM,true,_,_,rfl,T.bc,sI,wV,.inl ⟨hb,fun d hd ne=>?_⟩⟩
  refine⟨z,rfl,.ref b,rfl,b,a.aM,true,_,_,rfl,T.bc,sJ,wW,.inr ⟨d,_,ne,aj,by rw[ai ne,aj],(by show 1<1000;decide),?_⟩⟩
  have e:upd (upd (upd H d (.ext (XD d [("word",y)]))) b (.ext (XAt b a.aM (some d) true))) d (.ext (XD d (fK "name" z [("word",y)])))=upd (upd H d (.ext (XD d ((["word","name"]:List Str).zip [y,z])))) b (.ext (XAt b a.aM (some d) true)):=by
   funext c
   by_cases h1:c=d
   ·subst h1;rw[aj,ai ne,aj];rfl
   ·rw[ai h1];by_cases h2:c=b
    ·rw[h2,aj,aj]
    ·rw[ai h2,ai h2,ai h1,ai h1]
  show Q .non _;rw[e];exact k d hd ne
theorem ye(T:Txt K mg a):aU P w K mg base (CX1 P w) 3 a.lY a.AH ["known","name"] (rJ K (KJ a)):=by
 have iZ:=@kI P w K mg base a T;refine T.i3.F.GN Br (fun ts Q W h=>?_) (fun _ _ _ _ _ _ hr=>?_)
 ·obtain⟨m,ks,x,rfl,_⟩:=h;rfl
 ·have hu:=bJ hr;refine⟨_,_,((bx (FN (bj (u9 hu) mI rfl (qv 1) (qv 0))
 (bx (uZ rfl rfl T.bc T.ni T.m8 iZ (hr.mono (by first|decide|omega)) rfl T.iD T.nG (ae (QPF.w a4) (ae (qv 1) ar))))
 (Bw aN)))),fun ts Q W h=>?_⟩
  obtain⟨m,ks,x,rfl,hm,hq⟩:=h;have go:(if(!(a7 ks (.inr x)).isSome)=true then ref a W "unknown" x else Q .n):=by
   split at hq
   ·rename_i h;rw[h];exact hq
   ·rename_i h;rw[Bool.not_eq_true _ |>.mp h];exact hq
  cases m with
  | d ks'=>cases hm;exact aJ (fun z=>⟨rfl,rfl,(by show 2<=1000;decide),by rw[if_pos (show(!(a7 ks (.inr x)).isSome)=true from z)]at go;exact go⟩) (fun z=>by rw[if_neg (show ¬(!(a7 ks (.inr x)).isSome)=true from z)]at go;exact go)
  | fd o vs ks'=>cases hm;exact aJ (fun z=>⟨rfl,rfl,(by show 2<=1000;decide),by rw[if_pos (show(!(a7 ks (.inr x)).isSome)=true from z)]at go;exact go⟩) (fun z=>by rw[if_neg (show ¬(!(a7 ks (.inr x)).isSome)=true from z)]at go;exact go)
  | dp p ks'=>cases hm;exact aJ (fun z=>⟨rfl,rfl,(by show 2<=1000;decide),by rw[if_pos (show(!(a7 ks (.inr x)).isSome)=true from z)]at go;exact go⟩) (fun z=>by rw[if_neg (show ¬(!(a7 ks (.inr x)).isSome)=true from z)]at go;exact go)
  | _=>cases hm
theorem m6(T:Txt K mg a):aU P w K mg base (CX1 P w) 3 a.l5 a.AJ ["bound","name","what"] (Dc K 0 (KP a)):=by
 have iZ:=@kI P w K mg base a T;refine T.bR.F.U4 Bs (fun ts Q W h=>?_) (fun _ _ _ _ _ _ hr=>?_)
 ·obtain⟨p,ks,x,v,rfl,_⟩:=h;rfl
 ·have hu:=bJ hr;refine⟨_,_,((bt (FN (bj (GH hu) mI rfl (qv 1) (qv 0))
 (bx (uZ rfl rfl T.bc T.ni T.m8 iZ (hr.mono (by first|decide|omega)) rfl T.iD T.nG (ae (QPF.w a4) (ae (qv 1) ar))))
 (Bw aN))
 (bx (fW (Bx (i:=0) hu (pv 0) (qv 1) (qv 2)))))),fun ts Q W p' ks' h ht=>?_⟩
  obtain⟨p,ks,x,v,rfl,hi,hv,hl,hq⟩:=h;cases ht;refine aJ (fun z=>⟨rfl,rfl,(by show 2<=1000;decide),⟨_,rfl,hi⟩,?_⟩) (fun z=>⟨hl,hi,hv,_,rfl,Ce hi hv,?_⟩)
  ·rw[if_pos (show(a7 ks' (.inr x)).isSome=true from z)]at hq;exact hq
  ·rw[if_neg (show ¬(a7 ks' (.inr x)).isSome=true from z)]at hq;exact hq
theorem qy(T:Txt K mg a):aU P w K mg base (CX1 P w) 4 a.cm a.kM ["kinds","rows"] (rJ K (uv a)):=by
 have q9:=@ye P w K mg base a T;have iY:=@m6 P w K mg base a T;refine T.kQ.F.GN bP (fun ts Q W h=>?_) (fun _ _ _ _ _ _ hr=>?_)
 ·obtain⟨m,ks,rfl,_⟩:=h;rfl
 ·have hu:=bJ hr;refine⟨_,_,((bt (fW (ay 2 bP.nd qQ))
 (bt (ip (g:=(Tg.tp [3,4])) PassesOwn.leaving rfl (fX (QPE.f (qv 1))) (d5 (br 3 bP.nd) (br 4 bP.nd))
 (bx (ip (g:=(Tg.tp [5,6])) PassesOwn.leaving rfl (fX (QPE.f (qv 4))) (d5 (br 5 bP.nd) (br 6 bP.nd))
 (bt (mQ (i:=2) (j:=0) iY (hr.mono (by first|decide|omega)) rfl T.bR.m T.bR.F.kp T.bR.b (dS (i:=2) (pv 2) (ae (qv 5) (ae (QPF.w (aC (af (QPE.f (qv 6)) (af (QPE.f (qv 3)) av)))) ar))))
 (bx (ip (g:=(Tg.nm 7)) PassesOwn.leaving rfl (fX (QPE.f (qv 6))) (br 7 bP.nd)
 (bx (gA (xR q9 hr T.i3 (ae (qv 0) (ae (qv 7) ar)))))))))))
 (bx (fW (mR (i:=2) (pv 2))))))),fun ts Q W h=>?_⟩
  obtain⟨m,ks,rfl,hm,G,hq⟩:=h;refine⟨jO ks,fun i q=>∃ D o3 o4 o5 o6 o7,q = [.r m,.r (tKs ks),.o (.d D),o3,o4,o5,o6,o7]/\D=en gM (mkL (ks.take i))/\iM (ks.map (·.1)) ((mkL (ks.take i)).map (·.1)) (mkL (ks.drop i))=iM (ks.map (·.1)) [] (mkL ks),⟨_,_,_,_,_,_,rfl,rfl,rfl⟩,?_,?_⟩
  ·rintro i t q hx ⟨D,o3,o4,o5,o6,o7,rfl,rfl,hF⟩
   rw[List.getElem?_map]at hx;obtain⟨kd,hkd,rfl⟩:=Option.map_eq_some_iff.mp hx;have yt:=List.mem_of_getElem? hkd;have l6:=G.ne kd yt;have lL:(mkL (ks.take i)).length<=36:=Lu (by rw[List.length_take];have:=G.k2;omega) fun k hk=>G.ne k (List.mem_of_mem_take hk)
   have eD:mkL (ks.drop i)=kd.2.map (mkR kd)++mkL (ks.drop (i+1)):=by
    rw[List.drop_eq_getElem?_toList_append,hkd];simp[mkL,mkR]
   rw[eD]at hF;refine⟨_,rfl,eO kd.2,fun j q=>∃ D o5 o6 o7,q = [.r m,.r (tKs ks),.o (.d D),.r (.s kd.1),.r (tMs kd.2),o5,o6,o7]/\D=en gM (mkL (ks.take i)++(kd.2.take j).map (mkR kd))/\iM (ks.map (·.1)) ((mkL (ks.take i)++(kd.2.take j).map (mkR kd)).map (·.1)) ((kd.2.drop j).map (mkR kd)++mkL (ks.drop (i+1)))=iM (ks.map (·.1)) [] (mkL ks),⟨_,_,_,_,rfl,by simp,by simpa using hF⟩,?_,?_⟩
   ·rintro j t q hx ⟨D,o5,o6,o7,rfl,rfl,hF⟩
    rw[List.getElem?_map]at hx;obtain⟨mm,hmm,rfl⟩:=Option.map_eq_some_iff.mp hx;have eJ:(kd.2.drop j).map (mkR kd)=mkR kd mm ::(kd.2.drop (j+1)).map (mkR kd):=by
     rw[List.drop_eq_getElem?_toList_append,hmm];simp
    rw[eJ,List.cons_append]at hF;refine⟨_,rfl,bY kK _,fun p=>⟨az _,rfl,(by show(true&&(L2.T.im (gM (mm.2,kd.1))&&true))=true;rw[kK];rfl),p,_,mm.1,gM (mm.2,kd.1),rfl,bY kK _,kK _,aA (by rw[l9,List.length_append,List.length_map,List.length_take];omega),?_⟩⟩
    by_cases hin:mm.1∈(mkL (ks.take i)++(kd.2.take j).map (mkR kd)).map (·.1)
    ·rw[if_pos (dj.mpr hin)];rw[yz hin]at hF;rw[<- hF]at hq;exact fun _=>hq
    ·rw[if_neg (fun z=>hin (dj.mp z))]
     rw[gL hin]at hF;show _;rw[l7 hin];refine⟨az _,fun k q=>(∃ o7,q = [.r m,.r (tKs ks),.o (.d (en gM (mkL (ks.take i)++(kd.2.take j).map (mkR kd) ++ [(mm.1,(mm.2,kd.1))]))),.r (.s kd.1),.r (tMs kd.2),.r (.s mm.1),.r (.t (mm.2.map .s)),o7])/\(mm.2.find? fun f=>!decide (f∈ks.map (·.1))) =(mm.2.drop k).find? fun f=>!decide (f∈ks.map (·.1)),⟨⟨_,rfl⟩,rfl⟩,?_,?_⟩
     ·rintro k t q hx ⟨⟨o7,rfl⟩,hk⟩
      rw[List.getElem?_map]at hx;obtain⟨f,hf',rfl⟩:=Option.map_eq_some_iff.mp hx;rw[List.drop_eq_getElem?_toList_append,hf']at hk;refine⟨_,rfl,m,_,f,rfl,hm,?_⟩;by_cases hfo:f∈ks.map (·.1)
      ·rw[if_pos (dj.mpr hfo)];refine⟨⟨_,rfl⟩,?_⟩;rw[hk];simp[hfo]
      ·rw[if_neg (fun z=>hfo (dj.mp z))]
       have e:(mm.2.find? fun f=>!decide (f∈ks.map (·.1)))=some f:=by rw[hk];simp[hfo]
       rw[show(mkR kd mm).2.1=mm.2 from rfl,e]at hF;rw[<- hF]at hq;exact hq
     ·rintro q ⟨⟨o7,rfl⟩,hk⟩
      rw[show(mm.2.map L2.T.s).length=mm.2.length by rw[List.length_map],List.drop_length]at hk
      rw[show(mkR kd mm).2.1=mm.2 from rfl,hk]at hF;refine⟨_,_,_,_,rfl,?_,?_⟩
      ·rw[List.take_add_one,hmm,List.append_assoc];simp[mkR]
      ·rw[<- hF,List.take_add_one,hmm];simp[mkR]
   ·rintro q ⟨D,o5,o6,o7,rfl,rfl,hF⟩
    rw[show(kd.2.map tM).length=kd.2.length by rw[List.length_map],List.take_length,<- G5 hkd]at hF ⊢
    rw[List.drop_length]at hF;exact⟨_,_,_,_,_,_,rfl,rfl,hF⟩
  ·rintro q ⟨D,o3,o4,o5,o6,o7,rfl,rfl,hF⟩
   rw[show(ks.map tK).length=ks.length by rw[List.length_map],List.drop_length]at hF
   rw[show(ks.map tK).length=ks.length by rw[List.length_map],List.take_length]
   rw[<- hF]at hq;exact hq
theorem lP(T:Txt K mg a):aU P w K mg base (CX1 P w) 4 a.bL a.gS ["rows"] (rJ K (zF a)):=by
 have iY:=@m6 P w K mg base a T;refine T.g7.F.GN cv (fun ts Q W h=>?_) (fun _ _ _ _ _ _ hr=>?_)
 ·obtain⟨fs,rfl,_⟩:=h;rfl
 ·have hu:=bJ hr;refine⟨_,_,((bt (fW (ay 1 cv.nd qQ))
 (bt (ip (g:=(Tg.nm 2)) PassesOwn.leaving rfl (fX (QPE.f (qv 0))) (br 2 cv.nd)
 (bt (fW (ay 3 cv.nd (bz (cp rfl) ck (by rfl) T.dY (by kernel_rfl) (ae (QPF.w (cE rfl (ju (aq (qv 2) ah)) (N':=["name","kind"]) (.own rfl (.own rfl .nil)) (cM (g:=(Tg.tp [0,1])) (fun _ _ _ _ _=>⟨(d5 (dz 0) (dz 1)),(QPE.f (qv 1))⟩)))) ar))))
 (bx (mQ (i:=1) (j:=0) iY (hr.mono (by first|decide|omega)) rfl T.bR.m T.bR.F.kp T.bR.b (dS (i:=1) (pv 1) (ae (aq (qv 2) ah) (ae (QPF.w (aC (af (QPE.f (qv 3)) (af (QPE.f (aq (qv 2) ah)) av)))) ar)))))))
 (bx (fW (mR (i:=1) (pv 1))))))),fun ts Q W h=>?_⟩
  obtain⟨fs,rfl,hb,h8,hq⟩:=h;refine⟨lT fun f hf=>(hb f hf).1,fun i q=>∃ D o2 o3,q = [.r (.t (fs.map tF)),.o (.d D),o2,o3]/\D=en gM (hsL ((fs.take i).map (·.1)))/\fH ((fs.take i).map (·.1.1)) ((fs.drop i).map (·.1.1))=fH [] (fs.map (·.1.1)),⟨_,_,_,rfl,rfl,rfl⟩,?_,?_⟩
  ·rintro i t q hx ⟨D,o2,o3,rfl,rfl,hF⟩
   rw[List.getElem?_map]at hx;obtain⟨f,hf,rfl⟩:=Option.map_eq_some_iff.mp hx;have l4:=(hb f (List.mem_of_getElem? hf)).2;have eN:(hsL ((fs.take i).map (·.1))).map (·.1) =(fs.take i).map (·.1.1):=by rw[ve,List.map_map];rfl
   have eJ:(fs.drop i).map (·.1.1)=f.1.1 ::(fs.drop (i+1)).map (·.1.1):=by
    rw[List.drop_eq_getElem?_toList_append,hf];simp
   rw[eJ]at hF;refine⟨_,rfl,_,rfl,aA (by rw[List.length_map];omega),fun j ys=>ys =((f.1.2.1.take j).map (·.2)).map .s,rfl,?_,?_⟩
   ·rintro j y ys hy rfl
    rw[List.getElem?_map]at hy;obtain⟨p,hp,rfl⟩:=Option.map_eq_some_iff.mp hy;refine⟨_,rfl,rfl,?_⟩;show _ ++ [L2.T.s p.2]=_;rw[List.take_add_one,hp];simp
   ·rintro ys rfl
    rw[show(f.1.2.1.map tP).length=f.1.2.1.length by rw[List.length_map],List.take_length]
    refine⟨az _,bY kK _,fun p=>⟨_,rfl,az _,_,rfl,rfl,(by show(true&&(L2.T.im (gM (f.1.2.1.map (·.2),f.1.2.2))&&true))=true;rw[kK];rfl),p,_,f.1.1,gM (f.1.2.1.map (·.2),f.1.2.2),rfl,bY kK _,kK _,aA (by rw[l9];unfold hsL;rw[List.length_map,List.length_map,List.length_take];omega),?_⟩⟩
    by_cases hin:f.1.1∈(fs.take i).map (·.1.1)
    ·rw[if_pos (dj.mpr (by rw[eN];exact hin))]
     rw[tj hin]at hF;rw[<- hF]at hq;exact fun _=>hq
    ·rw[if_neg (fun z=>hin (by rw[<- eN];exact dj.mp z))]
     rw[qY hin]at hF;show _;rw[l7 (by rw[eN];exact hin)]
     refine⟨_,_,_,rfl,?_,?_⟩
     ·rw[List.take_add_one,hf,List.map_append];unfold hsL;simp
     ·rw[<- hF,List.take_add_one,hf];simp
  ·rintro q ⟨D,o2,o3,rfl,rfl,hF⟩
   rw[show(fs.map tF).length=fs.length by rw[List.length_map],List.drop_length]at hF
   rw[show(fs.map tF).length=fs.length by rw[List.length_map],List.take_length]
   rw[<- hF]at hq;exact hq
theorem m4(T:Txt K mg a):aU P w K mg base (CX1 P w) 5 a.bT a.i9 ["known","function"] (rJ K (qp a)):=by
 have q9:=@ye P w K mg base a T;have iY:=@m6 P w K mg base a T;have yQ:=@wy P w K mg base a T;refine T.jc.F.GN cC (fun ts Q W h=>?_) (fun _ _ _ _ _ _ hr=>?_)
 ·obtain⟨kn,ks,hs,f,rfl,_⟩:=h;rfl
 ·have hu:=bJ hr;refine⟨_,_,((bt (fW (ay 2 cC.nd qQ))
 (bt (ip (g:=(Tg.tp [3,4])) PassesOwn.leaving rfl (fX (QPE.f (aq (qv 1) ah))) (d5 (br 3 cC.nd) (br 4 cC.nd))
 (bt (mQ (i:=2) (j:=0) iY (hr.mono (by first|decide|omega)) rfl T.bR.m T.bR.F.kp T.bR.b (dS (i:=2) (pv 2) (ae (qv 3) (ae (qv 4) ar))))
 (bx (gA (xR q9 hr T.i3 (ae (mT T.d7 T.df (qv 0)) (ae (qv 4) ar)))))))
 (bt (gA (xR q9 hr T.i3 (ae (mT T.d7 T.df (qv 0)) (ae (aq (qv 1) ah) ar))))
 (bx (fW (FQ (i:=2) (iw (QPF.w (aL yQ hr T.p9 (ae (qv 0) (ae (qv 1) (ae (qv 2) ar))))))))))))),fun ts Q W h=>?_⟩
  obtain⟨kn,ks,hs,f,rfl,hK,hp4,him,hS,hq⟩:=h;obtain⟨k1,v1,k2,v2,k3,v3,rfl⟩:=id hK;refine⟨_,rfl,aO dg _,fun i q=>∃ D o3 o4,q = [.r (.ob a.aT ["kinds","makers","functions"] [.fd k1 v1 (en tMs ks),.fd k2 v2 (en gM (mkL ks)),.fd k3 v3 (en gM (hsL hs))]),.r (tF f),.o (.d D),o3,o4]/\D=en L2.T.s (f.1.2.1.take i)/\je (ks.map (·.1)) ((f.1.2.1.take i).map (·.1)) (f.1.2.1.drop i)=je (ks.map (·.1)) [] f.1.2.1,⟨_,_,_,rfl,rfl,rfl⟩,?_,?_⟩
  ·rintro i t q hx ⟨D,o3,o4,rfl,rfl,hF⟩
   rw[List.getElem?_map]at hx;obtain⟨p,hp,rfl⟩:=Option.map_eq_some_iff.mp hx;have eJ:f.1.2.1.drop i=p::f.1.2.1.drop (i+1):=by
    rw[List.drop_eq_getElem?_toList_append,hp];simp
   rw[eJ]at hF;refine⟨_,rfl,bY iK _,fun ad=>⟨rfl,ad,_,p.1,.s p.2,rfl,bY iK _,rfl,e7 (by rw[l9,List.length_take];omega),?_⟩⟩
   by_cases hin:p.1∈(f.1.2.1.take i).map (·.1)
   ·rw[if_pos (dj.mpr hin)];rw[yy hin]at hF;unfold gi at hq;rw[<- hF]at hq;exact fun _=>hq
   ·rw[if_neg (fun z=>hin (dj.mp z))]
    show _;rw[l7 hin];refine⟨rfl,by decide,_,rfl,_,_,p.2,rfl,rfl,?_⟩
    by_cases hk:p.2∈ks.map (·.1)
    ·rw[if_pos (dj.mpr hk)];rw[qX hin hk]at hF;refine⟨_,_,_,rfl,?_,?_⟩
     ·rw[List.take_add_one,hp];rfl
     ·rw[<- hF,List.take_add_one,hp];simp
    ·rw[if_neg (fun z=>hk (dj.mp z))]
     rw[Co hin hk]at hF;unfold gi at hq;rw[<- hF]at hq;exact hq
  ·rintro q ⟨D,o3,o4,rfl,rfl,hF⟩
   rw[show(f.1.2.1.map tP).length=f.1.2.1.length by rw[List.length_map],List.drop_length]at hF
   rw[show(f.1.2.1.map tP).length=f.1.2.1.length by rw[List.length_map],List.take_length]
   have e0:je (ks.map (·.1)) [] f.1.2.1=none:=hF.symm;have eH:gi (ks.map (·.1)) f.1=if f.1.2.2∈ks.map (·.1)then none else some (("unknown":Str),f.1.2.2):=by unfold gi;rw[e0];rfl
   refine⟨rfl,by decide,_,rfl,_,rfl,_,_,f.1.2.2,rfl,rfl,?_⟩
   by_cases hk:f.1.2.2∈ks.map (·.1)
   ·rw[if_pos (dj.mpr hk)];rw[if_pos hk]at eH;obtain⟨G,hn,hS1,hS5,hpn⟩:=hS eH;rw[eH]at hq;exact⟨bY iK _,fun o vs=>⟨_,ks,hs,f,o,vs,rfl,hK,G,hn,hS1,hS5,hpn,hp4,hq⟩⟩
   ·rw[if_neg (fun z=>hk (dj.mp z))]
    rw[if_neg hk]at eH;rw[eH]at hq;exact hq
theorem sE(T:Txt K mg a):aU P w K mg base (CX1 P w) 6 a.f_look a.HN ["program"] (rJ K (KL a)):=by
 have iY:=@m6 P w K mg base a T;have IA:=@Lf P w K mg base a T;have uc:=@qy P w K mg base a T;have nO:=@lP P w K mg base a T;have pE:=@m4 P w K mg base a T;refine T.uh.F.GN ka (fun ts Q W h=>?_) (fun _ _ _ _ _ _ hr=>?_)
 ·obtain⟨ks,fs,rfl,_⟩:=h;rfl
 ·have hu:=bJ hr;refine⟨_,_,((bt (fW (ay 1 ka.nd qQ))
 (bt (ip (g:=(Tg.tp [2,3])) PassesOwn.leaving rfl (fX (QPE.f (aq (qv 0) ah))) (d5 (br 2 ka.nd) (br 3 ka.nd))
 (bx (mQ (i:=1) (j:=0) iY (hr.mono (by first|decide|omega)) rfl T.bR.m T.bR.F.kp T.bR.b (dS (i:=1) (pv 1) (ae (qv 2) (ae (qv 3) ar))))))
 (bt (Kr (i:=1) (Kq (i:=4) ka.nd rfl (Or.inl rfl) (FL rfl T.GZ IA (hr.mono (by first|decide|omega)) rfl T.GU T.xn (Dk (qv 1) (xY (Bv (xR uc hr T.kQ (ae (qv 1) (ae (aq (qv 0) ah) ar)))) (xY (Bv (xR nO hr T.g7 (ae (aq (qv 0) ah) ar))) (Oh ar)))))))
 (bt (ip (g:=(Tg.nm 5)) PassesOwn.leaving rfl (fX (QPE.f (aq (qv 0) ah))) (br 5 ka.nd)
 (bx (gA (xR pE hr T.jc (ae (qv 4) (ae (qv 5) ar))))))
 (bx (fW (aQ mU)))))))),fun ts Q W h=>?_⟩
  obtain⟨ks,fs,rfl,PX,hq⟩:=h;unfold lV at hq;refine⟨_,rfl,jO ks,fun i q=>∃ D o2 o3,q = [.r (.t [tKs ks,.t (fs.map tF)]),.o (.d D),o2,o3,.no,.no]/\D=en tMs (ks.take i)/\fH ((ks.take i).map (·.1)) ((ks.drop i).map (·.1))=fH [] (ks.map (·.1)),⟨_,_,_,rfl,rfl,rfl⟩,?_,?_⟩
  ·rintro i t q hx ⟨D,o2,o3,rfl,rfl,hF⟩
   rw[List.getElem?_map]at hx;obtain⟨kd,hkd,rfl⟩:=Option.map_eq_some_iff.mp hx;have eJ:(ks.drop i).map (·.1)=kd.1 ::(ks.drop (i+1)).map (·.1):=by
    rw[List.drop_eq_getElem?_toList_append,hkd];simp
   rw[eJ]at hF;refine⟨_,rfl,bY eO _,fun ad=>⟨(by show(true&&(L2.T.im (tMs kd.2)&&true))=true;rw[eO];rfl),ad,_,kd.1,tMs kd.2,rfl,bY eO _,eO _,aA (by rw[l9,List.length_take];have:=PX.kb.k2;omega),?_⟩⟩
   by_cases hin:kd.1∈(ks.take i).map (·.1)
   ·rw[if_pos (dj.mpr hin)];rw[tj hin]at hF;rw[<- hF]at hq;exact fun _=>hq
   ·rw[if_neg (fun z=>hin (dj.mp z))]
    rw[qY hin]at hF;show _;rw[l7 hin];refine⟨_,_,_,rfl,?_,?_⟩
    ·rw[List.take_add_one,hkd];rfl
    ·rw[<- hF,List.take_add_one,hkd];simp
  ·rintro q ⟨D,o2,o3,rfl,rfl,hF⟩
   rw[show(ks.map tK).length=ks.length by rw[List.length_map],List.drop_length]at hF
   rw[show(ks.map tK).length=ks.length by rw[List.length_map],List.take_length]
   have e1:fH [] (ks.map (·.1))=none:=hF.symm;rw[e1,Option.none_or]at hq;refine⟨bY eO _,fun k1 v1=>⟨_,rfl,_,ks,rfl,rfl,PX.kb,?_⟩⟩
   cases e2:iM (ks.map (·.1)) [] (mkL ks)with
   | some p=>rw[e2]at hq;exact hq
   | none =>
    rw[e2,Option.none_or]at hq;refine⟨bY kK _,fun k2 v2=>⟨_,rfl,fs,rfl,fun f hf=>⟨(PX.im f hf).1,by have:=(PX.im f hf).2;omega⟩,PX.l8,?_⟩⟩
    cases e3:fH [] (fs.map (·.1.1))with
    | some p=>rw[e3]at hq;exact hq
    | none =>
     rw[e3,Option.none_or]at hq;refine⟨bY kK _,fun k3 v3=>⟨rfl,rfl,?_⟩⟩
     refine⟨_,rfl,lT (fun f hf=>(PX.im f hf).1),fun i q=>(∃ o5,q = [.r (.t [tKs ks,.t (fs.map tF)]),.o (.fd k1 v1 (en tMs ks)),o2,o3,.o (.ob a.aT ["kinds","makers","functions"] [.fd k1 v1 (en tMs ks),.fd k2 v2 (en gM (mkL ks)),.fd k3 v3 (en gM (hsL (fs.map (·.1))))]),o5])/\∀ g∈fs.take i,gi (ks.map (·.1)) g.1=none,⟨⟨_,rfl⟩,fun _ z=>nomatch z⟩,?_,?_⟩
     ·rintro i t q hx ⟨⟨o5,rfl⟩,hN⟩
      rw[List.getElem?_map]at hx;obtain⟨f,hf,rfl⟩:=Option.map_eq_some_iff.mp hx;have hm:=List.mem_of_getElem? hf;have hN1:gi (ks.map (·.1)) f.1=none->∀ g∈fs.take (i+1),gi (ks.map (·.1)) g.1=none:=fun h g hg=>by
       rw[List.take_add_one,hf]at hg;rcases List.mem_append.mp hg with z|z
       ·exact hN g z
       ·rw[List.mem_singleton.mp z];exact h
      refine⟨_,rfl,_,ks,fs.map (·.1),f,rfl,⟨k1,v1,k2,v2,k3,v3,rfl⟩,(PX.im f hm).2,(PX.im f hm).1,fun h=>PX.ok e1 e2 e3 i f hf (hN1 h),?_⟩
      cases eH:gi (ks.map (·.1)) f.1 with
      | none=>exact⟨⟨_,rfl⟩,hN1 eH⟩
      | some p =>
       have e:fs.findSome? (fun f=>gi (ks.map (·.1)) f.1)=some p:=by
        rw[rH hf,List.findSome?_append,List.findSome?_eq_none_iff.mpr hN,Option.none_or,List.findSome?_cons,eH]
       rw[e]at hq;exact hq
     ·rintro q ⟨⟨o5,rfl⟩,hN⟩
      rw[show(fs.map tF).length=fs.length by rw[List.length_map],List.take_length]at hN
      rw[List.findSome?_eq_none_iff.mpr hN]at hq;exact hq
theorem GJ(T:Txt K mg a):aU P w K mg base CX0 1 a.vj a.Nn ["_law_row","_law_at","_law_one"] (spQ K i5):=by
 refine T.eV.F.okQ N2 (fun ts Q h=>?_) (fun _ _ _ _ _ _ hr=>?_)
 ·obtain⟨xs,n,o,rfl,_⟩:=h;rfl
 ·have hu:=bJ hr;refine⟨_,_,((ak (aQ (a5 (QPF.w (a5 (QPF.w (cA (qv 0) c9 (c8 (qv 1)))) (QPF.w (aC (af (QPE.f (qv 2)) av))))) (QPF.w (cA (qv 0) (c8 (QPF.w (a5 (qv 1) ah))) c9)))))),fun ts Q h=>?_⟩
  obtain⟨xs,n,o,rfl,hi,ho,n0,n1,hl,hq⟩:=h;have i1:L2.T.ims [o]=true:=by show(o.im&&true)=true;rw[ho];rfl
  refine⟨hi,ho,?_⟩;show _;rw[HV n0 n1];refine⟨bf (by rw[List.length_take];show _+1<=_;omega),ng hi,i1,hi,?_⟩
  show _;rw[HX n0 n1];refine⟨bf (by rw[List.length_append,List.length_take,List.length_drop];show _+1+_<=_;omega),Cd (ng hi) i1,yo hi,?_⟩
  rw[Kf (by omega)]
  exact hq
theorem mZ(T:Txt K mg a):aU P w K mg base CX0 7 a.bK a.gR ["_law_program_here"] (spQ K Gm):=by
 have xw:=@sE P w K mg base a T;refine T.g6.F.okQ mJ (fun ts Q h=>?_) (fun _ _ _ _ _ _ hr=>?_)
 ·obtain⟨ks,fs,w,x,rfl,_⟩:=h;rfl
 ·have hu:=bJ hr;refine⟨_,_,((ag (FO (fun _ _=>(bx (gA (xR xw hr T.uh (ae (qv 0) ar)))))
 (Oe rfl rfl T.uA T.vK (fun _=>(ak (aQ mU)))
 xW))
 (ak (aQ mU)))),fun ts Q h=>?_⟩
  obtain⟨ks,fs,w,x,rfl,hL,hF,hq⟩:=h;refine⟨ks,fs,rfl,hL,?_⟩;rw[hF];unfold ans ref;refine OO T.bc NQ ?_;exact hq
theorem zQ(T:Txt K mg a):aU P w K mg base CX0 7 a.fh a.vn ["_law_program_here","_law_due"] (spQ K Dp):=by
 have xw:=@sE P w K mg base a T;refine T.ky.F.okQ rR (fun ts Q h=>?_) (fun _ _ _ _ _ _ hr=>?_)
 ·obtain⟨ks,fs,w,x,rfl,_⟩:=h;rfl
 ·have hu:=bJ hr;refine⟨_,_,((ag (FO (fun _ _=>(bx (gA (xR xw hr T.uh (ae (qv 0) ar)))))
 (Rq (i:=2) rfl rR.nd rfl rfl rfl T.iD T.bc (fun _=>(ag (a6 (QPW.pt (pL (gy (QPF.w (Kz rfl rfl T.e9 (gF T.C1 rfl T.zW (gF T.C0 rfl T.zV (gF T.JG rfl T.GS (gF T.ED rfl T.DG (gF T.EC rfl T.DF (gF T.CZ rfl T.zU K9)))))) (qv 2)))) (lJ (zv (gy (QPF.w (Og (fn:=fns) (n:="ValueError") rfl (by decide +kernel) rfl T.e9 rfl T.xm (by kernel_rfl) (qv 2))))))))
 (ak (aQ mU))
 aN)
 (ak (aQ (v7 (QPF.w (gD (vv rfl) Bq (by rfl) T.e9 (by kernel_rfl) (ae (QPF.w (qP (fn:=fns) rfl sI wV (qv 2))) (ae (QPF.w (MJ (n:="str") rfl T.Nr (by kernel_rfl))) ar)))) (v7 (QPF.w (gD (vv rfl) Bq (by rfl) T.e9 (by kernel_rfl) (ae (QPF.w (qP (fn:=fns) rfl sJ wW (qv 2))) (ae (QPF.w (MJ (n:="str") rfl T.Nr (by kernel_rfl))) ar)))) (FU (zx (zO hu rfl) vP (bu _) (QPF.w (aC (af (qP (fn:=fns) rfl sI wV (qv 2)) (af (qP (fn:=fns) rfl sJ wW (qv 2)) av)))) (qv 1)))))))))
 xW))
 (ak (aQ mU)))),fun ts Q h=>?_⟩
  obtain⟨ks,fs,w,x,rfl,hL,hF,hq⟩:=h;refine⟨ks,fs,rfl,hL,?_⟩;rw[hF];have ne:∀{x y:Addr}(i j:Nat),[a.ax,a.bZ,a.aM,a.bN,a.bB,a.b8,a.bC,a.cK][i]? = some x -> [a.ax,a.bZ,a.aM,a.bN,a.bB,a.b8,a.bC,a.cK][j]? = some y->i≠j->x≠y:=fun i j=>R3 T.nd i j
  have no:[a.bC,a.bB,a.cK,a.bZ,a.b8,a.bN].any (fun x=>(Value.ref a.aM :: .ref a.ax::bmV).contains (.ref x))=false:=by
   rw[List.any_eq_false];intro y hy;rw[Bool.not_eq_true];simp only[List.mem_cons,List.not_mem_nil,or_false]at hy;rcases hy with rfl|rfl|rfl|rfl|rfl|rfl
   ·exact ow (ne 6 2 rfl rfl (by decide)) (ne 6 0 rfl rfl (by decide))
   ·exact ow (ne 4 2 rfl rfl (by decide)) (ne 4 0 rfl rfl (by decide))
   ·exact ow (ne 7 2 rfl rfl (by decide)) (ne 7 0 rfl rfl (by decide))
   ·exact ow (ne 1 2 rfl rfl (by decide)) (ne 1 0 rfl rfl (by decide))
   ·exact ow (ne 5 2 rfl rfl (by decide)) (ne 5 0 rfl rfl (by decide))
   ·exact ow (ne 3 2 rfl rfl (by decide)) (ne 3 0 rfl rfl (by decide))
  refine S5 T.bc NS ?_;refine⟨_,_,T.bc,?_⟩;show _;rw[no];refine⟨_,_,T.bc,?_⟩;have ty:(Value.ref a.aM :: .ref a.ax::bmV).contains (.type "ValueError")=true:=by
   rw[List.contains_cons,List.contains_cons];rfl
  show _;rw[ty];refine⟨_,_,_,T.bc,rfl,by rfl,?_⟩
  refine⟨_,_,_,T.bc,rfl,by rfl,?_⟩
  refine⟨_,_,_,T.bc,rfl,_,_,_,T.bc,rfl,?_⟩;show qj (.t ([w,x].map L2.T.s)) (.t ([w,x].map L2.T.s)) Q;refine⟨by rw[fJ];rfl,?_⟩
  rw[yA];exact hq
theorem Dz(T:Txt K mg a):aU P w K mg base CX0 1 a.gP a.yF ["_law_body_here"] (spQ K Gn):=by
 refine T.yW.F.okQ kc (fun ts Q h=>?_) (fun _ _ _ _ _ _ hr=>?_)
 ·obtain⟨ks,hs,r,n,sc,b,rfl,_⟩:=h;rfl
 ·have hu:=bJ hr;refine⟨_,_,((ag (ay 1 kc.nd (a8 av))
 (ag (ay 2 kc.nd (a8 (af (QPE.f (qv 0)) av)))
 (ag (rY PassesOwn.never (bj (sD hu rfl) oy (bu _) (qv 2) (QPF.w (a8 av)))
 (ag (FP (j:=3) kc.nd rfl (Or.inl rfl) (pv 2))
 (ag (a6 (b6 hu (aq (qv 3) ah) (QPF.w a4))
 (ak (cD (i:=1) (pv 1) (QPE.f (aq (qv 3) ah))))
 aN)
 (ak (a6 (b6 hu (aq (qv 3) ah) (QPF.w a4))
 (ak (oG (i:=2) (pv 2) (cE rfl (ju (aq (qv 3) ah)) (N':=["_law_arm"]) (.own rfl .nil) (cM (g:=(Tg.nm 0)) (fun _ _ _ _ _=>⟨(dz 0),(QPE.f (aq (qv 0) ah))⟩)))))
 (ak (a6 (bj u7 oz (bu _) (aq (qv 3) ah) (QPF.w a4))
 (ak (cD (i:=2) (pv 2) (QPE.f (aq (qv 3) (QPF.w (FV ah))))))
 aN)))))))
 (ak (mR (i:=1) (pv 1))))))),fun ts Q h=>?_⟩
  obtain⟨ks,hs,r,n,sc,b,rfl,hS,hn5,hq⟩:=h;refine⟨hS.im,fun c q=>∃(L:List Str)(S:List Itm)(A B:List L2.T)(o3:Sl),q = [.r b,.o (.l A),.o (.l B),o3]/\A=L.map .s/\B=S.map (·.2.2)/\(∀ it∈S,Snd ks hs r it.1 it.2.1 it.2.2)/\(∀ hs',Keeps hs hs' L ->(∀ it∈S,Snd ks hs' r it.1 it.2.1 it.2.2)->Snd ks hs' r n sc b)/\L.length+eh S<=n/\c=eh S,⟨_,[],[(n,sc,b)],_,_,_,rfl,rfl,rfl,(by intro it hi;rw[List.mem_singleton.mp hi];exact hS),(fun hs' _ h=>h _ List.mem_cons_self),(by show 0+(n+0)<=n;omega),rfl⟩,?_⟩
  rintro c q ⟨L,S,A,B,o3,rfl,rfl,rfl,hI,hK,hl,rfl⟩
  rcases List.eq_nil_or_concat S with rfl |⟨S',it,rfl⟩
  ·exact hq L (by omega) fun hs' h=>hK hs' h fun _ z=>nomatch z
  ·rw[List.concat_eq_append]at *;obtain⟨m,sc1,t⟩:=it;have hw:Snd ks hs r m sc1 t:=hI (m,sc1,t) (by simp)
   have hI':∀ it∈S',Snd ks hs r it.1 it.2.1 it.2.2:=fun w h=>hI w (List.mem_append_left _ h)
   have LJ:eh (S' ++ [(m,sc1,t)])=eh S'+m:=by rw[mF];rfl
   have hlen:=xH hI';refine aJ (fun hne=>?_) (fun z=>absurd (by simp) z)
   refine⟨fun q'=>∃(L:List Str)(S:List Itm)(A B:List L2.T)(o3:Sl),q' = [.r b,.o (.l A),.o (.l B),o3]/\A=L.map .s/\B=S.map (·.2.2)/\(∀ it∈S,Snd ks hs r it.1 it.2.1 it.2.2)/\(∀ hs',Keeps hs hs' L ->(∀ it∈S,Snd ks hs' r it.1 it.2.1 it.2.2)->Snd ks hs' r n sc b)/\L.length+eh S<=n/\eh S<eh (S' ++ [(m,sc1,t)]),?_,?_⟩
   ·rintro q' ⟨L,S,A,B,o3,rfl,rfl,rfl,g1,g2,g3,g4⟩
    exact⟨eh S,g4,L,S,_,_,_,rfl,rfl,rfl,g1,g2,g3,rfl⟩
   ·have him:L2.T.ims ((S' ++ [(m,sc1,t)]).map (·.2.2))=true:=qW fun x hx=>by
     obtain⟨it,h1,rfl⟩:=List.mem_map.mp hx;exact(hI it h1).im
    refine⟨S'.map (·.2.2),t,by simp,him,by decide,?_⟩
    have lB:(S'.map (·.2.2)).length<sizeLine:=e7 (by rw[List.length_map];omega)
    have lA:(L.map L2.T.s).length<sizeLine:=e7 (by rw[List.length_map];omega)
    have one:∀(m':Nat)(sc':Sc)(b':L2.T),m=m'+1->Snd ks hs r m' sc' b' ->(∀ hs',(∀ it ∈ [(m',sc',b')],Snd ks hs' r it.1 it.2.1 it.2.2)->Snd ks hs' r m sc1 t) ->(∀ it∈S' ++ [(m',sc',b')],Snd ks hs r it.1 it.2.1 it.2.2)/\(∀ hs',Keeps hs hs' L ->(∀ it∈S' ++ [(m',sc',b')],Snd ks hs' r it.1 it.2.1 it.2.2)->Snd ks hs' r n sc b)/\L.length+eh (S' ++ [(m',sc',b')])<=n/\eh (S' ++ [(m',sc',b')])<eh (S' ++ [(m,sc1,t)]):=fun m' sc' b' em h1 h2=>by
     have e2:eh (S' ++ [(m',sc',b')])=eh S'+m':=by rw[mF];rfl
     refine⟨fun it hi=>?_,fun hs' hk h=>hK hs' hk fun it hi=>?_,by omega,by omega⟩
     ·rcases List.mem_append.mp hi with z|z
      ·exact hI' it z
      ·rw[List.mem_singleton.mp z];exact h1
     ·rcases List.mem_append.mp hi with z|z
      ·exact h it (List.mem_append_left _ z)
      ·rw[List.mem_singleton.mp z];exact h2 hs' fun y hy=>h y (List.mem_append_right _ hy)
    cases hw with
    | give hx =>
     refine⟨_,rfl,rfl,aJ (fun z=>absurd z (by decide +kernel)) fun _=>⟨_,rfl,rfl,aJ (fun z=>absurd z (by decide +kernel)) fun _=>⟨_,rfl,rfl,aJ (fun z=>absurd z (by decide +kernel)) fun _=>?_⟩⟩⟩
     exact⟨L,S',_,_,_,rfl,rfl,rfl,hI',fun hs' hk h=>hK hs' hk fun it hi=>by
      rcases List.mem_append.mp hi with z|z
      ·exact h it z
      ·rw[List.mem_singleton.mp z];exact .give hx,by omega,by omega⟩
    | kN hw hb =>
     obtain⟨g1,g2,g3,g4⟩:=one _ _ _ rfl hb fun hs' h=>.kN hw (h _ List.mem_cons_self)
     rcases hw with rfl|rfl
     ·refine⟨_,rfl,rfl,aJ (fun z=>absurd z (by decide +kernel)) fun _=>⟨_,rfl,rfl,aJ (fun z=>absurd z (by decide +kernel)) fun _=>⟨_,rfl,rfl,aJ (fun _=>⟨lB,_,rfl,hb.im,?_⟩) fun z=>absurd (by decide +kernel) z⟩⟩⟩
      exact⟨L,_,_,_,_,rfl,rfl,by simp,g1,g2,g3,g4⟩
     ·refine⟨_,rfl,rfl,aJ (fun z=>absurd z (by decide +kernel)) fun _=>⟨_,rfl,rfl,aJ (fun z=>absurd z (by decide +kernel)) fun _=>⟨_,rfl,rfl,aJ (fun _=>⟨lB,_,rfl,hb.im,?_⟩) fun z=>absurd (by decide +kernel) z⟩⟩⟩
      exact⟨L,_,_,_,_,rfl,rfl,by simp,g1,g2,g3,g4⟩
    | name hy hx hb =>
     obtain⟨g1,g2,g3,g4⟩:=one _ _ _ rfl hb fun hs' h=>.name hy hx (h _ List.mem_cons_self)
     refine⟨_,rfl,rfl,aJ (fun z=>absurd z (by decide +kernel)) fun _=>⟨_,rfl,rfl,aJ (fun z=>absurd z (by decide +kernel)) fun _=>⟨_,rfl,rfl,aJ (fun _=>⟨lB,_,rfl,hb.im,?_⟩) fun z=>absurd (by decide +kernel) z⟩⟩⟩
     exact⟨L,_,_,_,_,rfl,rfl,by simp,g1,g2,g3,g4⟩
    | make hkd hm hF hx hb =>
     obtain⟨g1,g2,g3,g4⟩:=one _ _ _ rfl hb fun hs' h=>.make hkd hm hF hx (h _ List.mem_cons_self)
     refine⟨_,rfl,rfl,aJ (fun z=>absurd z (by decide +kernel)) fun _=>⟨_,rfl,rfl,aJ (fun z=>absurd z (by decide +kernel)) fun _=>⟨_,rfl,rfl,aJ (fun _=>⟨lB,_,rfl,hb.im,?_⟩) fun z=>absurd (by decide +kernel) z⟩⟩⟩
     exact⟨L,_,_,_,_,rfl,rfl,by simp,g1,g2,g3,g4⟩
    | call hh hF hx hb =>
     rename_i m' x1 h0 ns1 b1;have e2:eh (S' ++ [(m',sc1 ++ [(x1,h0.2.2)],b1)])=eh S'+m':=by rw[mF];rfl
     refine⟨_,rfl,rfl,aJ (fun _=>⟨lA,_,rfl,rfl,?_⟩) fun z=>absurd (by decide +kernel) z⟩
     refine⟨_,rfl,rfl,aJ (fun z=>absurd z (by decide +kernel)) fun _=>⟨_,rfl,rfl,aJ (fun _=>⟨lB,_,rfl,hb.im,?_⟩) fun z=>absurd (by decide +kernel) z⟩⟩
     refine⟨L ++ [h0.1],S' ++ [(m',sc1 ++ [(x1,h0.2.2)],b1)],_,_,_,rfl,by simp,by simp,fun it hi=>?_,fun hs' hk h=>hK hs' (fun g a b=>hk g a (List.mem_append_left _ b)) fun it hi=>?_,by rw[List.length_append];show L.length+1+_<=n;omega,by omega⟩
     ·rcases List.mem_append.mp hi with z|z
      ·exact hI' it z
      ·rw[List.mem_singleton.mp z];exact hb
     ·rcases List.mem_append.mp hi with z|z
      ·exact h it (List.mem_append_left _ z)
      ·rw[List.mem_singleton.mp z];exact .call (hk h0 hh (by simp)) hF hx (h (m',sc1 ++ [(x1,h0.2.2)],b1) (by simp))
    | case arms hx hkd hnm h1 h2 =>
     rename_i x1 kd;have el:arms.length=kd.2.length:=by simpa using congrArg List.length hnm
     have hI2:∀ it∈(arms.zip kd.2).map (fun p=>((p.1.2.2.2,sc1++p.1.2.1.zip p.2.2,p.1.2.2.1):Itm)),Snd ks hs r it.1 it.2.1 it.2.2:=fun it hi=>by
      obtain⟨⟨am,mm⟩,hp,rfl⟩:=List.mem_map.mp hi;obtain⟨i,e⟩:=List.mem_iff_getElem?.mp hp;obtain⟨e1,e2⟩:=List.getElem?_zip_eq_some.mp e;exact h2 i am mm e1 e2
     have eb:((arms.zip kd.2).map (fun p=>((p.1.2.2.2,sc1++p.1.2.1.zip p.2.2,p.1.2.2.1):Itm))).map (·.2.2)=arms.map (·.2.2.1):=by
      rw[List.map_map]
      conv=>rhs;rw[<- List.map_fst_zip (show arms.length<=kd.2.length from Nat.le_of_eq el)]
      rw[List.map_map];rfl
     have es:eh ((arms.zip kd.2).map (fun p=>((p.1.2.2.2,sc1++p.1.2.1.zip p.2.2,p.1.2.2.1):Itm))) =(arms.map (·.2.2.2)).sum:=by
      unfold eh;rw[List.map_map]
      conv=>rhs;rw[<- List.map_fst_zip (show arms.length<=kd.2.length from Nat.le_of_eq el)]
      rw[List.map_map];rfl
     have ll:=xH hI2;rw[List.length_map,List.length_zip,es]at ll;have la:arms.length<=50000:=by omega
     have eS:eh (S'++(arms.zip kd.2).map (fun p=>((p.1.2.2.2,sc1++p.1.2.1.zip p.2.2,p.1.2.2.1):Itm)))=eh S'+(arms.map (·.2.2.2)).sum:=by rw[mF,es]
     refine⟨_,rfl,rfl,aJ (fun z=>absurd z (by decide +kernel)) fun _=>⟨_,rfl,rfl,aJ (fun _=>?_) fun z=>absurd (by decide +kernel) z⟩⟩
     refine⟨_,rfl,e7 (by rw[List.length_map];omega),fun i ys=>ys =(arms.take i).map (·.2.2.1),rfl,?_,?_⟩
     ·rintro i y ys hy rfl
      rw[List.getElem?_map]at hy;obtain⟨am,ha,rfl⟩:=Option.map_eq_some_iff.mp hy;have hlt:i<kd.2.length:=by rw[<- el];exact(List.getElem?_eq_some_iff.mp ha).1
      have Vx:=(h2 i am kd.2[i] ha (by simp[hlt])).im
      refine⟨_,rfl,_,rfl,Vx,?_⟩;show _ ++ [am.2.2.1]=_;rw[List.take_add_one,ha];simp
     ·rintro ys rfl
      rw[show(arms.map tA).length=arms.length by rw[List.length_map],List.take_length]
      refine⟨Nat.le_of_lt (e7 (by rw[List.length_map,List.length_map];omega)),?_⟩
      refine⟨L,S'++(arms.zip kd.2).map (fun p=>((p.1.2.2.2,sc1++p.1.2.1.zip p.2.2,p.1.2.2.1):Itm)),_,_,_,rfl,rfl,by rw[List.map_append,eb],fun it hi=>?_,fun hs' hk h=>hK hs' hk fun it hi=>?_,by omega,by omega⟩
      ·exact(List.mem_append.mp hi).elim (hI' it) (hI2 it)
      ·rcases List.mem_append.mp hi with z|z
       ·exact h it (List.mem_append_left _ z)
       ·rw[List.mem_singleton.mp z];refine .case arms hx hkd hnm h1 fun i am mm e1 e2=>h (am.2.2.2,sc1++am.2.1.zip mm.2,am.2.2.1) (List.mem_append_right _ (List.mem_map.mpr ⟨(am,mm),?_,rfl⟩))
        exact List.mem_of_getElem? (List.getElem?_zip_eq_some.mpr ⟨e1,e2⟩)
theorem uy(T:Txt K mg a):aU P w K mg base CX0 2 a.cJ a.nu ["_law_program_here","_law_f"] (spQ K pN):=by
 have Iz:=@Dz P w K mg base a T;refine T.nT.F.okQ kH (fun ts Q h=>?_) (fun _ _ _ _ _ _ hr=>?_)
 ·obtain⟨ks,fs,f,n,rfl,_⟩:=h;rfl
 ·have hu:=bJ hr;refine⟨_,_,((ag (ay 2 kH.nd (QPE.f (aq (aq (aq (qv 0) ah) (qv 1)) ah)))
 (ak (aQ (gD (Eh rfl rfl) Ka (by rfl) T.S3 (by kernel_rfl) (ae (QPF.w (cE rfl (ju (QPF.w (cA (aq (qv 0) ah) c9 (c8 (qv 1))))) (N':=["_law_function","_law_own"]) (.own rfl (.got (i:=2) rfl rfl (.inl rfl) .nil)) (cM (g:=(Tg.nm 0)) (fun _ _ _ _ _=>⟨(dz 0),(zx (GF rfl) rM rfl (qv 1) (QPF.w (aL Iz hr T.yW (ae (aq (qv 0) ah) ar))))⟩)))) ar)))))),fun ts Q h=>?_⟩
  obtain⟨ks,fs,f,n,rfl,hf,l8,hS,hq⟩:=h;have hn:n<fs.length:=(List.getElem?_eq_some_iff.mp hf).1;have e1:atI (fs.map tF) (n:Int)=some (tF f):=tY (j:=n) (by unfold ixN;rw[if_pos (Int.natCast_nonneg n),if_pos (by rw[List.length_map];omega)];rfl) (by rw[List.getElem?_map,hf];rfl)
  refine⟨_,rfl,_,e1,_,rfl,rfl,?_⟩;refine⟨_,rfl,lT (fun g hg=>(hS g hg).1.im),?_⟩
  show _;rw[tI (by rw[List.length_map];omega),<- List.map_take]
  refine⟨aA (by rw[List.length_map,List.length_take];omega),fun i ys=>∃ bs:List Bool,ys=bs.map .b/\(bs.any id=false->vG ks fs f.1.1 i),⟨[],rfl,fun _ i g hi=>absurd hi (Nat.not_lt_zero _)⟩,?_,?_⟩
  ·rintro i y ys hy ⟨bs,rfl,hb⟩
   rw[List.getElem?_map]at hy;obtain⟨g,hg,rfl⟩:=Option.map_eq_some_iff.mp hy;have hg':fs[i]? = some g:=by
    rw[List.getElem?_take]at hg
    split at hg
    ·exact hg
    ·cases hg
   obtain⟨s1,s2⟩:=hS g (List.mem_of_getElem? hg');refine⟨_,rfl,_,rfl,ks,fs.map (·.1),g.1.2.2,g.2.2,g.1.2.1,g.2.1,rfl,s1,s2,fun L lL hL=>?_⟩
   refine⟨by rw[fJ];rfl,bs ++ [_],by rw[List.map_append];rfl,fun hF j g' hj hg2 hs' hk=>?_⟩
   rw[List.any_append,Bool.or_eq_false_iff]at hF;by_cases ej:j=i
   ·subst ej;rw[hg']at hg2;cases hg2;refine hL hs' fun h hh hm=>hk h hh fun z=>?_
    have h2:inV (.str f.1.1) (L.map V.str)=false:=by rw[<- jM];simpa using hF.2
    exact Ca h2 (by rw[<- z];exact hm)
   ·exact hb hF.1 j g' (by omega) hg2 hs' hk
  ·rintro ys ⟨bs,rfl,hb⟩
   rw[List.length_map,List.length_take,Nat.min_eq_left (by omega)]at hb
   exact⟨bs,Mj bs,hq _ hb⟩
theorem dZ{α:Type}{xs:List α}{i:Nat}{x:α}(h:xs[i]? = some x):xs.set i x=xs:=by
 obtain⟨hl,rfl⟩:=List.getElem?_eq_some_iff.mp h;exact List.set_getElem_self hl
theorem sR{k:Nat}(h:ks[k]? = some kd):(ks.set k (kd.1,ms)).map (·.1)=ks.map (·.1):=by
 rw[List.map_set];exact dZ (by rw[List.getElem?_map,h];rfl)
theorem Aj{k:Nat}{x:Kd}(g:d8 ks)(hl:x.2.length<=6):KsB (ks.set k x):=by
 refine⟨by rw[List.length_set];exact g.k2,fun z hz=>?_⟩
 rcases List.mem_or_eq_of_mem_set hz with h|h
 ·exact(g.ne z h).2
 ·rw[h];exact hl
theorem Lv(xs ys:List Kd):mkL (xs++ys)=mkL xs++mkL ys:=by unfold mkL;rw[List.flatMap_append]
theorem G6(x:Kd)(ys:List Kd):mkL (x::ys)=x.2.map (mkR x)++mkL ys:=by unfold mkL;rw[List.flatMap_cons];rfl
theorem zZ{k:Nat}(h1:ks[k]? = some kd)(h2:kd.2[j]? = some m)(m':Mk1):mkL (ks.set k (kd.1,kd.2.set j m')) =(mkL (ks.take k)++(kd.2.take j).map (mkR kd))++mkR kd m' ::((kd.2.drop (j+1)).map (mkR kd)++mkL (ks.drop (k+1))):=by
 have hk:=(List.getElem?_eq_some_iff.mp h1).1;have hj:=(List.getElem?_eq_some_iff.mp h2).1;rw[List.set_eq_take_append_cons_drop,if_pos hk,Lv,G6];show _++((kd.2.set j m').map (mkR kd)++_)=_;rw[List.set_eq_take_append_cons_drop,if_pos hj,List.map_append,List.map_cons];simp
theorem B0(g:d8 ks):∀ p∈mkL ks,∀ f∈p.2.1,f∈ks.map (·.1):=fun p hp f hf=>by
 obtain⟨kd,hk,hm⟩:=List.mem_flatMap.mp hp;obtain⟨m,hm',rfl⟩:=List.mem_map.mp hm;exact(g.fl kd hk m hm').2 f hf
structure yX(ks:List Kd)(w x:Str):Prop where
 kb:KsB ks
 fl:(fH [] (ks.map (·.1))).or (iM (ks.map (·.1)) [] (mkL ks))=some (w,x)
theorem Il{k:Nat}{kb:Kd}(g:d8 ks)(h1:ks[k]? = some kd)(h2:ks[b]? = some kb)(lt:b<k):yX (ks.set k (kb.1,kd.2)) "twice" kb.1:=by
 refine⟨Aj g (g.ne kd (List.mem_of_getElem? h1)).2,?_⟩;have hk:=(List.getElem?_eq_some_iff.mp h1).1;have e:(ks.set k (kb.1,kd.2)).map (·.1) =(ks.take k).map (·.1)++kb.1 ::(ks.drop (k+1)).map (·.1):=by
  rw[List.set_eq_take_append_cons_drop,if_pos hk,List.map_append,List.map_cons]
 rw[e,Cp (seen:=[]) (by rw[List.nil_append,List.map_take];exact g.nd.sublist (List.take_sublist _ _)) ?_,Option.some_or]
 rw[List.nil_append];exact List.mem_map.mpr ⟨kb,List.mem_of_getElem? (i:=b) (by rw[List.getElem?_take,if_pos lt];exact h2),rfl⟩
theorem GY{k:Nat}(g:d8 ks)(h1:ks[k]? = some kd)(h2:kd.2[j]? = some m):((mkL (ks.take k)++(kd.2.take j).map (mkR kd)).map (·.1) ++ [m.1]).Nodup/\∀ p∈mkL (ks.take k)++(kd.2.take j).map (mkR kd),∀ f∈p.2.1,f∈ks.map (·.1):=by
 have e:=zZ h1 h2 m;rw[dZ h2,dZ h1]at e;have n:=g.mn;rw[<- oN,e,List.map_append,List.map_cons]at n;refine⟨?_,fun p hp=>B0 g p (by rw[e];exact List.mem_append_left _ hp)⟩
 refine n.sublist (List.Sublist.append_left ?_ _);exact List.Sublist.cons_cons _ (List.nil_sublist _)
theorem Ek{k c:Nat}{kb:Kd}{mb:Mk1}(g:d8 ks)(h1:ks[k]? = some kd)(h2:kd.2[j]? = some m)(h3:ks[b]? = some kb)(h4:kb.2[c]? = some mb)(lt:b<k\/b=k/\c<j):yX (ks.set k (kd.1,kd.2.set j (mb.1,m.2))) "twice" mb.1:=by
 refine⟨Aj g (by rw[List.length_set];exact(g.ne kd (List.mem_of_getElem? h1)).2),?_⟩
 obtain⟨n,hf⟩:=GY g h1 h2;rw[sR h1,gN (by rw[List.nil_append];exact g.nd),Option.none_or,zZ h1 h2 (mb.1,m.2)]
 refine AB (x:=mkR kd (mb.1,m.2)) (by rw[List.nil_append];exact n.sublist (List.sublist_append_left _ _)) hf ?_
 rw[List.nil_append,List.map_append];rcases lt with lt |⟨rfl,lt⟩
 ·refine List.mem_append_left _ ?_;refine List.mem_map.mpr ⟨mkR kb mb,B1 (List.mem_of_getElem? (i:=b) (by rw[List.getElem?_take,if_pos lt];exact h3)) (List.mem_of_getElem? h4),rfl⟩
 ·rw[h3]at h1;cases h1;refine List.mem_append_right _ (List.mem_map.mpr ⟨mkR kd mb,List.mem_map.mpr ⟨mb,List.mem_of_getElem? (i:=c) (by rw[List.getElem?_take,if_pos lt];exact h4),rfl⟩,rfl⟩)
theorem PZ{fs:List Str}{f:Str}(h1:f∈fs)(h2:f ∉ own)(h3:∀ x∈fs,x=f\/x∈own):(fs.find? fun x=>!decide (x∈own))=some f:=by
 cases e:fs.find? fun x=>!decide (x∈own)with
 | none =>
  have:=List.find?_eq_none.mp e f h1
  simp[h2]at this
 | some y =>
  have m:=List.mem_of_find?_eq_some e;have p:=List.find?_some e;rcases h3 y m with rfl|z
  ·rfl
  ·simp[z]at p
theorem En{k:Nat}{f:Str}{fs:List Str}(g:d8 ks)(h1:ks[k]? = some kd)(h2:kd.2[j]? = some m)(hf1:f∈fs)(hf2:f ∉ ks.map (·.1))(hf3:∀ x∈fs,x=f\/x∈m.2):yX (ks.set k (kd.1,kd.2.set j (m.1,fs))) "unknown" f:=by
 refine⟨Aj g (by rw[List.length_set];exact(g.ne kd (List.mem_of_getElem? h1)).2),?_⟩
 obtain⟨n,hf⟩:=GY g h1 h2;rw[sR h1,gN (by rw[List.nil_append];exact g.nd),Option.none_or,zZ h1 h2 (m.1,fs)]
 exact wY (x:=mkR kd (m.1,fs)) (by rw[List.nil_append];exact n) hf (PZ hf1 hf2 fun x hx=>(hf3 x hx).imp_right ((g.fl kd (List.mem_of_getElem? h1) m (List.mem_of_getElem? h2)).2 x))
def R4(p q:Nat×Nat):Prop:=p.1<q.1\/p.1=q.1/\p.2<q.2
structure pF(ks:List Kd)(i:Nat)(F:List (Nat×Nat)):Prop where
 lx:F.Pairwise R4
 ok:∀ p∈F,p.1<i/\∃ kd m,ks[p.1]? = some kd/\kd.2[p.2]? = some m
 ln:F.length<=6*i
 ne:0<i->F ≠ []
theorem pF.snoc{i:Nat}{F:List (Nat×Nat)}(h:pF ks i F)(hk:ks[i]? = some kd)(h1:kd.2 ≠ [])(h6:kd.2.length<=6):pF ks (i+1) (F++(List.range kd.2.length).map fun j=>(i,j)) where
 lx:=by
  refine List.pairwise_append.mpr ⟨h.lx,?_,fun p hp q hq=>?_⟩
  ·refine List.pairwise_map.mpr ((List.pairwise_lt_range (n:=kd.2.length)).imp fun hab=>.inr ⟨rfl,hab⟩)
  ·obtain⟨j,_,rfl⟩:=List.mem_map.mp hq;exact .inl (h.ok p hp).1
 ok:=fun p hp=>by
  rcases List.mem_append.mp hp with z|z
  ·obtain⟨h1,h2⟩:=h.ok p z;exact⟨by omega,h2⟩
  ·obtain⟨j,hj,rfl⟩:=List.mem_map.mp z;have hj:=List.mem_range.mp hj;exact⟨Nat.lt_succ_self i,kd,kd.2[j],hk,List.getElem?_eq_getElem hj⟩
 ln:=by rw[List.length_append,List.length_map,List.length_range];have:=h.ln;omega
 ne:=fun _ z=>by
  have:=congrArg List.length z
  rw[List.length_append,List.length_map,List.length_range]at this
  have:=List.length_pos_iff.mpr h1
  rw[List.length_nil]at *;omega
theorem pF.lt{ks:List Kd}{i:Nat}{F:List (Nat×Nat)}(h:pF ks i F){a b:Nat}{p q:Nat×Nat}(ha:F[a]? = some p)(hb:F[b]? = some q)(lt:a<b):R4 p q:=by
 obtain⟨la,rfl⟩:=List.getElem?_eq_some_iff.mp ha;obtain⟨lb,rfl⟩:=List.getElem?_eq_some_iff.mp hb;exact List.pairwise_iff_getElem.mp h.lx a b la lb lt
def tN(p:Nat×Nat):L2.T:=.t [.i p.1,.i p.2]
theorem O6{xs:List Str}:∀{ys:List Str},xs.Nodup ->(∀ x∈xs,x∈ys)->xs.length<=ys.length:=by
 induction xs with
 | nil=>exact fun _ _=>Nat.zero_le _
 | cons x r ih =>
  intro ys n h;rw[List.nodup_cons]at n;have hx:=h x List.mem_cons_self
  have:=ih (ys:=ys.erase x) n.2 fun y hy=>(List.mem_erase_of_ne (fun e=>n.1 (by rw[<- e];exact hy))).mpr (h y (List.mem_cons_of_mem _ hy))
  rw[List.length_erase_of_mem hx]at this
  have:=List.length_pos_of_mem hx
  rw[List.length_cons];omega
theorem GD(hl:ws.length=52)(hn:ws.Nodup)(ho:own.length<=6):ws.filter (fun w=>!decide (w∈own)) ≠ []:=fun z=>by
 have sub:ws ⊆ own:=fun w hw=>by
  refine Classical.byContradiction fun n=>?_
  have:=List.filter_eq_nil_iff.mp z w hw
  simp[n]at this
 have:=O6 hn sub
 omega
theorem gU{α:Type}{xs:List α}{f:α->L2.T}{r:Int}(h0:0<=r)(h1:r<xs.length):∃ x,xs[r.toNat]? = some x/\atI (xs.map f) r=some (f x):=by
 have h:r.toNat<xs.length:=by omega
 refine⟨xs[r.toNat],List.getElem?_eq_getElem h,?_⟩
 have:=dq (xs:=xs.map f) (j:=r.toNat) (v:=f xs[r.toNat]) (by rw[List.getElem?_map,List.getElem?_eq_getElem h];rfl)
 rwa [Int.toNat_of_nonneg h0]at this
theorem Ai{x:Kd}:tKs (ks.set n x) = .t ((ks.map tK).set n (tK x)):=congrArg L2.T.t List.map_set
theorem GX{x:Mk1}:tMs (ms.set n x) = .t ((ms.map tM).set n (tM x)):=congrArg L2.T.t List.map_set
theorem wo:inT (.s x) (own.map L2.T.s)=decide (x∈own):=by
 rw[jM,Bool.eq_iff_iff,LH,decide_eq_true_iff]
theorem HY{xs:List L2.T}(h:j<=xs.length):dI xs (some (j:Int)) none=xs.drop j:=by
 unfold dI;rw[HT.mO,HT.mM,Nat.min_eq_left h];exact List.take_of_length_le (by rw[List.length_drop];exact Nat.le_refl _)
theorem EJ{x y:Int}(h:decide ((L2.T.i x).v =(L2.T.i y).v)=true):x=y:=V.int.inj (of_decide_eq_true h)
def qKs:QS:=kA 12 (bS i5 (ao (aD 12) (ao (qOp (qII (fun x j=>0<j) fun i j=>L2.T.i (i % j)) (aD 18) (qCB oH (ao (aD 12) bg))) (ao (aD 17) bg))))
def qKi:QS:=kA 12 (qOp we (qOp we (qSl (aD 12) (fun x Q=>Q none) fun q Q=>aD 18 q fun t=>match t with
 | L2.T.i x=>Q (some x)
 | x=>False) (fZ (ao (qIm (aD 17)) bg))) (qSl (aD 12) (fun q Q=>aD 18 q fun t=>match t with
 | L2.T.i x=>Q (some x)
 | x=>False) fun x Q=>Q none))
def qKr:QS:=fun D q=>fZ (ao (bS i5 (ao (aD 1) (ao (aD 5) (ao (fZ (ao (qIm (aD 7)) (ao (bS i5 (ao (aD 10) (ao (aD 9) (ao (fZ (ao (qIm (aD 11)) (ao (qIm (aD 12)) bg))) bg)))) bg))) bg)))) (ao (fZ (ao (qC (L2.T.s (Str.ofString "unknown"))) (ao (qIm (aD 17)) bg))) bg)) q D.rt
def qKf:QS:=fq (wa (qOr (gE (qOp qj (qCB oH (ao (aD 12) bg)) (qC (L2.T.i 4))))
 (Ot (gE (qOp (qI0 fun i j=>L2.T.b (decide (i<j))) (aD 18) (qCB oH (ao (aD 12) bg))))
  (gE (qOp qj (bS ft (ao (aD 0) (ao (qC (L2.T.i 2)) bg))) (qC (L2.T.i 0)))))) qKs qKi) qKr
theorem Ra{k:Nat}{r3:Int}{Q:L2.T->Prop}(g:d8 ks)(hk:ks[k]? = some kd)(hj:kd.2[j]? = some m)(hxo:x ∉ ks.map (·.1))(r30:0<=r3)(r31:r3<m.2.length+1)(hq:∀ ks' w x,yX ks' w x->Q (.t [tKs ks',.t [.s w,.s x]]))(o2 o3 o4 o6 o8 o13 o14 o15 o16:Sl) :
  qKf { nx:=nx,rt:=Q } [.r .cq,.r (tKs ks),o2,o3,o4,.r (.i k),o6,.r (.s kd.1),o8,.r (.i j),.r (tMs kd.2),.r (.s m.1),.r (.t (m.2.map .s)),o13,o14,o15,o16,.o (.s x),.o (.i r3)]:=by
 have hkl:=(List.getElem?_eq_some_iff.mp hk).1;have hjl:=(List.getElem?_eq_some_iff.mp hj).1;have l6:=(g.ne kd (List.mem_of_getElem? hk)).2;have l4:=(g.fl kd (List.mem_of_getElem? hk) m (List.mem_of_getElem? hj)).1;have k2:=g.k2;have lm:((m.2.map L2.T.s).length:Int)=m.2.length:=by rw[List.length_map]
 have bad:∀ fs:List Str,x∈fs ->(∀ y∈fs,y=x\/y∈m.2)->Q (.t [.t ((ks.map tK).set k (.t [.s kd.1,.t ((kd.2.map tM).set j (.t [.s m.1,.t (fs.map .s)]))])),.t [.s "unknown",.s x]])/\(L2.T.t [.s kd.1,.t ((kd.2.map tM).set j (.t [.s m.1,.t (fs.map .s)]))]).im=true:=fun fs h1 h2=>by
  have z:=hq _ _ _ (En g hk hj h1 hxo h2);have im1:(tK (kd.1,kd.2.set j (m.1,fs))).im=true:=fB _;rw[Ai]at z;have e1:tK (kd.1,kd.2.set j (m.1,fs)) = .t [.s kd.1,.t ((kd.2.map tM).set j (tM (m.1,fs)))]:=by unfold tK;rw[GX]
  rw[e1]at z im1;exact⟨z,im1⟩
 have one:0<m.2.length->fq qKs qKr { nx:=nx,rt:=Q } [.r .cq,.r (tKs ks),o2,o3,o4,.r (.i k),o6,.r (.s kd.1),o8,.r (.i j),.r (tMs kd.2),.r (.s m.1),.r (.t (m.2.map .s)),o13,o14,o15,o16,.o (.s x),.o (.i r3)]:=fun h=>by
  have h1:=Int.emod_nonneg r3 (b:=m.2.length) (by omega)
  have h2:=Int.emod_lt_of_pos r3 (b:=m.2.length) (by omega)
  obtain⟨q,eq⟩:∃ q:Nat,r3 % m.2.length=q:=⟨(r3 % m.2.length).toNat,by omega⟩
  have es:(m.2.map L2.T.s).set (r3 % ((m.2.map L2.T.s).length:Int)).toNat (.s x) =(m.2.set q x).map .s:=by rw[lm,eq,Int.toNat_natCast,List.map_set]
  obtain⟨z,im1⟩:=bad (m.2.set q x) (List.mem_of_getElem? (i:=q) (by rw[List.getElem?_set_self (by omega)])) fun y hy=>(List.mem_or_eq_of_mem_set hy).symm
  refine⟨by rw[lm];omega,_,_,_,rfl,az _,rfl,by rw[lm];omega,by rw[lm];omega,by rw[List.length_map];omega,?_⟩
  rw[es];refine⟨rfl,rfl,az _,_,_,_,rfl,aO jN _,jN (m.1,m.2.set q x),by omega,by rw[List.length_map];omega,by rw[List.length_map];omega,?_⟩
  exact⟨_,_,_,rfl,aO fB ks,im1,by omega,by rw[List.length_map];omega,by rw[List.length_map];omega,rfl,z⟩
 have two:fq qKi qKr { nx:=nx,rt:=Q } [.r .cq,.r (tKs ks),o2,o3,o4,.r (.i k),o6,.r (.s kd.1),o8,.r (.i j),.r (tMs kd.2),.r (.s m.1),.r (.t (m.2.map .s)),o13,o14,o15,o16,.o (.s x),.o (.i r3)]:=by
  obtain⟨q,rfl⟩:∃ q:Nat,r3=q:=⟨r3.toNat,by omega⟩
  obtain⟨z,im1⟩:=bad (m.2.take q ++ [x]++m.2.drop q) (by simp) fun y hy=>by
   rcases List.mem_append.mp hy with h|h
   ·rcases List.mem_append.mp h with h|h
    ·exact .inr (List.mem_of_mem_take h)
    ·exact .inl (List.mem_singleton.mp h)
   ·exact .inr (List.mem_of_mem_drop h)
  refine⟨az _,rfl,?_⟩;show _;rw[tI (by rw[List.length_map];omega)]
  refine⟨bf (by rw[List.length_take,List.length_map];show _+1<=_;omega),ng (az _),rfl,az _,?_⟩
  show _;rw[HY (by rw[List.length_map];omega)]
  refine⟨bf (by rw[List.length_append,List.length_take,List.length_drop,List.length_map];show _+1+_<=_;omega),Cd (ng (az _)) rfl,yo (az _),?_⟩
  have es:(m.2.map L2.T.s).take q ++ [.s x]++(m.2.map L2.T.s).drop q =(m.2.take q ++ [x]++m.2.drop q).map .s:=by simp
  rw[es];refine⟨rfl,rfl,az _,_,_,_,rfl,aO jN _,jN (m.1,_),by omega,by rw[List.length_map];omega,by rw[List.length_map];omega,?_⟩
  exact⟨_,_,_,rfl,aO fB ks,im1,by omega,by rw[List.length_map];omega,by rw[List.length_map];omega,rfl,z⟩
 refine⟨rfl,aJ (fun h4=>one ?_) (fun _=>aJ (fun h5=>⟨by decide,by decide,fun r4 _ _=>⟨rfl,aJ (fun _=>one ?_) (fun _=>two)⟩⟩) (fun _=>two))⟩
 ·have h4:=EJ h4;rw[lm]at h4;omega
 ·have h5:r3<((m.2.map L2.T.s).length:Int):=of_decide_eq_true h5;rw[lm]at h5;omega
def x6:PSp:=fun ts Q=>∃(ks:List Kd)(ws:List Str)(n:Int),ts = [.cq,tKs ks,.l (ws.map .s),.i n]/\d8 ks/\ws.length=52/\ws.Nodup/\(n=9\/n=10\/n=11)/\(n≠11->Q .n)/\∀ ks' w x,yX ks' w x->Q (.t [tKs ks',.t [.s w,.s x]])
theorem ux(T:Txt K mg a):aU P w K mg base CX0 2 a.cI a.nt ["_law_deal_here","_law_kinds_here","_law_words_here","_law_form"] (spQ K x6):=by
 have aG:=gj (@dX P w K mg base a T);have eU:=@GJ P w K mg base a T;refine T.i4.F.okQ aB (fun ts Q h=>?_) (fun _ _ _ _ _ _ hr=>?_)
 ·obtain⟨ks,ws,n,rfl,_⟩:=h;rfl
 ·have hu:=bJ hr;refine⟨_,_,((ag (ay 4 aB.nd (a8 av))
 (ag (dy (g:=(Tg.tp [5,6])) PassesOwn.never rfl (Kt rfl T.fN (by kernel_rfl) (ae (qv 1) ar)) (d5 (br 5 aB.nd) (br 6 aB.nd))
 (ak (oG (i:=4) (pv 4) (cE rfl (kg rfl T.e8 (ae (QPF.w (aS T.bh (ae (aq (qv 6) ah) ar))) ar)) (N':=["_law_j","_law_k"]) (.own rfl (.got (i:=5) rfl rfl (.inl rfl) .nil)) (cM (g:=(Tg.nm 0)) (fun _ _ _ _ _=>⟨(dz 0),(aC (af (QPE.f (qv 1)) (af (QPE.f (qv 0)) av)))⟩))))))
 (ag (a6 (QPW.pt (fk (b6 hu (qv 3) ah) (c7 (xU (QPF.w (aS T.bh (ae (qv 1) ar))) ah))))
 (ag (ay 5 aB.nd (a5 ah (QPF.w (aL aG hr T.aK (ae (qv 0) (ae (QPF.w (rZ (QPF.w (aS T.bh (ae (qv 1) ar))) ah)) ar))))))
 (ag (ay 7 aB.nd (QPE.f (aq (aq (qv 1) (QPF.w (aL aG hr T.aK (ae (qv 0) (ae (qv 5) ar))))) ah)))
 (ak (aQ (aC (af (aL eU hr T.eV (ae (qv 1) (ae (qv 5) (ae (QPF.w (aC (af (QPE.f (qv 7)) (af (QPE.f (aq (aq (qv 1) (qv 5)) ah)) av)))) ar)))) (af (aC (af a4 (af (QPE.f (qv 7)) av))) av)))))))
 aN)
 (ag (a6 (QPW.pt (pL (b6 hu (qv 3) ah) (lJ (QPW.pt (fk (b6 hu (qv 3) ah) (c7 (xT (QPF.w (aS T.bh (ae (qv 4) ar))) ah)))))))
 (ak (aQ fY))
 aN)
 (ag (ay 8 aB.nd (aL aG hr T.aK (ae (qv 0) (ae (QPF.w (aS T.bh (ae (qv 4) ar))) ar))))
 (ag (a6 (b6 hu (qv 3) ah)
 (ak (ay 8 aB.nd (a5 ah (QPF.w (se (qv 8) (QPF.w (rZ (QPF.w (aS T.bh (ae (qv 4) ar))) ah)))))))
 aN)
 (ag (iu (g:=(Tg.tp [5,9])) (aq (qv 4) (qv 8)) (d5 (br 5 aB.nd) (br 9 aB.nd)))
 (ag (iu (g:=(Tg.tp [7,10])) (aq (qv 1) (qv 5)) (d5 (br 7 aB.nd) (br 10 aB.nd)))
 (ag (iu (g:=(Tg.tp [11,12])) (aq (qv 10) (qv 9)) (d5 (br 11 aB.nd) (br 12 aB.nd)))
 (ag (a6 (b6 hu (qv 3) ah)
 (ag (iu (g:=(Tg.tp [13,14])) (aq (qv 4) (QPF.w (aL aG hr T.aK (ae (qv 0) (ae (qv 8) ar))))) (d5 (br 13 aB.nd) (br 14 aB.nd)))
 (ag (ay 11 aB.nd (QPE.f (aq (aq (aq (aq (qv 1) (qv 13)) ah) (qv 14)) ah)))
 (ak (aQ (aC (af (aL eU hr T.eV (ae (qv 1) (ae (qv 5) (ae (QPF.w (aC (af (QPE.f (qv 7)) (af (aL eU hr T.eV (ae (qv 10) (ae (qv 9) (ae (QPF.w (aC (af (QPE.f (qv 11)) (af (QPE.f (qv 12)) av)))) ar)))) av)))) ar)))) (af (aC (af a4 (af (QPE.f (qv 11)) av))) av)))))))
 aN)
 (ag (ay 15 aB.nd (cE rfl (ju (qv 1)) (N':=["_law_one"]) (.own rfl .nil) (cM (g:=(Tg.nm 0)) (fun _ _ _ _ _=>⟨(dz 0),(QPE.f (aq (qv 0) ah))⟩))))
 (ag (ix (i:=16) aB.nd rfl (Or.inl rfl) rfl (mS (qv 2)) (N':=["_law_word","_law_own"]) (.own rfl (.got (i:=15) rfl rfl (.inl rfl) .nil)) (v8 (g:=(Tg.nm 0)) (fun _ _ _ _ _=>⟨(dz 0),(bj (oK rfl) rM rfl (qv 0) (qv 1)),(QPE.f (qv 0))⟩)))
 (ag (ay 17 aB.nd (QPE.f (aq (qv 16) (QPF.w (aL aG hr T.aK (ae (qv 0) (ae (QPF.w (aS T.bh (ae (qv 16) ar))) ar)))))))
 (ag (ay 18 aB.nd (aL aG hr T.aK (ae (qv 0) (ae (QPF.w (a5 (QPF.w (aS T.bh (ae (qv 12) ar))) ah)) ar))))
 (ag (a6 (QPW.pt (pL (b6 hu (QPF.w (aS T.bh (ae (qv 12) ar))) ah) (lJ (QPW.pt (fk (xT (qv 18) (QPF.w (aS T.bh (ae (qv 12) ar)))) (c7 (b6 hu (QPF.w (aL aG hr T.aK (ae (qv 0) (ae ah ar)))) ah)))))))
 (ak (ay 12 aB.nd (aL eU hr T.eV (ae (qv 12) (ae (QPF.w (se (qv 18) (QPF.w (aS T.bh (ae (qv 12) ar))))) (ae (qv 17) ar))))))
 (ak (ay 12 aB.nd (a5 (QPF.w (a5 (QPF.w (cA (qv 12) c9 (c8 (qv 18)))) (QPF.w (aC (af (QPE.f (qv 17)) av))))) (QPF.w (cA (qv 12) (c8 (qv 18)) c9))))))
 (ak (aQ (aC (af (aL eU hr T.eV (ae (qv 1) (ae (qv 5) (ae (QPF.w (aC (af (QPE.f (qv 7)) (af (aL eU hr T.eV (ae (qv 10) (ae (qv 9) (ae (QPF.w (aC (af (QPE.f (qv 11)) (af (QPE.f (qv 12)) av)))) ar)))) av)))) ar)))) (af (aC (af a4 (af (QPE.f (qv 17)) av))) av))))))))))))))))))))),fun ts Q h=>?_⟩
  obtain⟨ks,ws,n,rfl,g,lw,nw,hn,q0,hq⟩:=h;have lk:((ks.map tK).length:Int)=ks.length:=by rw[List.length_map]
  have k1:=g.k1;have k2:=g.k2;refine⟨aO fB ks,fun i q=>∃ F L o5 o6,q = [.r .cq,.r (tKs ks),.r (.l (ws.map .s)),.r (.i n),.o (.l L),o5,o6,.no,.no,.no,.no,.no,.no,.no,.no,.no,.no,.no,.no]/\L=F.map tN/\pF ks i F,⟨[],_,_,_,rfl,rfl,⟨.nil,(fun _ z=>nomatch z),Nat.zero_le _,fun z=>absurd z (Nat.lt_irrefl 0)⟩⟩,?_,?_⟩
  ·rintro i t q hx ⟨F,L,o5,o6,rfl,rfl,hF⟩
   obtain⟨y,hy,rfl⟩:=gQ hx;rw[List.getElem?_map]at hy;obtain⟨kd,hkd,rfl⟩:=Option.map_eq_some_iff.mp hy;obtain⟨ne1,ne6⟩:=g.ne kd (List.mem_of_getElem? hkd);have hi:=(List.getElem?_eq_some_iff.mp hkd).1;have lm:((kd.2.map tM).length:Int)=kd.2.length:=by rw[List.length_map]
   refine⟨_,rfl,_,rfl,by rw[lm];omega,by rw[lm];omega,aA (by rw[cQ,lm];omega),fun j ys=>ys =((List.range j).map fun j=>(i,j)).map tN,rfl,?_,?_⟩
   ·rintro j y ys hy rfl
    obtain⟨rfl,hj⟩:=il hy;refine⟨_,rfl,rfl,rfl,?_⟩;show _ ++ [L2.T.t [.i i,.i (0+(j:Int))]]=_;rw[Int.zero_add,List.range_succ,List.map_append,List.map_append];rfl
   ·rintro ys rfl
    rw[cQ,lm,Int.toNat_natCast];refine⟨bf (by rw[List.length_map,List.length_map,List.length_map,List.length_range];have:=hF.ln;omega),_,_,_,_,rfl,(List.map_append ..).symm,hF.snoc hkd ne1 ne6⟩
  ·rintro q ⟨F,L,o5,o6,rfl,rfl,hF⟩
   rw[cn,List.length_map]at hF;have F0:=hF.ne k1;have F6:=hF.ln;have lF:((F.map tN).length:Int)=F.length:=by rw[List.length_map]
   have lF1:=List.length_pos_iff.mpr F0;rcases hn with rfl|rfl|rfl
   ·refine⟨rfl,aJ (fun _=>aJ (fun h1=>?_) (fun _=>?_)) (fun z=>absurd rfl z)⟩
    ·have h1:(1:Int)<((ks.map tK).length:Int):=of_decide_eq_true h1;rw[lk]at h1;refine⟨by rw[lk];omega,by rw[lk];omega,fun r r0 r1=>⟨by omega,by omega,fun r2 r20 r21=>?_⟩⟩
     rw[lk]at r1;obtain⟨kb,hb,eb⟩:=gU (xs:=ks) (f:=tK) r20 (by omega)
     obtain⟨kd,hd,ed⟩:=gU (xs:=ks) (f:=tK) (r:=1+r) (by omega) (by omega)
     have z:=hq _ _ _ (Il g hd hb (by omega))
     rw[Ai]at z;exact⟨_,eb,_,rfl,rfl,rfl,_,ed,_,rfl,eO _,_,_,_,rfl,aO fB ks,fB (kb.1,kd.2),by omega,by rw[lk];omega,by rw[List.length_map];omega,rfl,z⟩
    ·exact⟨rfl,aJ (fun _=>q0 (by decide)) (fun z=>absurd rfl z)⟩
   ·refine⟨rfl,aJ (fun z=>absurd z (by decide +kernel)) (fun _=>⟨rfl,aJ (fun z=>absurd z (by decide +kernel)) (fun _=>⟨rfl,aJ (fun _=>aJ (fun _=>q0 (by decide)) (fun h2=>?_)) (fun z=>absurd rfl z)⟩)⟩)⟩
    have h2:¬((F.map tN).length:Int)<2:=fun z=>h2 (decide_eq_true z)
    rw[lF]at h2;refine⟨by rw[lF];omega,by rw[lF];omega,fun r r0 r1=>⟨rfl,aJ (fun _=>⟨by rw[lF];omega,?_⟩) (fun z=>absurd rfl z)⟩⟩
    have hp:∃ p:Int,1+r % ((F.map tN).length - 1)=p/\1<=p/\p<F.length:=⟨_,rfl,by rw[lF];have:=Int.emod_nonneg r (b:=F.length - 1) (by omega);omega,by rw[lF];have:=Int.emod_lt_of_pos r (b:=F.length - 1) (by omega);omega⟩
    obtain⟨p,ep,p0,p1⟩:=hp;obtain⟨⟨k,j⟩,hkj,ekj⟩:=gU (xs:=F) (f:=tN) (r:=p) (by omega) p1
    obtain⟨_,kd,m,hk,hj⟩:=hF.ok _ (List.mem_of_getElem? hkj);have hkl:=(List.getElem?_eq_some_iff.mp hk).1;have hjl:=(List.getElem?_eq_some_iff.mp hj).1;have l6:=(g.ne kd (List.mem_of_getElem? hk)).2;have ek:atI (ks.map tK) (k:Int)=some (tK kd):=dq (by rw[List.getElem?_map,hk];rfl)
    have ej:atI (kd.2.map tM) (j:Int)=some (tM m):=dq (by rw[List.getElem?_map,hj];rfl)
    rw[<- ep]at ekj;refine⟨_,ekj,rfl,_,rfl,_,ek,fB kd,_,rfl,_,ej,jN m,_,rfl,rfl,aJ (fun _=>⟨by omega,by omega,fun r2 r20 r21=>?_⟩) (fun z=>absurd rfl z)⟩
    rw[ep]at r21;obtain⟨⟨b,c⟩,hbc,ebc⟩:=gU (xs:=F) (f:=tN) (r:=r2) r20 (by omega)
    obtain⟨_,kb,mb,hb,hc⟩:=hF.ok _ (List.mem_of_getElem? hbc);have eb:atI (ks.map tK) (b:Int)=some (tK kb):=dq (by rw[List.getElem?_map,hb];rfl)
    have ec:atI (kb.2.map tM) (c:Int)=some (tM mb):=dq (by rw[List.getElem?_map,hc];rfl)
    have z:=hq _ _ _ (Ek g hk hj hb hc (hF.lt hbc hkj (by omega)))
    rw[Ai]at z;have im1:(tK (kd.1,kd.2.set j (mb.1,m.2))).im=true:=fB _;have e1:tK (kd.1,kd.2.set j (mb.1,m.2)) = .t [.s kd.1,.t ((kd.2.map tM).set j (tM (mb.1,m.2)))]:=by unfold tK;rw[GX]
    rw[e1]at z im1;refine⟨_,ebc,rfl,_,rfl,_,eb,_,rfl,_,ec,_,rfl,rfl,rfl,rfl,az _,_,_,_,rfl,aO jN _,jN (mb.1,m.2),by omega,by rw[List.length_map];omega,by rw[List.length_map];omega,?_⟩
    exact⟨_,_,_,rfl,aO fB ks,im1,by omega,by rw[lk];omega,by rw[List.length_map];omega,rfl,z⟩
   ·refine⟨rfl,aJ (fun z=>absurd z (by decide +kernel)) (fun _=>⟨rfl,aJ (fun z=>absurd z (by decide +kernel)) (fun _=>⟨rfl,aJ (fun z=>absurd z (by decide +kernel)) (fun _=>?_)⟩)⟩)⟩
    refine⟨by rw[lF];omega,by rw[lF];omega,fun r r0 r1=>⟨rfl,aJ (fun z=>absurd z (by decide +kernel)) (fun _=>?_)⟩⟩
    rw[lF]at r1;obtain⟨⟨k,j⟩,hkj,ekj⟩:=gU (xs:=F) (f:=tN) r0 r1;obtain⟨_,kd,m,hk,hj⟩:=hF.ok _ (List.mem_of_getElem? hkj);have hkl:=(List.getElem?_eq_some_iff.mp hk).1;have hjl:=(List.getElem?_eq_some_iff.mp hj).1;have l6:=(g.ne kd (List.mem_of_getElem? hk)).2;have l4:=(g.fl kd (List.mem_of_getElem? hk) m (List.mem_of_getElem? hj)).1;have ek:atI (ks.map tK) (k:Int)=some (tK kd):=dq (by rw[List.getElem?_map,hk];rfl)
    have ej:atI (kd.2.map tM) (j:Int)=some (tM m):=dq (by rw[List.getElem?_map,hj];rfl)
    refine⟨_,ekj,rfl,_,rfl,_,ek,fB kd,_,rfl,_,ej,jN m,_,rfl,rfl,aJ (fun z=>absurd z (by decide +kernel)) (fun _=>?_)⟩
    refine⟨aA (by rw[List.length_map];omega),fun i ys=>ys =((ks.take i).map (·.1)).map .s,rfl,?_,?_⟩
    ·rintro i t ys hx rfl
     rw[List.getElem?_map]at hx;obtain⟨p,hp,rfl⟩:=Option.map_eq_some_iff.mp hx;refine⟨_,rfl,_,rfl,rfl,?_⟩;show _ ++ [L2.T.s p.1]=_;rw[List.take_add_one,hp];simp
    ·rintro ys rfl
     rw[List.length_map,List.take_length];refine⟨aA (by rw[List.length_map];omega),fun i ys=>ys =((ws.take i).filter fun w=>!decide (w∈ks.map (·.1))).map .s,rfl,?_,?_⟩
     ·rintro i t ys hx rfl
      rw[List.getElem?_map]at hx;obtain⟨p,hp,rfl⟩:=Option.map_eq_some_iff.mp hx;refine⟨_,rfl,by rw[fJ];rfl,aJ (fun e=>⟨rfl,?_⟩) (fun e=>?_)⟩
      ·have e:(!inT (L2.T.s p) (List.map L2.T.s (List.map (fun x=>x.fst) ks)))=true:=e
       rw[wo]at e;show _ ++ [L2.T.s p]=_;rw[List.take_add_one,hp,List.filter_append,List.map_append];show _=_++List.map _ ([p].filter _);rw[List.filter_cons,if_pos e];rfl
      ·have e:¬(!inT (L2.T.s p) (List.map L2.T.s (List.map (fun x=>x.fst) ks)))=true:=e
       rw[wo]at e;rw[List.take_add_one,hp,List.filter_append,List.map_append];show _=_++List.map _ ([p].filter _);rw[List.filter_cons,if_neg e];simp
     ·rintro ys rfl
      rw[List.length_map,List.take_length];have o0:=List.length_pos_iff.mpr (GD (own:=ks.map (·.1)) lw nw (by rw[List.length_map];omega))
      have o1:(ws.filter fun w=>!decide (w∈ks.map (·.1))).length<=52:=by rw[<- lw];exact List.length_filter_le _ _
      have oo:∀ x∈ws.filter (fun w=>!decide (w∈ks.map (·.1))),x ∉ ks.map (·.1):=fun x hx=>by have:=(List.mem_filter.mp hx).2;simpa using this
      generalize ws.filter (fun w=>!decide (w∈ks.map (·.1)))=os at o0 o1 oo ⊢
      have lo:((os.map L2.T.s).length:Int)=os.length:=by rw[List.length_map]
      have lm:((m.2.map L2.T.s).length:Int)=m.2.length:=by rw[List.length_map]
      refine⟨by rw[lo];omega,by rw[lo];omega,fun r2 r20 r21=>?_⟩
      rw[lo]at r21;obtain⟨x,hx,ex⟩:=gU (xs:=os) (f:=L2.T.s) r20 r21;have hxo:=oo x (List.mem_of_getElem? hx);refine⟨_,ex,rfl,by rw[lm];omega,by rw[lm];omega,fun r3 r30 r31=>?_⟩
      rw[lm]at r31;exact Ra g hk hj hxo r30 r31 hq _ _ _ _ _ _ _ _ _
structure yY(ks:List Kd)(fs:List Fn)(w x:Str):Prop where
 lk:vB ks fs
 fl:lV ks fs=some (w,x)
theorem HC(g:d8 ks):fH [] (ks.map (·.1))=none/\iM (ks.map (·.1)) [] (mkL ks)=none:=by
 refine⟨gN (by rw[List.nil_append];exact g.nd),DU (by rw[List.nil_append,oN];exact g.mn) (B0 g)⟩
theorem d8.kb(g:d8 ks):KsB ks:=⟨g.k2,fun k hk=>(g.ne k hk).2⟩
theorem vh{fs:List Fn}{f:Fn}(p:Prog ks fs)(hf:f∈fs):gi (ks.map (·.1)) f.1=none:=by
 obtain⟨_,h2,h3,h4⟩:=p.pk f hf;unfold gi;rw[vg (by rw[List.nil_append];exact h3) h2,Option.none_or,if_pos h4]
theorem Ck{fs:List Fn}{f:Fn}{h:Hd}(p:Prog ks fs)(h1:fs[n]? = some f)(l4:h.2.1.length<=4):∀ g∈fs.set n (h,f.2),g.2.1.im=true/\g.1.2.1.length<=4:=fun g hg=>by
 rcases List.mem_or_eq_of_mem_set hg with z|rfl
 ·exact⟨(p.sn g z).1.im,(p.pk g z).1⟩
 ·exact⟨(p.sn f (List.mem_of_getElem? h1)).1.im,l4⟩
theorem Em{fs:List Fn}{f fb:Fn}(p:Prog ks fs)(h1:fs[n]? = some f)(h2:fs[b]? = some fb)(lt:b<n):yY ks (fs.set n ((fb.1.1,f.1.2),f.2)) "twice" fb.1.1:=by
 obtain⟨e1,e2⟩:=HC p.gk;have hn:=(List.getElem?_eq_some_iff.mp h1).1;have e3:fH [] ((fs.set n ((fb.1.1,f.1.2),f.2)).map (·.1.1))=some (("twice":Str),fb.1.1):=by
  rw[List.set_eq_take_append_cons_drop,if_pos hn,List.map_append,List.map_cons];refine Cp (by rw[List.nil_append,List.map_take];exact p.hn.sublist (List.take_sublist _ _)) ?_
  rw[List.nil_append];exact List.mem_map.mpr ⟨fb,List.mem_of_getElem? (i:=b) (by rw[List.getElem?_take,if_pos lt];exact h2),rfl⟩
 refine⟨⟨p.gk.kb,by rw[List.length_set];exact p.l8,Ck p h1 (p.pk f (List.mem_of_getElem? h1)).1,fun _ _ e=>?_⟩,?_⟩
 ·rw[e3]at e;cases e
 ·unfold lV;rw[e1,e2,e3];rfl
theorem tV{fs:List Fn}{f:Fn}{h:Hd}{w:Str}(p:Prog ks fs)(h1:fs[n]? = some f)(en:h.1=f.1.1)(l4:h.2.1.length<=4)(hfl:gi (ks.map (·.1)) h=some (w,x))(ha:∀ i g,i<n->fs[i]? = some g->Snd ks ((fs.set n (h,f.2)).map (·.1)) g.1.2.2 g.2.2 g.1.2.1 g.2.1):yY ks (fs.set n (h,f.2)) w x:=by
 obtain⟨e1,e2⟩:=HC p.gk;have hn:=(List.getElem?_eq_some_iff.mp h1).1;have nm:(fs.set n (h,f.2)).map (·.1.1)=fs.map (·.1.1):=by
  rw[List.map_set];exact dZ (by rw[List.getElem?_map,h1,en];rfl)
 have e3:fH [] ((fs.set n (h,f.2)).map (·.1.1))=none:=by rw[nm];exact gN (by rw[List.nil_append];exact p.hn)
 refine⟨⟨p.gk.kb,by rw[List.length_set];exact p.l8,Ck p h1 l4,fun _ _ _ i g hg hN=>?_⟩,?_⟩
 ·have hi:i<n:=Classical.byContradiction fun z=>by
   have:=hN (h,f.2) (List.mem_of_getElem? (i:=n) (by rw[List.getElem?_take,if_pos (by omega),List.getElem?_set_self hn]))
   rw[hfl]at this;cases this
  have hg':fs[i]? = some g:=by rw[<- hg,List.getElem?_set_ne (by omega)]
  have hm:=List.mem_of_getElem? hg';refine⟨p.gk.w,?_,ha i g hi hg',(p.sn g hm).2,(p.pk g hm).2.2.1⟩;rw[List.map_map];show((fs.set n (h,f.2)).map (·.1.1)).Nodup;rw[nm];exact p.hn
 ·unfold lV;rw[e1,e2,e3,Option.none_or,Option.none_or,Option.none_or,List.set_eq_take_append_cons_drop,if_pos hn,List.findSome?_append,List.findSome?_eq_none_iff.mpr fun g hg=>vh p (List.mem_of_mem_take hg),Option.none_or,List.findSome?_cons,hfl]
theorem Cm{fs:List Fn}{f:Fn}{h:Hd}(h1:fs[n]? = some f){d:Hd}(hd:d∈fs.map (·.1)):d∈(fs.set n (h,f.2)).map (·.1)\/d=f.1/\h∈(fs.set n (h,f.2)).map (·.1):=by
 have hn:=(List.getElem?_eq_some_iff.mp h1).1;obtain⟨g,hg,rfl⟩:=List.mem_map.mp hd;obtain⟨i,hi⟩:=List.mem_iff_getElem?.mp hg;by_cases e:i=n
 ·subst e;rw[h1]at hi;cases hi;exact .inr ⟨rfl,List.mem_map.mpr ⟨(h,f.2),List.mem_of_getElem? (i:=i) (by rw[List.getElem?_set_self hn]),rfl⟩⟩
 ·exact .inl (List.mem_map.mpr ⟨g,List.mem_of_getElem? (i:=i) (by rw[List.getElem?_set_ne (by omega)];exact hi),rfl⟩)
theorem Ej{fs:List Fn}{k:Nat}{f:Fn}{pk pb:Str×Str}(p:Prog ks fs)(h1:fs[n]? = some f)(hk:f.1.2.1[k]? = some pk)(hb:f.1.2.1[b]? = some pb)(lt:b<k):yY ks (fs.set n ((f.1.1,f.1.2.1.set k (pb.1,pk.2),f.1.2.2),f.2)) "twice" pb.1:=by
 obtain⟨q1,q2,q3,q4⟩:=p.pk f (List.mem_of_getElem? h1);have hkl:=(List.getElem?_eq_some_iff.mp hk).1;refine tV p h1 rfl (by show(f.1.2.1.set k _).length<=4;rw[List.length_set];exact q1) ?_ fun i g hi hg=>?_
 ·unfold gi;show(je _ [] (f.1.2.1.set k (pb.1,pk.2))).or _=_;rw[List.set_eq_take_append_cons_drop,if_pos hkl,AA (x:=(pb.1,pk.2)) (by rw[List.nil_append,List.map_take];exact q3.sublist (List.take_sublist _ _)) (fun p hp=>q2 p (List.mem_of_mem_take hp)) ?_,Option.some_or]
  rw[List.nil_append];exact List.mem_map.mpr ⟨pb,List.mem_of_getElem? (i:=b) (by rw[List.getElem?_take,if_pos lt];exact hb),rfl⟩
 ·refine(p.sn g (List.mem_of_getElem? hg)).1.heads fun d hd=>?_
  rcases Cm (h:=(f.1.1,f.1.2.1.set k (pb.1,pk.2),f.1.2.2)) h1 hd with z |⟨rfl,z⟩
  ·exact⟨d,z,rfl,rfl,rfl⟩
  ·refine⟨_,z,rfl,?_,rfl⟩;show(f.1.2.1.set k (pb.1,pk.2)).map (·.2)=_;rw[List.map_set];exact dZ (by rw[List.getElem?_map,hk];rfl)
theorem vG.set{ks:List Kd}{fs:List Fn}{n:Nat}{f:Fn}{h:Hd}(A:vG ks fs f.1.1 n)(h1:fs[n]? = some f):∀ i g,i<n->fs[i]? = some g->Snd ks ((fs.set n (h,f.2)).map (·.1)) g.1.2.2 g.2.2 g.1.2.1 g.2.1:=fun i g hi hg=>A i g hi hg _ fun d hd ne=>(Cm h1 hd).elim id fun z=>absurd (by rw[z.1]) ne
theorem Ei{fs:List Fn}{k:Nat}{f:Fn}{pk:Str×Str}(p:Prog ks fs)(h1:fs[n]? = some f)(hk:f.1.2.1[k]? = some pk)(hx:x ∉ ks.map (·.1))(A:vG ks fs f.1.1 n):yY ks (fs.set n ((f.1.1,f.1.2.1.set k (pk.1,x),f.1.2.2),f.2)) "unknown" x:=by
 obtain⟨q1,q2,q3,q4⟩:=p.pk f (List.mem_of_getElem? h1);have hkl:=(List.getElem?_eq_some_iff.mp hk).1;refine tV p h1 rfl (by show(f.1.2.1.set k _).length<=4;rw[List.length_set];exact q1) ?_ (A.set h1)
 unfold gi;show(je _ [] (f.1.2.1.set k (pk.1,x))).or _=_;rw[List.set_eq_take_append_cons_drop,if_pos hkl,wX (x:=(pk.1,x)) ?_ (fun p hp=>q2 p (List.mem_of_mem_take hp)) hx,Option.some_or]
 rw[rH hk,List.map_append,List.map_cons]at q3;rw[List.nil_append];refine q3.sublist (List.Sublist.append_left ?_ _);exact List.Sublist.cons_cons _ (List.nil_sublist _)
theorem El{fs:List Fn}{f:Fn}(p:Prog ks fs)(h1:fs[n]? = some f)(hx:x ∉ ks.map (·.1))(A:vG ks fs f.1.1 n):yY ks (fs.set n ((f.1.1,f.1.2.1,x),f.2)) "unknown" x:=by
 obtain⟨q1,q2,q3,q4⟩:=p.pk f (List.mem_of_getElem? h1);refine tV p h1 rfl q1 ?_ (A.set h1);unfold gi;show(je _ [] f.1.2.1).or (if x∈_ then _ else _)=_
 rw[vg (by rw[List.nil_append];exact q3) q2,Option.none_or,if_neg hx]
theorem wU{fs:List Fn}{f:Fn}{h:Hd}(h1:fs[n]? = some f):(fs.set n (h,f.2)).map (·.2)=fs.map (·.2):=by
 rw[List.map_set];exact dZ (by rw[List.getElem?_map,h1];rfl)
theorem wR{fs:List Fn}{x:Fn}:(L2.T.t ((fs.set n x).map tF)) = .t ((fs.map tF).set n (tF x)):=congrArg L2.T.t List.map_set
theorem Gf{ps:Sc}{x:Str×Str}:(L2.T.t ((ps.set n x).map tP)) = .t ((ps.map tP).set n (tP x)):=congrArg L2.T.t List.map_set
def qw:PSp:=fun ts Q=>∃(ks:List Kd)(fs:List Fn)(ws:List Str)(n:Int),ts = [.cq,.t [tKs ks,.t (fs.map tF)],.l (ws.map .s),.i n]/\Prog ks fs/\ws.length=52/\ws.Nodup/\(n=12\/n=13\/n=14\/n=15)/\Q .n/\∀ fs' w x,yY ks fs' w x->fs'.map (·.2)=fs.map (·.2)->Q (.t [.t (fs'.map tF),.t [.s w,.s x]])
theorem HD(os:List Nat):fls (os.map fun(i:Nat)=>L2.T.i i)=true:=by
 unfold fls;rw[List.all_map,List.all_eq_true];exact fun _ _=>rfl
theorem sX{f:Fn}(h:f.2.1.im=true):L2.T.ims [.s f.1.1,.t (f.1.2.1.map tP),.s f.1.2.2,f.2.1]=true:=by
 show(true&&(L2.T.ims (f.1.2.1.map tP)&&(true&&(f.2.1.im&&true))))=true;rw[aO dg,h];rfl
theorem Cf{f:Fn}(h:f.2.1.im=true):(tF f).im=true:=sX h
theorem Pz{f:Fn}(h:f.2.1.im=true):L2.T.ims [.t (f.1.2.1.map tP),.s f.1.2.2,f.2.1]=true:=by
 show(L2.T.ims (f.1.2.1.map tP)&&(true&&(f.2.1.im&&true)))=true;rw[aO dg,h];rfl
def qFf:QS:=fq (wa (qOr (gE (qOp qj (aD 3) (qC (L2.T.i 12)))) (gE (qOp qj (aD 10) (F8 bg)))) (fun D q=>qC L2.T.n q D.rt) pM) (fq (kA 5 (qIm (qOp qIx (aD 10) (bS ft (ao (aD 0) (ao (qCB oH (ao (aD 10) bg)) bg)))))) (fq (kA 11 (qIm (qOp qIx (qOp qIx (aD 4) (aD 5)) (qC (L2.T.i 1))))) (fq (wa (gE (qOp qj (aD 3) (qC (L2.T.i 13)))) (fq (kA 12 (qOp we (qC (L2.T.i 1)) (bS ft (ao (aD 0) (ao (qOp (qI0 fun i j=>L2.T.i (i - j)) (qCB oH (ao (aD 11) bg)) (qC (L2.T.i 1))) bg))))) (fq (kA 6 (qIm (qOp qIx (qOp qIx (aD 11) (bS ft (ao (aD 0) (ao (aD 12) bg)))) (qC (L2.T.i 0))))) (fq (kA 11 (bS i5 (ao (aD 11) (ao (aD 12) (ao (fZ (ao (qIm (aD 6)) (ao (qIm (qOp qIx (qOp qIx (aD 11) (aD 12)) (qC (L2.T.i 1)))) bg))) bg))))) fun D q=>fZ (ao (bS i5 (ao (aD 4) (ao (aD 5) (ao (bS i5 (ao (qOp qIx (aD 4) (aD 5)) (ao (qC (L2.T.i 1)) (ao (aD 11) bg)))) bg)))) (ao (fZ (ao (qC (L2.T.s (Str.ofString "twice"))) (ao (qIm (aD 6)) bg))) bg)) q D.rt))) pM) (fq (wa (Oj (bS pN (ao (aD 1) (ao (aD 5) bg)))) (fun D q=>qC L2.T.n q D.rt) pM) (fq (wa (gE (qOp qj (aD 3) (qC (L2.T.i 14)))) (fq (kA 12 (bS ft (ao (aD 0) (ao (qCB oH (ao (aD 11) bg)) bg)))) (fq (kA 11 (bS i5 (ao (aD 11) (ao (aD 12) (ao (fZ (ao (qIm (qOp qIx (qOp qIx (aD 11) (aD 12)) (qC (L2.T.i 0)))) (ao (qIm (aD 9)) bg))) bg))))) fun D q=>fZ (ao (bS i5 (ao (aD 4) (ao (aD 5) (ao (bS i5 (ao (qOp qIx (aD 4) (aD 5)) (ao (qC (L2.T.i 1)) (ao (aD 11) bg)))) bg)))) (ao (fZ (ao (qC (L2.T.s (Str.ofString "unknown"))) (ao (qIm (aD 9)) bg))) bg)) q D.rt)) pM) fun D q=>fZ (ao (bS i5 (ao (aD 4) (ao (aD 5) (ao (bS i5 (ao (qOp qIx (aD 4) (aD 5)) (ao (qC (L2.T.i 2)) (ao (aD 9) bg)))) bg)))) (ao (fZ (ao (qC (L2.T.s (Str.ofString "unknown"))) (ao (qIm (aD 9)) bg))) bg)) q D.rt)))))
theorem Rb{fs:List Fn}{n:Int}{js:List Nat}{Q:L2.T->Prop}(p:Prog ks fs)(imF:L2.T.ims (fs.map tF)=true)(hxo:x ∉ ks.map (·.1))(lj:js.length<=fs.length)(hj:∀ j∈js,∃ f,fs[j]? = some f/\14 - n<f.1.2.1.length)(q0:Q .n)(hq:∀ fs' w x,yY ks fs' w x->fs'.map (·.2)=fs.map (·.2)->Q (.t [.t (fs'.map tF),.t [.s w,.s x]]))(o2 o5 o6 o7 o8 o11 o12:Sl) :
  qFf { nx:=nx,rt:=Q } [.r .cq,.r (.t [tKs ks,.t (fs.map tF)]),o2,.r (.i n),.o (.t (fs.map tF)),o5,o6,o7,o8,.o (.s x),.o (.l (js.map fun(j:Nat)=>.i j)),o11,o12]:=by
 have lf:((fs.map tF).length:Int)=fs.length:=by rw[List.length_map]
 have l8:=p.l8;have lj':((js.map fun(j:Nat)=>L2.T.i j).length:Int)=js.length:=by rw[List.length_map]
 refine⟨rfl,aJ (fun _=>q0) (fun _=>⟨by rw[HD];rfl,aJ (fun _=>q0) (fun hne=>?_)⟩)⟩
 have l0:0<js.length:=by
  cases js with
  | nil=>exact absurd rfl hne
  | cons _ _=>simp
 refine⟨by rw[lj'];omega,by rw[lj'];omega,fun r3 r30 r31=>?_⟩
 rw[lj']at r31;obtain⟨j,hjr,ej⟩:=gU (xs:=js) (f:=fun(j:Nat)=>L2.T.i j) r30 r31
 obtain⟨f,hf,hlen⟩:=hj j (List.mem_of_getElem? hjr);have hfl:=(List.getElem?_eq_some_iff.mp hf).1;have hm:=List.mem_of_getElem? hf;have imb:=(p.sn f hm).1.im;have p4:=(p.pk f hm).1;have ef:atI (fs.map tF) (j:Int)=some (tF f):=dq (by rw[List.getElem?_map,hf];rfl)
 have lp:((f.1.2.1.map tP).length:Int)=f.1.2.1.length:=by rw[List.length_map]
 refine⟨_,ej,rfl,_,ef,_,rfl,aO dg _,rfl,aJ (fun h13=>?_) (fun _=>?_)⟩
 ·obtain rfl:=EJ h13;refine⟨by rw[lp];omega,by rw[lp];omega,fun r4 r40 r41=>⟨by omega,by omega,fun r5 r50 r51=>?_⟩⟩
  rw[lp]at r41;obtain⟨pb,hb,eb⟩:=gU (xs:=f.1.2.1) (f:=tP) r50 (by omega)
  obtain⟨pk,hk,ek⟩:=gU (xs:=f.1.2.1) (f:=tP) (r:=1+r4) (by omega) (by omega)
  have z:=hq _ _ _ (Ej p hf hk hb (by omega)) (wU hf)
  rw[wR]at z;have e1:tF ((f.1.1,f.1.2.1.set (1+r4).toNat (pb.1,pk.2),f.1.2.2),f.2) = .t [.s f.1.1,.t ((f.1.2.1.map tP).set (1+r4).toNat (tP (pb.1,pk.2))),.s f.1.2.2,f.2.1]:=by unfold tF;rw[Gf]
  have im2:=Cf (f:=((f.1.1,f.1.2.1.set (1+r4).toNat (pb.1,pk.2),f.1.2.2),f.2)) imb;rw[e1]at z im2;have im3:L2.T.ims ((f.1.2.1.map tP).set (1+r4).toNat (tP (pb.1,pk.2)))=true:=by rw[<- List.map_set];exact aO dg _
  refine⟨_,eb,_,rfl,rfl,rfl,_,ek,_,rfl,rfl,_,_,_,rfl,aO dg _,rfl,by omega,by rw[lp];omega,by rw[List.length_map];omega,?_⟩
  exact⟨_,ef,_,_,_,rfl,sX imb,im3,by decide,by show(1:Int)<4;decide,by show 4<=1000;decide,_,_,_,rfl,imF,im2,by omega,by rw[lf];omega,by rw[List.length_map];omega,rfl,z⟩
 ·refine⟨ks,fs,f,j,rfl,hf,l8,p.sn,fun c hc=>aJ (fun _=>q0) (fun c0=>?_)⟩
  have A:=hc (by simpa using c0)
  refine⟨rfl,aJ (fun h14=>?_) (fun _=>?_)⟩
  ·obtain rfl:=EJ h14;refine⟨by rw[lp];omega,by rw[lp];omega,fun r4 r40 r41=>?_⟩
   rw[lp]at r41;obtain⟨pk,hk,ek⟩:=gU (xs:=f.1.2.1) (f:=tP) r40 r41;have z:=hq _ _ _ (Ei p hf hk hxo A) (wU hf);rw[wR]at z;have e1:tF ((f.1.1,f.1.2.1.set r4.toNat (pk.1,x),f.1.2.2),f.2) = .t [.s f.1.1,.t ((f.1.2.1.map tP).set r4.toNat (tP (pk.1,x))),.s f.1.2.2,f.2.1]:=by unfold tF;rw[Gf]
   have im2:=Cf (f:=((f.1.1,f.1.2.1.set r4.toNat (pk.1,x),f.1.2.2),f.2)) imb;rw[e1]at z im2;have im3:L2.T.ims ((f.1.2.1.map tP).set r4.toNat (tP (pk.1,x)))=true:=by rw[<- List.map_set];exact aO dg _
   refine⟨_,ek,_,rfl,rfl,rfl,_,_,_,rfl,aO dg _,rfl,by omega,by rw[lp];omega,by rw[List.length_map];omega,?_⟩
   exact⟨_,ef,_,_,_,rfl,sX imb,im3,by decide,by show(1:Int)<4;decide,by show 4<=1000;decide,_,_,_,rfl,imF,im2,by omega,by rw[lf];omega,by rw[List.length_map];omega,rfl,z⟩
  ·have z:=hq _ _ _ (El p hf hxo A) (wU hf);rw[wR]at z;exact⟨_,ef,_,_,_,rfl,sX imb,rfl,by decide,by show(2:Int)<4;decide,by show 4<=1000;decide,_,_,_,rfl,imF,Cf (f:=((f.1.1,f.1.2.1,x),f.2)) imb,by omega,by rw[lf];omega,by rw[List.length_map];omega,rfl,z⟩
theorem m5(T:Txt K mg a):aU P w K mg base CX0 3 a.bM a.gT ["_law_deal_here","_law_program_here","_law_words_here","_law_form"] (spQ K qw):=by
 have aG:=gj (@dX P w K mg base a T);have eU:=@GJ P w K mg base a T;have xv:=@uy P w K mg base a T;refine T.g8.F.okQ aF (fun ts Q h=>?_) (fun _ _ _ _ _ _ hr=>?_)
 ·obtain⟨ks,fs,ws,n,rfl,_⟩:=h;rfl
 ·have hu:=bJ hr;refine⟨_,_,((ag (ay 4 aF.nd (QPE.f (aq (qv 1) ah)))
 (ag (a6 (QPW.pt (fk (b6 hu (qv 3) ah) (c7 (xU (QPF.w (aS T.bh (ae (qv 4) ar))) ah))))
 (ag (ay 5 aF.nd (a5 ah (QPF.w (aL aG hr T.aK (ae (qv 0) (ae (QPF.w (rZ (QPF.w (aS T.bh (ae (qv 4) ar))) ah)) ar))))))
 (ag (ay 6 aF.nd (QPE.f (aq (aq (qv 4) (QPF.w (aL aG hr T.aK (ae (qv 0) (ae (qv 5) ar))))) ah)))
 (ak (aQ (aC (af (aL eU hr T.eV (ae (qv 4) (ae (qv 5) (ae (QPF.w (a5 (QPF.w (aC (af (QPE.f (qv 6)) av))) (QPF.w (cA (aq (qv 4) (qv 5)) (c8 ah) c9)))) ar)))) (af (aC (af a4 (af (QPE.f (qv 6)) av))) av)))))))
 aN)
 (ag (ay 7 aF.nd (cE rfl (ju (aq (qv 1) ah)) (N':=["_law_one"]) (.own rfl .nil) (cM (g:=(Tg.nm 0)) (fun _ _ _ _ _=>⟨(dz 0),(QPE.f (aq (qv 0) ah))⟩))))
 (ag (ix (i:=8) aF.nd rfl (Or.inl rfl) rfl (mS (qv 2)) (N':=["_law_word","_law_own"]) (.own rfl (.got (i:=7) rfl rfl (.inl rfl) .nil)) (v8 (g:=(Tg.nm 0)) (fun _ _ _ _ _=>⟨(dz 0),(bj (oK rfl) rM rfl (qv 0) (qv 1)),(QPE.f (qv 0))⟩)))
 (ag (ay 9 aF.nd (QPE.f (aq (qv 8) (QPF.w (aL aG hr T.aK (ae (qv 0) (ae (QPF.w (aS T.bh (ae (qv 8) ar))) ar)))))))
 (ag (ix (i:=10) aF.nd rfl (Or.inl rfl) rfl (By rfl T.fN (by kernel_rfl) (ae (qv 4) ar)) (N':=["_law_f","_law_one","_law_form"]) (.own rfl (.own rfl (.got (i:=3) rfl rfl (.inl rfl) .nil))) (v8 (g:=(Tg.tp [0,1])) (fun _ _ _ _ _=>⟨(d5 (dz 0) (dz 1)),(xU (QPF.w (aS T.bh (ae (aq (qv 1) ah) ar))) (QPF.w (rZ ah (qv 2)))),(QPE.f (qv 0))⟩)))
 (ag (a6 (QPW.pt (pL (b6 hu (qv 3) ah) (lJ (b6 hu (qv 10) (QPF.w (a8 av))))))
 (ak (aQ fY))
 aN)
 (ag (ay 5 aF.nd (QPE.f (aq (qv 10) (QPF.w (aL aG hr T.aK (ae (qv 0) (ae (QPF.w (aS T.bh (ae (qv 10) ar))) ar)))))))
 (ag (ay 11 aF.nd (QPE.f (aq (aq (qv 4) (qv 5)) ah)))
 (ag (a6 (b6 hu (qv 3) ah)
 (ag (ay 12 aF.nd (a5 ah (QPF.w (aL aG hr T.aK (ae (qv 0) (ae (QPF.w (rZ (QPF.w (aS T.bh (ae (qv 11) ar))) ah)) ar))))))
 (ag (ay 6 aF.nd (QPE.f (aq (aq (qv 11) (QPF.w (aL aG hr T.aK (ae (qv 0) (ae (qv 12) ar))))) ah)))
 (ag (ay 11 aF.nd (aL eU hr T.eV (ae (qv 11) (ae (qv 12) (ae (QPF.w (aC (af (QPE.f (qv 6)) (af (QPE.f (aq (aq (qv 11) (qv 12)) ah)) av)))) ar)))))
 (ak (aQ (aC (af (aL eU hr T.eV (ae (qv 4) (ae (qv 5) (ae (QPF.w (aL eU hr T.eV (ae (aq (qv 4) (qv 5)) (ae ah (ae (qv 11) ar))))) ar)))) (af (aC (af a4 (af (QPE.f (qv 6)) av))) av))))))))
 aN)
 (ag (a6 (gy (QPF.w (aL xv hr T.nT (ae (qv 1) (ae (qv 5) ar)))))
 (ak (aQ fY))
 aN)
 (ag (a6 (b6 hu (qv 3) ah)
 (ag (ay 12 aF.nd (aL aG hr T.aK (ae (qv 0) (ae (QPF.w (aS T.bh (ae (qv 11) ar))) ar))))
 (ag (ay 11 aF.nd (aL eU hr T.eV (ae (qv 11) (ae (qv 12) (ae (QPF.w (aC (af (QPE.f (aq (aq (qv 11) (qv 12)) ah)) (af (QPE.f (qv 9)) av)))) ar)))))
 (ak (aQ (aC (af (aL eU hr T.eV (ae (qv 4) (ae (qv 5) (ae (QPF.w (aL eU hr T.eV (ae (aq (qv 4) (qv 5)) (ae ah (ae (qv 11) ar))))) ar)))) (af (aC (af a4 (af (QPE.f (qv 9)) av))) av)))))))
 aN)
 (ak (aQ (aC (af (aL eU hr T.eV (ae (qv 4) (ae (qv 5) (ae (QPF.w (aL eU hr T.eV (ae (aq (qv 4) (qv 5)) (ae ah (ae (qv 9) ar))))) ar)))) (af (aC (af a4 (af (QPE.f (qv 9)) av))) av)))))))))))))))))),fun ts Q h=>?_⟩
  obtain⟨ks,fs,ws,n,rfl,p,lw,nw,hn,q0,hq⟩:=h;have imF:L2.T.ims (fs.map tF)=true:=lT fun f hf=>(p.sn f hf).1.im
  have lf:((fs.map tF).length:Int)=fs.length:=by rw[List.length_map]
  have l8:=p.l8;have k2:=p.gk.k2;refine⟨_,rfl,imF,?_⟩;refine(fun rest=>⟨rfl,aJ (fun h12=>aJ (fun h1=>?_) (fun _=>rest)) (fun _=>rest)⟩) ?_
  rotate_left
  ·have h1:(1:Int)<((fs.map tF).length:Int):=of_decide_eq_true h1;rw[lf]at h1;refine⟨by rw[lf];omega,by rw[lf];omega,fun r r0 r1=>⟨by omega,by omega,fun r2 r20 r21=>?_⟩⟩
   rw[lf]at r1;obtain⟨fb,hb,eb⟩:=gU (xs:=fs) (f:=tF) r20 (by omega)
   obtain⟨f,hd,ed⟩:=gU (xs:=fs) (f:=tF) (r:=1+r) (by omega) (by omega)
   have z:=hq _ _ _ (Em p hd hb (by omega)) (wU hd)
   rw[wR]at z;have hm:=List.mem_of_getElem? hd;have im1:=sX (f:=f) (p.sn f hm).1.im;exact⟨_,eb,_,rfl,rfl,rfl,_,ed,im1,bf (by show 4<=10000;decide),rfl,Pz (p.sn f hm).1.im,_,_,_,rfl,imF,Cf (f:=((fb.1.1,f.1.2),f.2)) (p.sn f hm).1.im,by omega,by rw[lf];omega,by rw[List.length_map];omega,rfl,z⟩
  ·refine⟨_,rfl,aA (by rw[List.length_map];omega),fun i ys=>ys =((ks.take i).map (·.1)).map .s,rfl,?_,?_⟩
   ·rintro i t ys hx rfl
    rw[List.getElem?_map]at hx;obtain⟨p,hp,rfl⟩:=Option.map_eq_some_iff.mp hx;refine⟨_,rfl,_,rfl,rfl,?_⟩;show _ ++ [L2.T.s p.1]=_;rw[List.take_add_one,hp];simp
   ·rintro ys rfl
    rw[List.length_map,List.take_length];refine⟨aA (by rw[List.length_map];omega),fun i ys=>ys =((ws.take i).filter fun w=>!decide (w∈ks.map (·.1))).map .s,rfl,?_,?_⟩
    ·rintro i t ys hx rfl
     rw[List.getElem?_map]at hx;obtain⟨p,hp,rfl⟩:=Option.map_eq_some_iff.mp hx;refine⟨_,rfl,by rw[fJ];rfl,aJ (fun e=>⟨rfl,?_⟩) (fun e=>?_)⟩
     ·have e:(!inT (L2.T.s p) (List.map L2.T.s (List.map (fun x=>x.fst) ks)))=true:=e
      rw[wo]at e;show _ ++ [L2.T.s p]=_;rw[List.take_add_one,hp,List.filter_append,List.map_append];show _=_++List.map _ ([p].filter _);rw[List.filter_cons,if_pos e];rfl
     ·have e:¬(!inT (L2.T.s p) (List.map L2.T.s (List.map (fun x=>x.fst) ks)))=true:=e
      rw[wo]at e;rw[List.take_add_one,hp,List.filter_append,List.map_append];show _=_++List.map _ ([p].filter _);rw[List.filter_cons,if_neg e];simp
    ·rintro ys rfl
     rw[List.length_map,List.take_length];have o0:=List.length_pos_iff.mpr (GD (own:=ks.map (·.1)) lw nw (by rw[List.length_map];omega))
     have o1:(ws.filter fun w=>!decide (w∈ks.map (·.1))).length<=52:=by rw[<- lw];exact List.length_filter_le _ _
     have oo:∀ x∈ws.filter (fun w=>!decide (w∈ks.map (·.1))),x ∉ ks.map (·.1):=fun x hx=>by have:=(List.mem_filter.mp hx).2;simpa using this
     generalize ws.filter (fun w=>!decide (w∈ks.map (·.1)))=os at o0 o1 oo ⊢
     have lo:((os.map L2.T.s).length:Int)=os.length:=by rw[List.length_map]
     refine⟨by rw[lo];omega,by rw[lo];omega,fun r2 r20 r21=>?_⟩
     rw[lo]at r21;obtain⟨x,hx,ex⟩:=gU (xs:=os) (f:=L2.T.s) r20 r21;have hxo:=oo x (List.mem_of_getElem? hx);refine⟨_,ex,rfl,aA (by rw[cn,List.length_map];omega),fun i ys=>∃ js:List Nat,ys=js.map (fun(j:Nat)=>.i j)/\js.length<=i/\∀ j∈js,∃ f,fs[j]? = some f/\14 - n<f.1.2.1.length,⟨[],rfl,Nat.le_refl _,fun _ z=>nomatch z⟩,?_,?_⟩
     ·rintro i t ys ht ⟨js,rfl,lj,hj⟩
      obtain⟨y,hy,rfl⟩:=gQ ht;rw[List.getElem?_map]at hy;obtain⟨f,hf,rfl⟩:=Option.map_eq_some_iff.mp hy;refine⟨_,rfl,_,rfl,aJ (fun e=>⟨rfl,js ++ [i],by simp,by simp;omega,fun j hj'=>?_⟩) (fun _=>⟨js,rfl,by omega,hj⟩)⟩
      rcases List.mem_append.mp hj' with z|z
      ·exact hj j z
      ·rw[List.mem_singleton.mp z];have e:14 - n<((f.1.2.1.map tP).length:Int):=of_decide_eq_true e;rw[List.length_map]at e;exact⟨f,hf,e⟩
     ·rintro ys ⟨js,rfl,lj,hj⟩
      rw[cn,List.length_map]at lj;exact Rb p imF hxo lj hj q0 hq _ _ _ _ _ _ _
def Tq(ks:List Kd)(fs:List Fn)(ks':List Kd)(fs':List Fn)(w x:Str):Prop:=yX ks' w x/\fs'=fs\/ks'=ks/\yY ks fs' w x/\fs'.map (·.2)=fs.map (·.2)
def Gk:PSp:=fun ts Q=>∃(ks:List Kd)(fs:List Fn)(ws:List Str),ts = [.cq,.t [tKs ks,.t (fs.map tF)],.l (ws.map .s)]/\Prog ks fs/\ws.length=52/\ws.Nodup/\∀ ks' fs' w x,Tq ks fs ks' fs' w x->Q (.t [.t [tKs ks',.t (fs'.map tF)],.t [.s w,.s x]])
theorem Dy(T:Txt K mg a):aU P w K mg base CX0 4 a.gO a.yE ["_law_deal_here","_law_program_here","_law_words_here"] (spQ K Gk):=by
 have aG:=gj (@dX P w K mg base a T);have nN:=@ux P w K mg base a T;have pC:=@m5 P w K mg base a T;refine T.yV.F.okQ fg (fun ts Q h=>?_) (fun _ _ _ _ _ _ hr=>?_)
 ·obtain⟨ks,fs,ws,rfl,_⟩:=h;rfl
 ·have hu:=bJ hr;refine⟨_,_,((ag (dy (g:=(Tg.nm 3)) PassesOwn.never rfl (gC rfl T.e8 (ae ah ar)) (br 3 fg.nd)
 (ag (ay 4 fg.nd (a5 ah (QPF.w (aL aG hr T.aK (ae (qv 0) (ae ah ar))))))
 (ak (a6 (xU (qv 4) ah)
 (ag (ay 5 fg.nd (aL pC hr T.g8 (ae (qv 0) (ae (qv 1) (ae (qv 2) (ae (qv 4) ar))))))
 (ak (a6 (bj mY jj (bu _) (qv 5) (QPF.w fY))
 (ak (aQ (aC (af (aC (af (QPE.f (aq (qv 1) ah)) (af (QPE.f (aq (qv 5) ah)) av))) (af (QPE.f (aq (qv 5) ah)) av)))))
 aN)))
 (ag (ay 5 fg.nd (aL nN hr T.i4 (ae (qv 0) (ae (aq (qv 1) ah) (ae (qv 2) (ae (qv 4) ar))))))
 (ak (a6 (bj mY jj (bu _) (qv 5) (QPF.w fY))
 (ak (aQ (aC (af (aC (af (QPE.f (aq (qv 5) ah)) (af (QPE.f (aq (qv 1) ah)) av))) (af (QPE.f (aq (qv 5) ah)) av)))))
 aN)))))))
 (ag (ay 5 fg.nd (aL nN hr T.i4 (ae (qv 0) (ae (aq (qv 1) ah) (ae (qv 2) (ae ah ar))))))
 (ak (aQ (aC (af (aC (af (QPE.f (aq (qv 5) ah)) (af (QPE.f (aq (qv 1) ah)) av))) (af (QPE.f (aq (qv 5) ah)) av)))))))),fun ts Q h=>?_⟩
  obtain⟨ks,fs,ws,rfl,p,lw,nw,hq⟩:=h;have imF:L2.T.ims (fs.map tF)=true:=lT fun f hf=>(p.sn f hf).1.im
  refine⟨by decide,by decide,fun i q=>∃ o3 o4 o5,q = [.r .cq,.r (.t [tKs ks,.t (fs.map tF)]),.r (.l (ws.map .s)),o3,o4,o5],⟨_,_,_,rfl⟩,?_,?_⟩
  ·rintro i t q hx ⟨o3,o4,o5,rfl⟩
   obtain⟨rfl,hi⟩:=il hx;refine⟨_,rfl,by decide,by decide,fun r r0 r1=>aJ (fun h=>?_) (fun h=>?_)⟩
   ·have h:(11:Int)<9+r:=of_decide_eq_true h;refine⟨ks,fs,ws,9+r,rfl,p,lw,nw,by omega,⟨_,_,_,rfl⟩,fun fs' w x hb h2=>?_⟩
    have im':L2.T.ims (fs'.map tF)=true:=lT fun f hf=>(hb.lk.im f hf).1
    exact⟨_,rfl,jO ks,_,rfl,im',_,rfl,rfl,hq _ _ _ _ (.inr ⟨rfl,hb,h2⟩)⟩
   ·have h:¬(11:Int)<9+r:=fun z=>h (decide_eq_true z)
    refine⟨_,rfl,ks,ws,9+r,rfl,p.gk,lw,nw,by omega,fun _=>⟨_,_,_,rfl⟩,fun ks' w x hb=>?_⟩
    exact⟨_,rfl,jO ks',_,rfl,imF,_,rfl,rfl,hq _ _ _ _ (.inl ⟨hb,rfl⟩)⟩
  ·rintro q ⟨o3,o4,o5,rfl⟩
   refine⟨_,rfl,ks,ws,11,rfl,p.gk,lw,nw,by omega,fun z=>absurd rfl z,fun ks' w x hb=>?_⟩
   exact⟨_,rfl,jO ks',_,rfl,imF,_,rfl,rfl,hq _ _ _ _ (.inl ⟨hb,rfl⟩)⟩
theorem yX.some{ks':List Kd}{fs:List Fn}{w x:Str}(b:yX ks' w x)(l8:fs.length<=8)(im:∀ f∈fs,f.2.1.im=true/\f.1.2.1.length<=4):vB ks' fs/\lV ks' fs=some (w,x):=by
 refine⟨⟨b.kb,l8,im,fun e1 e2=>?_⟩,?_⟩
 ·have:=b.fl
  rw[e1,e2]at this;cases this
 ·unfold lV;rw[<- Option.or_assoc,b.fl,Option.some_or]
theorem map_inj{α β:Type}{f:α->β}(h:∀ x y,f x=f y->x=y):∀{xs ys:List α},xs.map f=ys.map f->xs=ys
 | [],[],_=>rfl
 | [],_::_,e=>nomatch e
 | _::_,[],e=>nomatch e
 | x::xs,y::ys,e=>by
  rw[List.map_cons,List.map_cons,List.cons.injEq]at e;rw[h x y e.1,map_inj h e.2]
theorem NJ(p q:Str×Str)(h:tP p=tP q):p=q:=by
 unfold tP at h;have h:=L2.T.t.inj h;rw[List.cons.injEq,List.cons.injEq]at h;exact Prod.ext (L2.T.s.inj h.1) (L2.T.s.inj h.2.1)
theorem xG:∀{fs fs':List Fn},fs'.map tF=fs.map tF->fs'.map (·.1)=fs.map (·.1)
 | [],[],_=>rfl
 | [],_::_,e=>nomatch e
 | _::_,[],e=>nomatch e
 | f::r,f'::r',e=>by
  rw[List.map_cons,List.map_cons,List.cons.injEq]at e;have h:tF f'=tF f:=e.1;unfold tF at h;have h:=L2.T.t.inj h;rw[List.cons.injEq,List.cons.injEq,List.cons.injEq]at h;have h1:=L2.T.s.inj h.1;have h2:=map_inj NJ (L2.T.t.inj h.2.1);have h3:=L2.T.s.inj h.2.2.1;rw[List.map_cons,List.map_cons,xG e.2,show f'.1=f.1 from Prod.ext h1 (Prod.ext h2 h3)]
theorem AE{fs fs':List Fn}(h:fs'.map (·.1)=fs.map (·.1)):lV ks fs'=lV ks fs:=by
 have e1:fs'.map (·.1.1)=fs.map (·.1.1):=by
  have:=congrArg (List.map (·.1)) h
  rwa [List.map_map,List.map_map]at this
 have e2:∀ l:List Fn,l.findSome? (fun f=>gi (ks.map (·.1)) f.1) =(l.map (·.1)).findSome? (gi (ks.map (·.1))):=fun l=>by rw[List.findSome?_map];rfl
 unfold lV;rw[e1,e2,e2,h]
theorem Prog.flt{fs:List Fn}(p:Prog ks fs):lV ks fs=none:=by
 obtain⟨e1,e2⟩:=HC p.gk;unfold lV;rw[e1,e2,gN (by rw[List.nil_append];exact p.hn),List.findSome?_eq_none_iff.mpr fun g hg=>vh p hg]
 rfl
theorem Td{f f':Fn}(h:f'.2=f.2)(d:Dep 92 f.2.1):Alk 93 (tF f') (tF f):=by
 refine .inr (.inr ⟨_,_,rfl,rfl,fun j x y hx hy=>?_⟩)
 match j,hx,hy with
 | 0,hx,hy=>cases hx;cases hy;exact .inl ⟨_,_,rfl,rfl⟩
 | 1,hx,hy =>
  cases hx;cases hy;refine .inr (.inr ⟨_,_,rfl,rfl,fun j x y hx hy=>?_⟩)
  rw[List.getElem?_map]at hx hy;obtain⟨p,_,rfl⟩:=Option.map_eq_some_iff.mp hx;obtain⟨q,_,rfl⟩:=Option.map_eq_some_iff.mp hy;refine .inr (.inr ⟨_,_,rfl,rfl,fun j x y hx hy=>?_⟩)
  match j,hx,hy with
  | 0,hx,hy=>cases hx;cases hy;exact .inl ⟨_,_,rfl,rfl⟩
  | 1,hx,hy=>cases hx;cases hy;exact .inl ⟨_,_,rfl,rfl⟩
  | j+2,hx,_=>cases hx
 | 2,hx,hy=>cases hx;cases hy;exact .inl ⟨_,_,rfl,rfl⟩
 | 3,hx,hy=>cases hx;cases hy;rw[h];exact d.alk
 | j+4,hx,_=>cases hx
theorem Qi{fs fs':List Fn}(h:fs'.map (·.2)=fs.map (·.2))(d:∀ f∈fs,Dep 92 f.2.1)(j:Nat)(x y:L2.T)(hx:(fs'.map tF)[j]? = some x)(hy:(fs.map tF)[j]? = some y):Alk 93 x y:=by
 rw[List.getElem?_map]at hx hy;obtain⟨f',h1,rfl⟩:=Option.map_eq_some_iff.mp hx;obtain⟨f,h2,rfl⟩:=Option.map_eq_some_iff.mp hy;have e:=congrArg (·[j]?) h;simp only[List.getElem?_map,h1,h2,Option.map_some,Option.some.injEq]at e;exact Td e (d f (List.mem_of_getElem? h2))
def KN:PSp:=fun ts Q=>∃(ks:List Kd)(fs:List Fn),ts = [.t [tKs ks,.t (fs.map tF)]]/\Prog ks fs/\Q (.b true)
theorem OY(T:Txt K mg a):aU P w K mg base CX0 120 a.vk a.Np ["_law_script"] (rK K):=by
 have Qk:=@Lg P w K mg base a T;have aG:=gj (@dX P w K mg base a T);have Mx:=@GI P w K mg base a T;have Et:=@zR P w K mg base a T;have Iy:=(@sE P w K mg base a T).calm.Vm (ps':=KN) fun ts Q h=>by
  obtain⟨ks,fs,rfl,p,q⟩:=h;refine⟨ks,fs,rfl,⟨p.gk.kb,p.l8,fun f hf=>⟨(p.sn f hf).1.im,(p.pk f hf).1⟩,fun _ _ _ i g hg _=>?_⟩,by rw[p.flt];exact q⟩
  have hm:=List.mem_of_getElem? hg;exact⟨p.gk.w,by rw[List.map_map];exact p.hn,(p.sn g hm).1,(p.sn g hm).2,(p.pk g hm).2.2.1⟩
 have Iw:=@Dy P w K mg base a T;have pA:=@zQ P w K mg base a T;have pz:=@mZ P w K mg base a T;refine T.Tr.F.Vh (n:=4) (s1:=(bA pK).headD (.Pass ⟨0,0,0,0⟩)) (rest:=(bA pK).tail) oA rfl rfl (fun _ _ _ _ _ _ hr=>?_)
 have hu:=bJ hr;refine⟨_,_,_,(iz (i:=1) oA.nd rfl (Or.inl rfl) (wm Qk (hr.mono (by decide)) rfl T.xy.m T.xy.F.kp T.xy.b .nil BQ (bw (pv 0) (bw bD eB)))),((ag (ay 2 oA.nd (aL Mx hr T.CV (ae (qv 1) (ae ah ar))))
 (ag (ay 3 oA.nd (aL Et hr T.vF (ae (qv 1) (ae (qv 2) ar))))
 (ag (iu (g:=(Tg.tp [4,5])) (QPF.w (aL Iw hr T.yV (ae (qv 1) (ae (qv 3) (ae (qv 2) ar))))) (d5 (br 4 oA.nd) (br 5 oA.nd)))
 (ag (a6 (QPW.pt (pL (bj La E9 (bu _) (QPF.w (aL Iy hr T.uh (ae (qv 3) ar))) (QPF.w mU)) (lJ (zv (gy (QPF.w (aL pA hr T.ky (ae (qv 4) (ae (qv 5) ar)))))))))
 (ak (aQ mU))
 aN)
 (ag (a6 (QPW.pt (fk (bj (OV (Sn hr) rfl) J9 (bu _) (aq (qv 4) ah) (aq (qv 3) ah)) (c7 (zv (gy (QPF.w (aL pA hr T.ky (ae (QPF.w (aC (af (QPE.f (aq (qv 4) ah)) (af (aC av) av)))) (ae (qv 5) ar)))))))))
 (ak (aQ mU))
 aN)
 (ak (aQ (v7 (QPF.w (zx OT J8 (bu _) (QPF.w (aL Iy hr T.uh (ae (qv 3) ar))) (QPF.w mU))) (v7 (QPF.w (aL pz hr T.g6 (ae (qv 4) ar))) (FU (aL pA hr T.ky (ae (qv 4) (ae (qv 5) ar)))))))))))))),fun p0 ns D hS hlen k=>?_,fun ns hlen=>?_⟩
 ·refine⟨_,rfl,p0,ns,_,rfl,hS,hlen,by decide,by decide,fun d l H1 fd fl D1 s1=>?_⟩
  exact k d l H1 fd fl D1 s1
 ·refine⟨52,rfl,by decide,by decide,fun ws lw nw wl=>?_⟩
  refine⟨ws,rfl,by omega,nw,fun ks fs p=>⟨ks,fs,ws,rfl,p,by omega,nw,fun ks' fs' w x hF=>?_⟩⟩
  have imP:∀ f∈fs,f.2.1.im=true/\f.1.2.1.length<=4:=fun f hf=>⟨(p.sn f hf).1.im,(p.pk f hf).1⟩
  have hL:vB ks' fs'/\lV ks' fs'=some (w,x):=by
   rcases hF with⟨b,rfl⟩ |⟨rfl,b,_⟩
   ·exact b.some p.l8 imP
   ·exact⟨b.lk,b.fl⟩
  have im':L2.T.ims (fs'.map tF)=true:=lT fun f hf=>(hL.1.im f hf).1
  have h2:fs'.map (·.2)=fs.map (·.2):=by
   rcases hF with⟨_,rfl⟩ |⟨_,_,h⟩
   ·rfl
   ·exact h
  have im0:(L2.T.t [L2.T.t [tKs ks',L2.T.t (fs'.map tF)],L2.T.t [L2.T.s w,L2.T.s x]]).im=true:=by
   show(((tKs ks').im&&(L2.T.ims (fs'.map tF)&&true))&&((true&&(true&&true))&&true))=true;rw[jO,im'];rfl
  refine⟨im0,_,rfl,ks,fs,rfl,p,ks',fs',w,x,rfl,hL.1,hL.2,?_⟩;refine⟨_,rfl,_,rfl,93,by decide,Qi h2 p.dp,fun c hc=>?_⟩
  refine aJ (fun c1=>?_) (fun _=>⟨ks,fs,rfl,p,ks',fs',w,x,rfl,hL.1,hL.2,ks',fs',w,x,rfl,hL.1,hL.2,rfl⟩)
  rcases hF with⟨b,e⟩ |⟨rfl,b,_⟩
  ·subst e;refine⟨_,rfl,jO ks',ks',[],w,x,rfl,(b.some (fs:=[]) (Nat.zero_le _) fun _ z=>nomatch z).1,(b.some (fs:=[]) (Nat.zero_le _) fun _ z=>nomatch z).2,ks,fs',rfl,p,ks',fs',w,x,rfl,hL.1,hL.2,ks',fs',w,x,rfl,hL.1,hL.2,rfl⟩
  ·have e:=AE (ks:=ks') (xG (hc.mp c1));rw[b.fl,p.flt]at e;cases e
end
theorem all_mk{l:W.OpenLaw}{w:World}{K:W.Frag}{h:Heap}{fa:Addr}(X:K.In h)(G:h.Ns mainGlobals mg)(hfa:mg "law" = some (.ref fa))
  {ax:Addr} (fS:W.nsIn K mainGlobals "PurseError" = some (some (.ref ax))) (fQ:W.keepIn K (.ref ax)=true)
  (fP:fR K fns ax (bmV) none=true)
  {bZ:Addr} (oj:W.nsIn K mainGlobals "NoText" = some (some (.ref bZ))) (n6:W.keepIn K (.ref bZ)=true)
  {vt:ClassData} (uR:W.clsIn K bZ=some vt)
  (uS:W.nsIn K vt.ns "__init__" = some (some (.ref dh))) (nZ:LK K dh "__init__" "NoText.__init__" uW Py Px PB PC Pw PF Ax PD Pt) (og:CI K Ax "NoText.__init__") (nY:KI K dh) (n8:W.isFn K (.ref dh)=true)
  (nW:fR K fns bZ (.ref ax::bmV) (some dh)=true)
  {aM:Addr} (ic:W.nsIn K mainGlobals "NoProgram" = some (some (.ref aM))) (h9:W.keepIn K (.ref aM)=true)
  {nB:ClassData} (mx:W.clsIn K aM=some nB)
  (my:W.nsIn K nB.ns "__init__" = some (some (.ref bI))) (hZ:LK K bI "__init__" "NoProgram.__init__" ie Jo Jn Jp Jq Jm Js uF Jr Jl) (ib:CI K uF "NoProgram.__init__") (hX:KI K bI) (ia:W.isFn K (.ref bI)=true)
  (hV:fR K fns aM (.ref ax::bmV) (some bI)=true)
  {bN:Addr} (lC:W.nsIn K mainGlobals "NoValue" = some (some (.ref bN))) (k6:W.keepIn K (.ref bN)=true)
  (kS:fR K fns bN (.ref ax::bmV) none=true)
  {bB:Addr} (lD:W.nsIn K mainGlobals "NoPaper" = some (some (.ref bB))) (k7:W.keepIn K (.ref bB)=true)
  {tL:ClassData} (rg:W.clsIn K bB=some tL)
  (rl:W.nsIn K tL.ns "__init__" = some (some (.ref cF))) (kY:LK K cF "__init__" "NoPaper.__init__" rO M4 M1 M7 M9 MZ Nf yp Nb MX) (lr:CI K yp "NoPaper.__init__") (kW:KI K cF) (k9:W.isFn K (.ref cF)=true)
  (kT:fR K fns bB (.ref ax::bmV) (some cF)=true)
  {b8:Addr} (oh:W.nsIn K mainGlobals "NoTurn" = some (some (.ref b8))) (n4:W.keepIn K (.ref b8)=true)
  (nV:fR K fns b8 (.ref ax::bmV) none=true)
  {bC:Addr} (lE:W.nsIn K mainGlobals "NoChain" = some (some (.ref bC))) (k8:W.keepIn K (.ref bC)=true)
  {tO:ClassData} (rh:W.clsIn K bC=some tO)
  (rn:W.nsIn K tO.ns "__init__" = some (some (.ref cG))) (kZ:LK K cG "__init__" "NoChain.__init__" rP M5 M3 M8 Na M0 Ng yq Nc MY) (lu:CI K yq "NoChain.__init__") (kX:KI K cG) (lg:W.isFn K (.ref cG)=true)
  (kU:fR K fns bC (.ref ax::bmV) (some cG)=true)
  {cK:Addr} (rA:W.nsIn K mainGlobals "NoRow" = some (some (.ref cK))) (rj:W.keepIn K (.ref cK)=true)
  (rf:fR K fns cK (.ref ax::bmV) none=true)
  {aT:Addr} (sr:W.nsIn K mainGlobals "Known" = some (some (.ref aT))) (sC:W.plainGet K aT Str.empty=true) (sA:W.hasDictIn K aT=true) (sy:W.plainOver K aT=true)
  (sx:W.findIn K (.ref aT) "__setattr__" = some (some (.builtin "object.__setattr__"))) (sv:W.makesIn K aT=true) (su:W.keepIn K (.ref aT)=true)
  (fu:W.findIn K (.ref aT) "kinds" = some none)
  (ez:W.findIn K (.ref aT) "makers" = some none)
  (cR:W.findIn K (.ref aT) "functions" = some none)
  (de:W.findIn K (.ref aT) "__init__" = some (some (.ref bG))) (f9:LK K bG "__init__" "Known.__init__" fT Je Ja Jk Jw IW JE uK JA IS) (gb:CI K uK "Known.__init__") (dW:KI K bG) (dU:W.isFn K (.ref bG)=true)
  (xnd:decide [ax,bZ,aM,bN,bB,b8,bC,cK].Nodup=true)
  (A6:NI K "look" f_look) (Ab:LK K f_look "look" "look" zm T9 TX Ui Ur TK UI Mb Uz Tt) (AU:CI K Mb "look") (Am:KI K f_look)
  (A5:NI K "need" lY) (Aa:LK K lY "need" "need" zl T8 TV Uh Uq TJ UH Ma Uy Ts) (AR:CI K Ma "need") (Al:KI K lY)
  (Bc:NI K "bind" l5) (Ah:LK K l5 "bind" "bind" zu Ug T7 Up Ux TU UO Mh UG TC) (A0:CI K Mh "bind") (Ar:KI K l5)
  (gp:NI K "look_makers" cm) (gg:LK K cm "look_makers" "look_makers" fU GP GO Hf HM Gp Iq tJ H0 E2) (gn:CI K tJ "look_makers") (gh:KI K cm)
  (dP:NI K "look_functions" bL) (dC:LK K bL "look_functions" "look_functions" dv BY BV B4 Cw BJ CM nz CD Bl) (dM:CI K nz "look_functions") (dF:KI K bL)
  (eR:NI K "look_function" bT) (eI:LK K bT "look_function" "look_function" et DC DB DO DZ Du Eo oZ D6 Dd) (eQ:CI K oZ "look_function") (eM:KI K bT)
  (j4:NI K "look_body" cY) (jF:LK K cY "look_body" "look_body" jo Lq Lm LC L3 KW Mq xb L8 JT) (jV:CI K xb "look_body") (jJ:KI K cY)
  (jZ:NI K "look_head" cX) (jE:LK K cX "look_head" "look_head" jn Lp Ll LB L1 KU Mp xa L7 JS) (jU:CI K xa "look_head") (jI:KI K cX)
  (iS:NI K "look_piece" cH) (iE:LK K cH "look_piece" "look_piece" ig Jb IY Jh Jt IT JB uH Jx IM) (iP:CI K uH "look_piece") (iH:KI K cH)
  (mf:NI K "look_use" dH) (lR:LK K dH "look_use" "look_use" lH MT MS MW Nm MQ Nu yK Nq ME) (me:CI K yK "look_use") (lS:KI K dH)
  (jY:NI K "need_kind" cW) (jD:LK K cW "need_kind" "need_kind" jm Lo Lk LA L0 KS Mn w6 L6 JR) (jT:CI K w6 "need_kind") (jH:KI K cW)
  (j6:NI K "look_arms" cZ) (jG:LK K cZ "look_arms" "look_arms" jq Lr Ln LD L4 KY Mr xf L9 JU) (jW:CI K xf "look_arms") (jK:KI K cZ)
  (A9:NI K "_law_deal" oW) (Ae:LK K oW "_law_deal" "_law_deal" zq Uc T4 Ul Uu TN UL Me UC Tx) (AX:CI K Me "_law_deal") (Ao:KI K oW)
  (A8:NI K "_law_draw" oV) (Ad:LK K oV "_law_draw" "_law_draw" zp Ub T2 Uk Ut TM UK Md UB Tw) (AW:CI K Md "_law_draw") (An:KI K oV)
  (xp:NI K "_law_words" km) (wF:LK K km "_law_words" "_law_words" vT RW RT Se SQ RI S9 Ia SW Q5) (xj:CI K Ia "_law_words") (wI:KI K km)
  (xq:NI K "_law_kinds" ko) (wG:LK K ko "_law_kinds" "_law_kinds" vU RX RU Sf SR RJ Ta Ic SX Q6) (xk:CI K Ic "_law_kinds") (wJ:KI K ko)
  (A7:NI K "_law_fill" oU) (Ac:LK K oU "_law_fill" "_law_fill" zo Ua TY Uj Us TL UJ Mc UA Tv) (AV:CI K Mc "_law_fill") (k_fill:KI K oU)
  (xr:NI K "_law_ended" kq) (wH:LK K kq "_law_ended" "_law_ended" vV RY RV Sg SS RK Tc Ie SY Q7) (xl:CI K Ie "_law_ended") (wK:KI K kq)
  (Ba:NI K "_law_case" oX) (Af:LK K oX "_law_case" "_law_case" zr Ud T5 Um Uv TQ UM Mf UD Tz) (AY:CI K Mf "_law_case") (Ap:KI K oX)
  (Bb:NI K "_law_body" lZ) (Ag:LK K lZ "_law_body" "_law_body" zt Ue T6 Uo Uw TR UN Mg UE TB) (AZ:CI K Mg "_law_body") (Aq:KI K lZ)
  (px:NI K "_law_program" fi) (oP:LK K fi "_law_program" "_law_program" oC O3 O1 Pn P4 OC Qg AO P8 NY) (pj:CI K AO "_law_program") (oS:KI K fi)
  (Iu:NI K "_law_set" vj) (G9:LK K vj "_law_set" "_law_set" Ft U8 U6 Vk VI U3 VQ Qa VL UW) (Ij:CI K Qa "_law_set") (Hc:KI K vj)
  (iT:NI K "_law_kind_fault" cI) (iF:LK K cI "_law_kind_fault" "_law_kind_fault" ij Jc IZ Ji Ju IU JC uI Jy IP) (iQ:CI K uI "_law_kind_fault") (iI:KI K cI)
  (t5:NI K "_law_called" gP) (sQ:LK K gP "_law_called" "_law_called" rT Qu Qs Qy QF Qq QN Ec QK Qn) (tT:CI K Ec "_law_called") (sV:KI K gP)
  (iU:NI K "_law_first_used" cJ) (iG:LK K cJ "_law_first_used" "_law_first_used" ik Jd I0 Jj Jv IV JD uJ Jz IQ) (iR:CI K uJ "_law_first_used") (iJ:KI K cJ)
  (dQ:NI K "_law_function_fault" bM) (dD:LK K bM "_law_function_fault" "_law_function_fault" dw BZ BW B5 Cy BK CN nA CF Bn) (dN:CI K nA "_law_function_fault") (dG:KI K bM)
  (tZ:NI K "_law_spoilt" gO) (sP:LK K gO "_law_spoilt" "_law_spoilt" rS Qt Qr Qx QD Qo QM Eb QG Qm) (tS:CI K Eb "_law_spoilt") (sU:KI K gO)
  (pq:NI K "_law_refused" fh) (oO:LK K fh "_law_refused" "_law_refused" oB O2 O0 Pm P2 OB Qf AN P7 NX) (ph:CI K AN "_law_refused") (oR:KI K fh)
  (dO:NI K "_law_refused_by_any" bK) (dB:LK K bK "_law_refused_by_any" "_law_refused_by_any" du BX BU B3 Cv BI CL ny CC Bk) (dJ:CI K ny "_law_refused_by_any") (dE:KI K bK)
  (CO:NI K "law" vk) (Ha:LK K vk "law" "law" pK U9 U7 Po P5 OD Qh Ib P9 UX) (Ik:CI K Ib "law") (He:KI K vk)
  (Ez:W.nsIn K mainGlobals "len" = some none)
  (EA:W.nsIn K mainGlobals "any" = some none)
  (yZ:W.nsIn K mainGlobals "list" = some none)
  (vI:W.nsIn K mainGlobals "tuple" = some none)
  (Ex:W.nsIn K mainGlobals "str" = some none)
  (y2:W.nsIn K mainGlobals "dict" = some none)
  (kR:W.nsIn K mainGlobals "reversed" = some none)
  (Ey:W.nsIn K mainGlobals "max" = some none)
  (vJ:W.nsIn K mainGlobals "range" = some none)
  (hJ:W.nsIn K mainGlobals "isinstance" = some none)
  (Ew:W.nsIn K mainGlobals "zip" = some none)
  (jg:W.nsIn K mainGlobals "enumerate" = some none)
  (hU:W.nsIn K mainGlobals "ValueError" = some none)
  : ∃ fd:FuncData,(∀(s:Shared)(v:Value),BindsTo s fd ⟨[v],[]⟩ [("_law_script",v)])/\∀ base:Heap,K.In base->base.Ns mainGlobals mg->aU l.prog w K mg base CX0 120 fa fd ["_law_script"] (rK K):=by
 have e:=hfa.symm.trans (W.mg_of X G CO);cases e;have pH:=aV nZ og nY;have fe:=aV hZ ib hX;have mr:=aV kY lr kW;have mv:=aV kZ lu kX;have IC:=aV Ab AU Am;have IB:=aV Aa AR Al;have II:=aV Ah A0 Ar;have kP:=aV gg gn gh;have gY:=aV dC dM dF;have ja:=aV eI eQ eM;have pY:=aV jF jV jJ;have pX:=aV jE jU jI;have nP:=aV iE iP iH;have uf:=aV lR me lS;have pW:=aV jD jT jH;have pZ:=aV jG jW jK;have IF:=aV Ae AX Ao;have IE:=aV Ad AW An;have CS:=aV wF xj wI;have CT:=aV wG xk wJ;have ID:=aV Ac AV k_fill;have CU:=aV wH xl wK;have IG:=aV Af AY Ap;have IH:=aV Ag AZ Aq;have vE:=aV oP pj oS;have Nv:=aV G9 Ij Hc;have nQ:=aV iF iQ iI;have yT:=aV sQ tT sV;have nR:=aV iG iR iJ;have gZ:=aV dD dN dG;have yS:=aV sP tS sU;have vD:=aV oO ph oR;have gX:=aV dB dJ dE;have Nw:=aV Ha Ik He;have fc:=aV f9 gb dW;have T:Txt K mg ⟨ax,bZ,dh,_,aM,bI,_,bN,bB,cF,_,b8,bC,cG,_,cK,aT,bG,_,f_look,_,lY,_,l5,_,cm,_,bL,_,bT,_,cY,_,cX,_,cH,_,dH,_,cW,_,cZ,_,oW,_,oV,_,km,_,ko,_,oU,_,kq,_,oX,_,lZ,_,fi,_,vj,_,cI,_,gP,_,cJ,_,bM,_,gO,_,fh,_,bK,_,vk,_⟩:=⟨fL fP,W.mg_of X G fS,fQ,fL nW,W.mg_of X G oj,n6,pH,n8,pH.b2,fL hV,W.mg_of X G ic,h9,fe,ia,fe.b3,fL kS,W.mg_of X G lC,k6,fL kT,W.mg_of X G lD,k7,mr,k9,mr.b2,fL nV,W.mg_of X G oh,n4,fL kU,W.mg_of X G lE,k8,mv,lg,mv.b2,fL rf,W.mg_of X G rA,rj,⟨sC,sA,sy,sx⟩,W.mg_of X G sr,⟨sv,de,dU,su⟩,fu,ez,cR,fc,⟨de,dU,dW⟩,fc.b4,of_decide_eq_true xnd,⟨IC,W.mg_of X G A6,IC.b1⟩,⟨IB,W.mg_of X G A5,IB.b2⟩,⟨II,W.mg_of X G Bc,II.b3⟩,⟨kP,W.mg_of X G gp,kP.b2⟩,⟨gY,W.mg_of X G dP,gY.b1⟩,⟨ja,W.mg_of X G eR,ja.b2⟩,⟨pY,W.mg_of X G j4,pY.b3⟩,⟨pX,W.mg_of X G jZ,pX.b3⟩,⟨nP,W.mg_of X G iS,nP.b3⟩,⟨uf,W.mg_of X G mf,uf.b3⟩,⟨pW,W.mg_of X G jY,pW.b3⟩,⟨pZ,W.mg_of X G j6,pZ.b3⟩,⟨IF,W.mg_of X G A9,IF.b2⟩,⟨IE,W.mg_of X G A8,IE.b2⟩,⟨CS,W.mg_of X G xp,CS.b2⟩,⟨CT,W.mg_of X G xq,CT.b2⟩,⟨ID,W.mg_of X G A7,ID.b3⟩,⟨CU,W.mg_of X G xr,CU.b4⟩,⟨IG,W.mg_of X G Ba,IG.b5⟩,⟨IH,W.mg_of X G Bb,IH.b5⟩,⟨vE,W.mg_of X G px,vE.b2⟩,⟨Nv,W.mg_of X G Iu,Nv.b3⟩,⟨nQ,W.mg_of X G iT,nQ.b4⟩,⟨yT,W.mg_of X G t5,yT.b1⟩,⟨nR,W.mg_of X G iU,nR.b2⟩,⟨gZ,W.mg_of X G dQ,gZ.b4⟩,⟨yS,W.mg_of X G tZ,yS.b3⟩,⟨vD,W.mg_of X G pq,vD.b2⟩,⟨gX,W.mg_of X G dO,gX.b1⟩,⟨Nw,W.mg_of X G CO,Nw.b1⟩,W.mg_none_of X G Ez,W.mg_none_of X G EA,W.mg_none_of X G yZ,W.mg_none_of X G vI,W.mg_none_of X G Ex,W.mg_none_of X G y2,W.mg_none_of X G kR,W.mg_none_of X G Ey,W.mg_none_of X G vJ,W.mg_none_of X G hJ,W.mg_none_of X G Ew,W.mg_none_of X G jg,W.mg_none_of X G hU⟩;exact⟨W.fnOf "law" "law" (dm pK) (bA pK) (au pK) .none Po P5 OD Qh Ib P9,fun s v=>.of_eq rfl,fun base _ _=>OY T⟩
theorem walk{l:W.OpenLaw}{q:Program}{loose:List Str}{XP:(Str->Option Value)->Heap->Prop}{YP:World->Heap->Prop}{d:DefRec}{K:Params->W.Frag}(hn:l.most=some 63)(hdf:d.params.defaults = [])
  (hY:∀(w:World)(h:Heap),YP w h ->(K w.params).In h)
  (F:∀(w:World)(mg:Str->Option Value)(fa:Addr)(h:Heap),(K w.params).In h->h.Ns mainGlobals mg->mg d.name=some (.ref fa) ->
   ∃ fd:FuncData,(∀(s:Shared)(u:Value),BindsTo s fd ⟨[u],[]⟩ [("_law_script",u)])/\∀ base:Heap,(K w.params).In base->base.Ns mainGlobals mg->aU l.prog w (K w.params) mg base CX0 120 fa fd ["_law_script"] (rK (K w.params))) :
  W.WalkO q loose XP YP l.row.toRowW d [] (fun f vs=>PySem.call f vs) :=
 L2.JH (n:=63) (k:=120) (x:="_law_script") (CX:=fun _=>CX0) (sp:=fun w=>rK (K w.params)) hn (by decide) hdf ⟨rfl,by decide,by decide⟩ hY F (fun _ _ a ns hl hO hS=>⟨a,ns,rfl,SM hO hS,hl,fun _=>rfl⟩) fun _ _ _ _ _ z=>z
end K11
namespace PySem.W.Fast
def tw10032233949789431520:=()
def tw10187634820197277241:=()
def tw10192189396453881427:=()
def tw10221641682678448848:=()
def tw10308448695761189618:=()
def tw10478485924033259707:=()
def tw10494332124300474009:=()
def tw10686580662619125956:=()
def tw10775463860703608682:=()
def tw10877138106940421281:=()
def tw10889715293889633892:=()
def tw10901200055889095376:=()
def tw11042569060674615472:=()
def tw11064712628142961265:=()
def tw11253588283615517141:=()
def tw11258682854486221407:=()
def tw11300350142721136914:=()
def tw11322904118906565271:=()
def tw11336618602941472653:=()
def tw11402939563273192426:=()
def tw1140986951660965184:=()
def tw11412639781278608444:=()
def tw11519884046163643190:=()
def tw11542294651082081577:=()
def tw11573894196270837030:=()
def tw11583786273883665322:=()
def tw1171888174157096530:=()
def tw11755644510089968662:=()
def tw1176218764819546107:=()
def tw11780256594415054261:=()
def tw11872655815904762450:=()
def tw11895063298684151622:=()
def tw11937385473625355258:=()
def tw11947661267221513300:=()
def tw12015523724149675430:=()
def tw12120768894266508798:=()
def tw12246208719960366430:=()
def tw12251434627010769074:=()
def tw12267264739832751065:=()
def tw12279496548938631723:=()
def tw12453580154089363150:=()
def tw12526464384905112044:=()
def tw12575239998689551325:=()
def tw12602460749592487386:=()
def tw1285094198186881178:=()
def tw13135959625966253746:=()
def tw13313378660620430619:=()
def tw13346901893332323609:=()
def tw13532545675173197328:=()
def tw13561759131124955221:=()
def tw13627250216614003669:=()
def tw13824481649461164818:=()
def tw13834167808155525930:=()
def tw13908017744249143729:=()
def tw13913133622202508290:=()
def tw13913788194500265189:=()
def tw13987209699673398671:=()
def tw14012561018902743806:=()
def tw14015908659522532647:=()
def tw14159601070186617523:=()
def tw14185748597220152785:=()
def tw14198248212963512491:=()
def tw14215090584733873670:=()
def tw14250947804342256411:=()
def tw14342469545310356394:=()
def tw1440371100097195712:=()
def tw14404440797345770617:=()
def tw14406934654279147269:=()
def tw1447700689064258035:=()
def tw14543334292143724438:=()
def tw14636799644328410715:=()
def tw14646372592396772757:=()
def tw14982921737924907192:=()
def tw15000303437021383908:=()
def tw15014552722035392795:=()
def tw15150860615190194689:=()
def tw15165595362309211173:=()
def tw15201179531390580744:=()
def tw15314017040557915574:=()
def tw1533258793173222698:=()
def tw15356316744075044755:=()
def tw15480399488881564489:=()
def tw15567481396424511228:=()
def tw1560687917473861686:=()
def tw15750168852437606073:=()
def tw15834781636504704961:=()
def tw15835207456667803437:=()
def tw15913507325629945431:=()
def tw15965859158491606583:=()
def tw16039652621850481723:=()
def tw16055627982024555912:=()
def tw16068421127325078181:=()
def tw16112371410094791948:=()
def tw16135870157570432652:=()
def tw1614500767996972752:=()
def tw16292930673351622286:=()
def tw16323311195884649577:=()
def tw16328066650254070413:=()
def tw1638890505057724030:=()
def tw16427908513131451892:=()
def tw16524156319078197948:=()
def tw16563612322120207215:=()
def tw16580778145432413317:=()
def tw16710120944760532996:=()
def tw16769843921684852382:=()
def tw16772540134317206841:=()
def tw16796916360122929996:=()
def tw17063116174093535314:=()
def tw17076395183606715776:=()
def tw17161303001082711087:=()
def tw1719911678240283361:=()
def tw17493164267640178767:=()
def tw17651994177187854195:=()
def tw17688733891586132442:=()
def tw17773799659704265456:=()
def tw17879065087967064639:=()
def tw17931541672871133676:=()
def tw17936232295666154373:=()
def tw18195309599036180968:=()
def tw18297014451648024437:=()
def tw18324035674801636172:=()
def tw18351862554730367038:=()
def tw18445703070467745555:=()
def tw1871295107244519106:=()
def tw1871328116810109579:=()
def tw1886778798001903133:=()
def tw2214951642576980238:=()
def tw2335537075856608455:=()
def tw244246141110392589:=()
def tw2554665095125765347:=()
def tw2667392339620788246:=()
def tw2732475377551327920:=()
def tw2974584088988886413:=()
def tw3219036493217746658:=()
def tw3250842106041129394:=()
def tw3325262420738756586:=()
def tw3391256277948782516:=()
def tw3659670915664061946:=()
def tw3772762388592217776:=()
def tw3781058110576076745:=()
def tw3871625485645451398:=()
def tw387915620773700966:=()
def tw3938765676551632134:=()
def tw3997216011332515956:=()
def tw4084491777634964849:=()
def tw4227007326031721426:=()
def tw4264086860183846306:=()
def tw4368375866439685405:=()
def tw450919879553285753:=()
def tw4549070844448529065:=()
def tw4558717937796787728:=()
def tw4599162576154952741:=()
def tw4753488457906111632:=()
def tw4797754056680038989:=()
def tw4997672339238665427:=()
def tw5085322957922514085:=()
def tw51295087127652513:=()
def tw5167824243777728592:=()
def tw5191888684874743231:=()
def tw5205837074801175339:=()
def tw5271877170989886866:=()
def tw5312309310389565653:=()
def tw5361005381848212429:=()
def tw5393490367381309678:=()
def tw5436612655489174637:=()
def tw5533460854528075582:=()
def tw5591961435037105103:=()
def tw5628196334742373418:=()
def tw5647299830359097028:=()
def tw5670756687160630458:=()
def tw5676887790725662374:=()
def tw5679251182346243977:=()
def tw5767522214203396298:=()
def tw5829368179438527592:=()
def tw5863075347471739111:=()
def tw6030760014899650908:=()
def tw6047743465675328311:=()
def tw6132997281963734762:=()
def tw6144238077837321773:=()
def tw6230581172796809079:=()
def tw6305960294476430252:=()
def tw635630711043180687:=()
def tw6550109443791352971:=()
def tw6555583274836176458:=()
def tw6632672588260408541:=()
def tw6655747530005103259:=()
def tw6738021927202384145:=()
def tw6738150113808115124:=()
def tw7001866977673815748:=()
def tw7036500592473661071:=()
def tw7227704445253528429:=()
def tw7298110074732186993:=()
def tw7304301841908411289:=()
def tw7308122060422906690:=()
def tw7471720392560824101:=()
def tw7524088657070787092:=()
def tw7645875659785902803:=()
def tw7762560790259875125:=()
def tw7854349071681281273:=()
def tw7909804925028578800:=()
def tw8102985493583359942:=()
def tw8230386155506695226:=()
def tw8236379191316375474:=()
def tw8458427242459614211:=()
def tw8478009971774236036:=()
def tw8540392783848473198:=()
def tw8596229222250133384:=()
def tw8671898199020413446:=()
def tw8705482437842863460:=()
def tw8719252409850129646:=()
def tw8801726911863532295:=()
def tw8855001328091995996:=()
def tw9206610173521118904:=()
def tw9309797035177270205:=()
def tw9469070213401820452:=()
def tw9507830997279880588:=()
def tw9639902949640464838:=()
def tw9845509029743711870:=()
def tw9885301151058333848:=()
def tw9971928726509409653:=()
def tw9993582484479885245:=()
end PySem.W.Fast
open PySem PySem.W PyProof.Rows
set_option maxRecDepth 100000 in
set_option maxHeartbeats 0 in
theorem PySem.Challenge.cw_pursewright_k11_faults_of_kinds_and_head_holds : PySem.Challenge.rw_pursewright_k11_faults_of_kinds_and_head.Holds := by
 w_on;o_law;k_head;(case hw=>w_witness2)
 k_fill
 refine K11.walk (l:=PySem.Challenge.rw_pursewright_k11_faults_of_kinds_and_head) rfl rfl (fun w h Y=>PySem.W.kIn_of Y) ?F
 case F =>
  intro w mg fa h KX G hmg;refine' K11.all_mk KX G hmg ?fS ?fQ ?fP ?oj ?n6 ?uR ?uS ?nZ ?og ?nY ?n8 ?nW ?ic ?h9 ?mx ?my ?hZ ?ib ?hX ?ia ?hV ?lC ?k6 ?kS ?lD ?k7 ?rg ?rl ?kY ?lr ?kW ?k9 ?kT ?oh ?n4 ?nV ?lE ?k8 ?rh ?rn ?kZ ?lu ?kX ?lg ?kU ?rA ?rj ?rf ?sr ?sC ?sA ?sy ?sx ?sv ?su ?fu ?ez ?cR ?de ?f9 ?gb ?dW ?dU ?xnd ?A6 ?Ab ?AU ?Am ?A5 ?Aa ?AR ?Al ?Bc ?Ah ?A0 ?Ar ?gp ?gg ?gn ?gh ?dP ?dC ?dM ?dF ?eR ?eI ?eQ ?eM ?j4 ?jF ?jV ?jJ ?jZ ?jE ?jU ?jI ?iS ?iE ?iP ?iH ?mf ?lR ?me ?lS ?jY ?jD ?jT ?jH ?j6 ?jG ?jW ?jK ?A9 ?Ae ?AX ?Ao ?A8 ?Ad ?AW ?An ?xp ?wF ?xj ?wI ?xq ?wG ?xk ?wJ ?A7 ?Ac ?AV ?k_fill ?xr ?wH ?xl ?wK ?Ba ?Af ?AY ?Ap ?Bb ?Ag ?AZ ?Aq ?px ?oP ?pj ?oS ?Iu ?G9 ?Ij ?Hc ?iT ?iF ?iQ ?iI ?t5 ?sQ ?tT ?sV ?iU ?iG ?iR ?iJ ?dQ ?dD ?dN ?dG ?tZ ?sP ?tS ?sU ?pq ?oO ?ph ?oR ?dO ?dB ?dJ ?dE ?CO ?Ha ?Ik ?He ?Ez ?EA ?yZ ?vI ?Ex ?y2 ?kR ?Ey ?vJ ?hJ ?Ew ?jg ?hU
  all_goals try delta L2.NI L2.LK L2.CI L2.KI
  all_goals try first|k_is|kernel_rfl
