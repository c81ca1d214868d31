import PyProof.Rows.All
import Wide.All
import OpenK.AllK
import Wide.FinOn
import Lean
import PyProof.EqAt
import PyProof.EqKinds
import PyProof.TupleCall
import PyProof.InstStoreFacts
import PySem.Challenge.RW_pursewright_k15_texts_of_no_value
set_option Elab.async false
set_option linter.all false
set_option maxRecDepth 100000
namespace L2
open PySem PySem.Spec PyProof.Rows
abbrev Key:=Sum Int Str
def vZ:Key->Value->Bool
 | .inl k,v=>Value.isInt k v
 | .inr x,v=>Value.isStrOf x v
def SV(w:World):Key->Int
 | .inl k=>hashInt k
 | .inr x=>hashStr w x
theorem cj:∀{k:Key}{v:Value},vZ k v=true ->(∃ i t,k=Sum.inl i/\v=Value.int i t)\/(∃ x t,k=Sum.inr x/\v=Value.str x t)
 | .inl i,v,h=>by
  obtain⟨t,e⟩:=Value.isInt_shape (k:=i) (v:=v) h;exact .inl ⟨i,t,rfl,e⟩
 | .inr x,v,h=>by
  obtain⟨t,e⟩:=Value.isStrOf_shape (x:=x) (v:=v) h;exact .inr ⟨x,t,rfl,e⟩
theorem Ez(i:Int)(t:Tok):vZ (.inl i) (.int i t)=true:=by simp[vZ,Value.isInt]
theorem Ey(x:Str)(t:Tok):vZ (.inr x) (.str x t)=true:=by simp[vZ,Value.isStrOf]
theorem OZ(a b:Int):decide ((Sum.inl a:Key)=Sum.inl b) =(a==b):=by
 by_cases e:a=b
 ·subst e;simp
 ·have h:¬(Sum.inl a:Key)=Sum.inl b:=fun q=>e (Sum.inl.inj q)
  rw[decide_eq_false h];exact(beq_eq_false_iff_ne.mpr e).symm
theorem OW(a b:Str):decide ((Sum.inr a:Key)=Sum.inr b)=decide (a=b):=by
 by_cases e:a=b
 ·subst e;simp
 ·have h:¬(Sum.inr a:Key)=Sum.inr b:=fun q=>e (Sum.inr.inj q)
  rw[decide_eq_false h,decide_eq_false e]
theorem OY(a:Int)(b:Str):decide ((Sum.inl a:Key)=Sum.inr b)=false:=decide_eq_false (fun q=>nomatch q)
theorem OX(a:Str)(b:Int):decide ((Sum.inr a:Key)=Sum.inl b)=false:=decide_eq_false (fun q=>nomatch q)
def bH(prog:Program)(w:World):PySem.KeyKind prog w Key where
 is:=vZ
 hash:=SV w
 inj:=fun v a b ha hb=>by
  rcases cj ha with⟨i,t,rfl,rfl⟩ |⟨x,t,rfl,rfl⟩
  ·rcases cj hb with⟨j,u,rfl,e⟩ |⟨y,u,rfl,e⟩
   ·injection e with e1 _;rw[e1]
   ·exact nomatch e
  ·rcases cj hb with⟨j,u,rfl,e⟩ |⟨y,u,rfl,e⟩
   ·exact nomatch e
   ·injection e with e1 _;rw[e1]
 byValue:=fun k v h=>by
  rcases cj h with⟨i,t,rfl,rfl⟩ |⟨x,t,rfl,rfl⟩ <;> rfl
 pyHash:=fun hv h=>by
  rcases cj hv with⟨i,t,rfl,rfl⟩ |⟨x,t,rfl,rfl⟩
  ·exact wpAny_pyHash_int h
  ·exact wpAny_pyHash_str h
 eqBool:=fun hu hv h=>by
  rcases cj hu with⟨i,t,rfl,rfl⟩ |⟨x,t,rfl,rfl⟩
  ·rcases cj hv with⟨j,u,rfl,rfl⟩ |⟨y,u,rfl,rfl⟩
   ·rw[OZ]at h;exact wpAny_eqBool_int h
   ·rw[OY]at h;exact SeqAt.EqAt.int_str i t y u _ _ _ _ h
  ·rcases cj hv with⟨j,u,rfl,rfl⟩ |⟨y,u,rfl,rfl⟩
   ·rw[OX]at h;exact SeqAt.EqAt.str_int x t j u _ _ _ _ h
   ·rw[OW]at h;exact wpAny_eqBool_str h
 «strs»:=fun k x t v h=>by
  rcases cj h with⟨i,u,rfl,e⟩ |⟨y,u,rfl,e⟩
  ·exact nomatch e
  ·injection e with e1 _
   subst e1;cases v <;> rfl
theorem zF(prog:Program)(w:World)(i:Int)(t:Tok):(bH prog w).is (.inl i) (.int i t)=true:=Ez i t
theorem zE(prog:Program)(w:World)(x:Str)(t:Tok):(bH prog w).is (.inr x) (.str x t)=true:=Ey x t
inductive V where
 | non|bl (b:Bool)|int (i:Int)|str (x:Str)|byt (b:Array UInt8)|flt (b:UInt64)|ref (a:Addr)|ty (n:String)
 deriving DecidableEq
def RelV:V->Value->Prop
 | .non,u=>u=Value.none
 | .bl b,u=>u=Value.bool b
 | .int i,u=>∃ t,u=Value.int i t
 | .str x,u=>∃ t,u=Value.str x t
 | .byt b,u=>∃ t,u=Value.bytes b t
 | .flt b,u=>∃ t,u=Value.float b t
 | .ref a,u=>u=Value.ref a
 | .ty n,u=>u=Value.type n
abbrev Vals:List V->List Value->Prop:=Paired RelV
theorem Vals.length{xs:List V}{us:List Value}(r:Vals xs us):xs.length=us.length:=Paired.length r
theorem Vals.get:∀{xs:List V}{us:List Value}{i:Nat}{x:V},Vals xs us->xs[i]? = some x->∃ u,us[i]? = some u/\RelV x u
 | _,_,_,_,.nil,e=>by simp at e
 | _,_,0,_,.cons r _,e=>by simp at e;subst e;exact⟨_,rfl,r⟩
 | _,_,i+1,x,.cons _ t,e=>by
  obtain⟨u,h1,h2⟩:=Vals.get (i:=i) (x:=x) t (by simpa using e)
  exact⟨u,by simpa using h1,h2⟩
theorem Vals.set{x:V}{u:Value}(r:RelV x u):∀{xs:List V}{us:List Value}(i:Nat),Vals xs us->Vals (xs.set i x) (us.set i u)
 | _,_,_,.nil=>.nil
 | _,_,0,.cons _ t=>.cons r t
 | _,_,i+1,.cons q t=>.cons q (Vals.set r i t)
theorem Vals.append:∀{xs ys:List V}{us ws:List Value},Vals xs us->Vals ys ws->Vals (xs++ys) (us++ws)
 | _,_,_,_,.nil,s=>s
 | _,_,_,_,.cons r t,s=>.cons r (Vals.append t s)
theorem Vals.take:∀{xs:List V}{us:List Value}(n:Nat),Vals xs us->Vals (xs.take n) (us.take n)
 | _,_,0,_=>.nil
 | _,_,_+1,.nil=>.nil
 | _,_,n+1,.cons r t=>.cons r (Vals.take n t)
theorem Vals.drop:∀{xs:List V}{us:List Value}(n:Nat),Vals xs us->Vals (xs.drop n) (us.drop n)
 | _,_,0,r=>r
 | _,_,_+1,.nil=>.nil
 | _,_,n+1,.cons _ t=>Vals.drop n t
def iE:Option V->Option Value->Prop
 | some v,some u=>RelV v u
 | none,none=>True
 | _,_=>False
def KV{κ:Type}:List (κ×V)->List (κ×Value)->Prop:=Paired fun(p:κ×V)(q:κ×Value)=>p.1=q.1/\RelV p.2 q.2
def kV:Key->V
 | .inl i=>.int i
 | .inr x=>.str x
inductive HO where
 | lst(xs:List V)
 | tup(xs:List V)
 | dK(kvs:List (Key×V))|dT (kvs:List (List Key×V))
 | set(S:Int->Bool)(n:Nat)
 | ins(C dx:Addr)(fs:List (Str×V))
 | own(x:Addr)
 | xd(fs:List (Str×V))
 | met(f x:Addr)
 | rng(lo hi:Int)
 | frz(o:Obj)(u:HO)
 | tbl(ps:Array Value)
 | ext(φ:Heap->Prop)
abbrev Hp:=Addr->Option HO
def upd(H:Hp)(a:Addr)(o:HO):Hp:=fun b=>if b=a then some o else H b
theorem ao{H:Hp}{a:Addr}{o:HO}:upd H a o a=some o:=by unfold upd;rw[if_pos rfl]
theorem ag{H:Hp}{a b:Addr}{o:HO}(h:b≠a):upd H a o b=H b:=by unfold upd;rw[if_neg h]
theorem cv{H:Hp}{a b:Addr}{o u:HO}(h:H a=some o)(h':H b=some u)(d:o≠u):a≠b:=by
 intro e;subst e;rw[h]at h';exact d (Option.some.inj h')
theorem ar{H:Hp}{a b:Addr}{o:HO}(h:H a=some o)(h':H b=none):a≠b:=by
 intro e;subst e;rw[h]at h';cases h'
def mL(h:Heap)(a:Addr)(items:Array Value):Prop:=IsTup h a items/\∃ o,h.get? a=some o/\o.dict=none
theorem mL.new(h:Heap)(items:Array Value):mL (h.push { cls:=.type "tuple",data:=.seq items }) h.objs.size items:=⟨IsTup.new _ _,_,Heap.get?_push_size _ rfl,rfl⟩
section
variable(P:Program)(w:World)
def bK(H:Hp)(h:Heap)(a:Addr):HO->Prop
 | .lst xs=>xs.length<=sizeLine/\∃(its:List Value)(n:Nat),Vals xs its/\h.get? a=some { cls:=.type "list",data:=.seq its.toArray n }
 | .tup xs=>xs.length<=sizeLine/\∃ its:List Value,Vals xs its/\mL h a its.toArray
 | .dK kvs=>kvs.length<=sizeLine/\(a==sysModules)=false/\∃ vs,KV kvs vs/\h.DictOf (bH P w) a vs
 | .dT kvs=>kvs.length<=sizeLine/\(a==sysModules)=false/\∃ xs:List (List Key×Addr×Value),
   Paired (fun(p:List Key×V)(q:List Key×Addr×Value)=>p.1=q.1/\H q.2.1=some (.tup (p.1.map kV))/\RelV p.2 q.2.2) kvs xs /\
   ∃ o es ep,h.get? a=some o/\o.ExactDict/\o.data = .dict es ep/\es.toList=xs.map (entryOfKey (tupleKind (bH P w)))/\(xs.map (·.1)).Nodup
 | .set S n=>h.SetOf (intKind P w) a S n
 | .ins C dx fs=>H dx=some (.own a)/\fs.length<=1000/\dx≠a/\h.get? a=some (W.instObj C dx) /\
   ∃ mA,h.Ns1 dx mA/\(∀ f,iE (fs.lookup f) (mA f))/\PySem.Within mA (fs.map (·.1))
 | .own _=>∃ o,h.get? a=some o
 | .xd fs=>∃ mA,h.Ns1 a mA/\∀ f,iE (fs.lookup f) (mA f)
 | .rng lo hi=>∃ t u v,h.get? a=some { cls:=.type "range",data:=.fields #[.int lo t,.int hi u,.int 1 v] }
 | .frz o u=>h.get? a=some o/\bK H h a u
 | .tbl ps=>h.get? a=some { cls:=.none,data:=.fields ps }
 | .met f x=>h.get? a=some (W.methodObj (.ref f) (.ref x))
 | .ext φ=>φ h/\(∃ o,h.get? a=some o)/\∀ h1 h2:Heap,φ h1 ->(∀ o,h1.get? a=some o->h2.get? a=some o)->φ h2
def HOk(H:Hp)(h:Heap):Prop:=∀ a o,H a=some o->bK P w H h a o
end
section
variable{P:Program}{w:World}{H H':Hp}{h h':Heap}{a:Addr}{o:HO}
theorem bK.lt(x:bK P w H h a o):a<h.objs.size:=by
 cases o with
 | lst xs=>obtain⟨_,_,_,_,e⟩:=x;exact Heap.lt_size e
 | tup xs=>obtain⟨_,_,_,p⟩:=x;exact p.1.lt
 | dK kvs=>obtain⟨_,_,_,_,o,_,_,e,_⟩:=x;exact Heap.lt_size e
 | dT kvs=>obtain⟨_,_,_,_,o,_,_,e,_⟩:=x;exact Heap.lt_size e
 | set S n=>obtain⟨o,_,_,_,e,_⟩:=x;exact Heap.lt_size e
 | ins C dx fs=>obtain⟨_,_,_,e,_⟩:=x;exact Heap.lt_size e
 | own y=>obtain⟨_,e⟩:=x;exact Heap.lt_size e
 | xd fs=>obtain⟨_,⟨_,_,_,e,_⟩,_⟩:=x;exact Heap.lt_size e
 | rng lo hi=>obtain⟨_,_,_,e⟩:=x;exact Heap.lt_size e
 | frz ob u=>obtain⟨e,_⟩:=x;exact Heap.lt_size e
 | tbl ps=>exact Heap.lt_size (show h.get? a=some _ from x)
 | met f y=>exact Heap.lt_size (show h.get? a=some _ from x)
 | ext φ=>obtain⟨_,⟨_,e⟩,_⟩:=x;exact Heap.lt_size e
theorem Paired.Br{α β:Type}{F G:α->β->Prop}:∀{l₁:List α}{l₂:List β},Paired F l₁ l₂ ->(∀ a b,F a b->G a b)->Paired G l₁ l₂
 | _,_,.nil,_=>.nil
 | _,_,.cons r t,f=>.cons (f _ _ r) (Paired.Br t f)
theorem bK.dU(x:bK P w H h a o)(k:∀ b u,(b=a\/H b=some (.own a))->h.get? b=some u->h'.get? b=some u)
  (ho:∀ b,H b=some (.own a)->H' b=some (.own a)) (ht:∀ b xs,H b=some (.tup xs)->H' b=some (.tup xs)):bK P w H' h' a o:=by
 induction o with
 | lst xs=>obtain⟨z,its,n,r,e⟩:=x;exact⟨z,its,n,r,k _ _ (.inl rfl) e⟩
 | tup xs=>obtain⟨z,its,r,⟨ob,e,c⟩,o2,e2,d2⟩:=x;exact⟨z,its,r,⟨ob,k _ _ (.inl rfl) e,c⟩,o2,k _ _ (.inl rfl) e2,d2⟩
 | dK kvs=>obtain⟨z,y,vs,r,ob,es,ep,e,c⟩:=x;exact⟨z,y,vs,r,ob,es,ep,k _ _ (.inl rfl) e,c⟩
 | dT kvs =>
  obtain⟨z,y,xs,r,ob,es,ep,e,c⟩:=x;exact⟨z,y,xs,Paired.Br r fun p q z=>⟨z.1,ht _ _ z.2.1,z.2.2⟩,ob,es,ep,k _ _ (.inl rfl) e,c⟩
 | set S n=>obtain⟨ob,es,ep,t,e,c⟩:=x;exact⟨ob,es,ep,t,k _ _ (.inl rfl) e,c⟩
 | ins C dx fs =>
  obtain⟨d,z,ne,e,mA,⟨od,es,ep,e2,c⟩,r⟩:=x;exact⟨ho _ d,z,ne,k _ _ (.inl rfl) e,mA,⟨od,es,ep,k _ _ (.inr d) e2,c⟩,r⟩
 | own y=>obtain⟨ob,e⟩:=x;exact⟨ob,k _ _ (.inl rfl) e⟩
 | xd fs=>obtain⟨mA,⟨od,es,ep,e,c⟩,r⟩:=x;exact⟨mA,⟨od,es,ep,k _ _ (.inl rfl) e,c⟩,r⟩
 | rng lo hi=>obtain⟨t,u,v,e⟩:=x;exact⟨t,u,v,k _ _ (.inl rfl) e⟩
 | frz ob u ih=>obtain⟨e,q⟩:=x;exact⟨k _ _ (.inl rfl) e,ih q⟩
 | tbl ps =>
  have e:h.get? a=some { cls:=.none,data:=.fields ps }:=x;show h'.get? a=some { cls:=.none,data:=.fields ps };exact k a _ (.inl rfl) e
 | met f y =>
  have e:h.get? a=some (W.methodObj (.ref f) (.ref y)):=x;show h'.get? a=some (W.methodObj (.ref f) (.ref y));exact k a _ (.inl rfl) e
 | ext φ=>obtain⟨p,⟨o,e⟩,st⟩:=x;exact⟨st _ _ p fun o q=>k _ _ (.inl rfl) q,⟨o,k _ _ (.inl rfl) e⟩,st⟩
theorem HOk.lt(x:HOk P w H h)(e:H a=some o):a<h.objs.size:=(x a o e).lt
theorem HOk.fresh(x:HOk P w H h)(e:h.objs.size<=a):H a=none:=by
 cases q:H a with
 | none=>rfl
 | some u=>exact absurd (Nat.lt_of_lt_of_le (x.lt q) e) (Nat.lt_irrefl _)
theorem HOk.kept(x:HOk P w H h)(k:∀ b u,h.get? b=some u->h'.get? b=some u):HOk P w H h':=fun a o e =>
 (x a o e).dU (fun b u _ q=>k b u q) (fun _ q=>q) fun _ _ q=>q
theorem HOk.laid(x:HOk P w H h)(k:∀ b u,h.get? b=some u->h'.get? b=some u)(hp:h.objs.size<=a)(new:bK P w (upd H a o) h' a o):HOk P w (upd H a o) h':=fun b u e=>by
 have hn:=x.fresh hp;by_cases hb:b=a
 ·subst hb;rw[ao]at e;cases e;exact new
 ·rw[ag hb]at e;exact(x b u e).dU (fun c v _ q=>k c v q) (fun c q=>by rw[ag (ar q hn)];exact q) fun c xs q=>by rw[ag (ar q hn)];exact q
end
def Rd(H:Hp)(a:Addr)(u:HO):Prop:=H a=some u\/∃ o,H a=some (.frz o u)
theorem Rd.of{H:Hp}{a:Addr}{u:HO}(h:H a=some u):Rd H a u:=.inl h
theorem Rd.ok{P:Program}{w:World}{H:Hp}{h:Heap}{a:Addr}{u:HO}(r:Rd H a u)(x:HOk P w H h):bK P w H h a u:=by
 rcases r with r |⟨o,r⟩
 ·exact x a u r
 ·obtain⟨_,q⟩:=x a _ r;exact q
def Mut:Option HO->Prop
 | some (.lst _)=>True
 | some (.dK _)=>True
 | some (.dT _)=>True
 | some (.set _ _)=>True
 | some (.ins _ _ _)=>True
 | some (.ext _)=>True
 | _=>False
section
variable{P:Program}{w:World}{H:Hp}{h h':Heap}{x e:Addr}{o':HO}
theorem HOk.write(ok:HOk P w H h)(mu:Mut (H x))(he:e=x\/H e=some (.own x))(k:∀ b u,b≠e->h.get? b=some u->h'.get? b=some u)(heo:∃ u,h'.get? e=some u)
  (new:bK P w (upd H x o') h' x o'):HOk P w (upd H x o') h':=fun b u q=>by
 have Ri:∀ c y,H c=some (.own y)->c≠x:=fun c y r z=>by subst z;rw[r]at mu;exact mu
 have SM:∀ c xs,H c=some (.tup xs)->c≠x:=fun c xs r z=>by subst z;rw[r]at mu;exact mu
 by_cases hb:b=x
 ·subst hb;rw[ao]at q;cases q;exact new
 ·rw[ag hb]at q;by_cases hbe:b=e
  ·have q':H b=some (.own x):=by
    rcases he with z|z
    ·exact absurd (hbe.trans z) hb
    ·rw[hbe];exact z
   rw[q]at q';cases q';obtain⟨v,hv⟩:=heo;exact⟨v,by rw[hbe];exact hv⟩
  ·refine(ok b u q).dU (fun c v hc r=>k c v ?_ r) (fun c r=>by rw[ag (Ri c b r)];exact r) fun c xs r=>by rw[ag (SM c xs r)];exact r
   rcases hc with rfl|hc
   ·exact hbe
   ·rintro rfl
    rcases he with z|z
    ·exact Ri c b hc z
    ·rw[hc]at z;cases z;exact hb rfl
end
structure Un(fs ex:List Addr)(H H':Hp)(h h':Heap):Prop where
 keep:∀ b o,h.get? b=some o->H b=none->b ∉ fs->b ∉ ex->h'.get? b=some o
 slot:∀ b o,h.get? b=some o->H b=none->b∈fs->b ∉ ex->∃ sl,h'.get? b=some { o with slots:=sl }
 free:∀ b o,h.get? b=some o->H b=none->b ∉ ex->H' b=none
 there:∀ b o,h.get? b=some o->b ∉ ex->∃ o',h'.get? b=some o'
 qg:∀ b xs,H b=some (.tup xs)->H' b=some (.tup xs)
 pj:∀ b o u,H b=some (.frz o u)->H' b=some (.frz o u)
 qj:∀ b ps,H b=some (.tbl ps)->∃ more,H' b=some (.tbl (ps++more))
section
variable{fs fs' ex ex':List Addr}{H H1 H2:Hp}{h h1 h2 h':Heap}{a x e:Addr}{o:HO}
theorem Un.any(u:Un fs ex H H1 h h1){b:Addr}{ob:Obj}(q:h.get? b=some ob)(n:H b=none)(hx:b ∉ ex):∃ sl,h1.get? b=some { ob with slots:=sl }:=by
 by_cases hb:b∈fs
 ·exact u.slot b ob q n hb hx
 ·exact⟨ob.slots,u.keep b ob q n hb hx⟩
theorem Un.kept(k:∀ b u,h.get? b=some u->h'.get? b=some u):Un fs ex H H h h' :=
 ⟨fun b ob q _ _ _=>k b ob q,fun b ob q _ _ _=>⟨ob.slots,k b ob q⟩,fun _ _ _ n _=>n,fun b ob q _=>⟨ob,k b ob q⟩,fun _ _ q=>q,fun _ _ _ q=>q,fun _ ps q=>⟨#[],by rw[q];simp⟩⟩
theorem Un.refl:Un fs ex H H h h:=Un.kept fun _ _ q=>q
theorem Un.laid(k:∀ b u,h.get? b=some u->h'.get? b=some u)(hp:h.objs.size<=a)(hn:H a=none):Un fs ex H (upd H a o) h h' where
 keep:=fun b u q _ _ _=>k b u q
 slot:=fun b u q _ _ _=>⟨u.slots,k b u q⟩
 free:=fun b u q n _=>by rw[ag (Nat.ne_of_lt (Nat.lt_of_lt_of_le (Heap.lt_size q) hp))];exact n
 there:=fun b u q _=>⟨u,k b u q⟩
 qg:=fun b xs q=>by rw[ag (ar q hn)];exact q
 pj:=fun b u xs q=>by rw[ag (ar q hn)];exact q
 qj:=fun b ps q=>⟨#[],by rw[ag (ar q hn),q];simp⟩
theorem Un.write(mu:Mut (H x))(he:e=x\/H e=some (.own x))(k:∀ b u,b≠e->h.get? b=some u->h'.get? b=some u)(heo:∃ u,h'.get? e=some u):Un fs ex H (upd H x o) h h':=by
 have hx:∀ b,H b=none->b≠x:=fun b n z=>by subst z;rw[n]at mu;exact mu
 have hb:∀ b,H b=none->b≠e:=fun b n z=>by
  subst z;rcases he with r|r
  ·exact hx b n r
  ·rw[n]at r;cases r
 have hm:∀ b u,H b=some u->¬ Mut (some u)->b≠x:=fun b u q nm z=>by subst z;rw[q]at mu;exact nm mu
 refine⟨fun b u q n _ _=>k b u (hb b n) q,fun b u q n _ _=>⟨u.slots,k b u (hb b n) q⟩,fun b u q n _=>by rw[ag (hx b n)];exact n,fun b u q _=>?_,
  fun b xs q=>by rw[ag (hm b _ q fun z=>z)];exact q,fun b u xs q=>by rw[ag (hm b _ q fun z=>z)];exact q,fun b ps q=>⟨#[],by rw[ag (hm b _ q fun z=>z),q];simp⟩⟩
 by_cases hbe:b=e
 ·subst hbe;exact heo
 ·exact⟨u,k b u hbe q⟩
end
def trk(h:Heap)(H:Hp):List Addr:=(List.range h.objs.size).filter fun a=>(H a).isSome
def xW(h:Heap)(H:Hp):Heap:=W.hideAll h (trk h H)
theorem EH(h:Heap)(H:Hp):(xW h H).objs.size=h.objs.size:=W.hideAll_size _ _
theorem IG{h:Heap}{H:Hp}{b:Addr}{o:Obj}(e:h.get? b=some o)(n:H b=none):(xW h H).get? b=some o :=
 W.hideAll_get _ e fun hm=>by
  have q:(H b).isSome=true:=(List.mem_filter.mp hm).2;rw[n]at q;simp at q
theorem Lo{h:Heap}{H:Hp}{b:Addr}{o:Obj}(e:(xW h H).get? b=some o):h.get? b=some o/\H b=none:=by
 have e':h.get? b=some o:=W.of_hideAll (trk h H) e;refine⟨e',?_⟩;cases q:H b with
 | none=>rfl
 | some x =>
  have hm:b∈trk h H:=List.mem_filter.mpr ⟨List.mem_range.mpr (Heap.lt_size e'),by simp[q]⟩
  have z:(xW h H).get? b=none:=W.hideAll_none (trk h H) hm;rw[z]at e;cases e
structure Mod(K:W.Frag)(mg:Str->Option Value)(base:Heap):Prop where
 kin:K.In base
 glob:base.Ns mainGlobals mg
 blt:∃ mb,base.Ns builtinsNs mb/\∀ x:Str,x ≠ "__name__" -> mb x=bootBuiltins x
 nolimit:base.NoLimit
structure Cx where
 prog:Program
 w:World
 K:W.Frag
 mg:Str->Option Value
 base:Heap
 A:Around
 N:List Str
 s₀:Shared
 H₀:Hp
 env:Env
 outer:List Env
 stack:List Env
 ex:List Addr
 fn:Str->Bool
 calm:Bool
 pn:List (Addr×Obj)
 xe:Value->Shared->Prop
def frs(l:List Env):List Addr:=l.filterMap (·.frame)
abbrev Cx.fs(X:Cx):List Addr:=frs X.outer
def Vis(sc:Scope)(x:Str):Prop:=sc.names.lookup x=some .local\/sc.names.lookup x=some .cell\/sc.names.lookup x=some .free
def Loc(sc:Scope)(x:Str):Prop:=sc.names.lookup x=some .local\/sc.names.lookup x=some .cell
def Look(env:Env)(h:Heap)(m:Str->Option Value)(x:Str)(u:Value):Prop :=
 (env.kindOf x=some .local/\m x=some u)\/((env.kindOf x=some .cell\/env.kindOf x=some .free)/\∃ c,env.cells.lookup x=some c/\h.IsCell c (some u))
structure Cx.Ok(X:Cx):Prop where
 mod:Mod X.K X.mg X.base
 kind:X.env.scope.kind = .function
 glob:X.env.globals=mainGlobals
 blt:X.env.builtins=builtinsNs
 above:X.s₀.heap.objs.size<=X.env.locals
 inj:∀ x y c,X.env.cells.lookup x=some c->X.env.cells.lookup y=some c->x=y
 has:∀ x,(X.env.kindOf x=some .cell\/X.env.kindOf x=some .free)->∃ c,X.env.cells.lookup x=some c
 cab:∀ x c,X.fn x=true->X.env.cells.lookup x=some c->X.s₀.heap.objs.size<=c
 hd:X.calm=true->X.A.handled=none
 frames:X.A.frames=some X.stack
 stk:X.stack=X.outer\/(X.stack=X.env::X.outer/\X.env.frame=some X.env.locals)
 exf:∀ b∈X.ex,b≠X.env.locals/\∀ x c,X.env.cells.lookup x=some c->c≠b
 bs:∀ b o,X.base.get? b=some o->X.s₀.heap.get? b=some o/\X.H₀ b=none
 bsz:X.base.objs.size<=X.s₀.heap.objs.size
 Bj:∀ b o,X.base.get? b=some o->b ∉ X.ex
 EM:∀ b∈X.ex,b ∉ X.fs
 kX:X.s₀.heap.FunFrames X.base X.outer
 frf:∀ b∈X.fs,X.H₀ b=none
structure Inv(X:Cx)(pins:List (Addr×Obj))(σ:List (Option V))(H:Hp)(s:Shared):Prop where
 ok:X.Ok
 os:s.os=X.s₀.os
 bare:AllBare s.gens
 base:Un X.fs X.ex X.H₀ H X.s₀.heap s.heap
 loc:∃ m,s.heap.Ns X.env.locals m/\∀(i:Nat)(x:Str)(v:V),X.N[i]? = some x->σ[i]? = some (some v)->Vis X.env.scope x->∃ u,RelV v u/\Look X.env s.heap m x u
 cell:∀ x c,X.env.cells.lookup x=some c->∃ v,s.heap.IsCell c v
 free:H X.env.locals=none
 gy:∀ x c,X.env.cells.lookup x=some c->H c=none
 pin:∀ p∈X.pn++pins,s.heap.get? p.1=some p.2/\H p.1=none/\p.1≠X.env.locals/\p.1 ∉ X.fs/\∀ v,p.2.data ≠ .cell v
 hok:HOk X.prog X.w H s.heap
 len:σ.length=X.N.length
section
variable{X:Cx}{pins:List (Addr×Obj)}{σ:List (Option V)}{H H':Hp}{s:Shared}{h':Heap}
theorem Cx.Ok.SN(ok:X.Ok){b:Addr}{o:Obj}(e:X.base.get? b=some o):b ∉ X.fs:=fun hb=>by
 have:=(ok.kX.mem hb).1
 rw[e]at this;cases this
theorem Inv.bs(I:Inv X pins σ H s):∀ b o,X.base.get? b=some o->s.heap.get? b=some o/\H b=none:=fun b o e =>
 ⟨I.base.keep b o (I.ok.bs b o e).1 (I.ok.bs b o e).2 (I.ok.SN e) (I.ok.Bj b o e),I.base.free b o (I.ok.bs b o e).1 (I.ok.bs b o e).2 (I.ok.Bj b o e)⟩
theorem Inv.bk(I:Inv X pins σ H s):∀ b o,X.base.get? b=some o->s.heap.get? b=some o:=fun b o e=>(I.bs b o e).1
theorem Inv.mod(I:Inv X pins σ H s):Mod X.K X.mg X.base:=I.ok.mod
theorem Inv.kIn(I:Inv X pins σ H s):X.K.In s.heap:=I.ok.mod.kin.keeps I.bk
theorem Inv.lt(I:Inv X pins σ H s):X.env.locals<s.heap.objs.size:=let⟨_,hn,_⟩:=I.loc;hn.lt
theorem Inv.sz(I:Inv X pins σ H s):X.s₀.heap.objs.size<=s.heap.objs.size:=Nat.le_trans I.ok.above (Nat.le_of_lt I.lt)
theorem Inv.Rj(I:Inv X pins σ H s){a:Addr}(h:s.heap.objs.size<=a):a ∉ X.fs:=fun hb=>by
 obtain⟨_,o,ho,_⟩:=I.ok.kX.mem hb;exact absurd (Nat.lt_of_lt_of_le (Heap.lt_size ho) (Nat.le_trans I.sz h)) (Nat.lt_irrefl _)
theorem Inv.cne(I:Inv X pins σ H s):∀ x c,X.env.cells.lookup x=some c->c≠X.env.locals:=fun x c e z=>by
 obtain⟨v,o,ho,hd⟩:=I.cell x c e;obtain⟨m,⟨o',es,ep,ho',hd',_⟩,_⟩:=I.loc;rw[z,ho']at ho;cases ho;rw[hd']at hd;cases hd
theorem Inv.kX(I:Inv X pins σ H s):s.heap.FunFrames X.base X.outer:=by
 have all:∀(l:List Env),(∀ b∈frs l,b∈X.fs)->X.s₀.heap.FunFrames X.base l->s.heap.FunFrames X.base l:=by
  intro l
  induction l with
  | nil=>intro _ _;trivial
  | cons env r ih =>
   intro hs hl;obtain⟨hk,⟨L,o,hf,hn,ho,hd⟩,hr⟩:=hl;have hL:L∈X.fs:=hs L (by unfold frs;rw[List.filterMap_cons,hf];exact List.mem_cons_self)
   obtain⟨sl,e⟩:=I.base.slot L o ho (I.ok.frf L hL) hL fun z=>I.ok.EM L z hL
   exact⟨hk,⟨L,_,hf,hn,e,hd⟩,ih (fun b hb=>hs b (by unfold frs;rw[List.filterMap_cons,hf];exact List.mem_cons_of_mem _ hb)) hr⟩
 exact all X.outer (fun _ hb=>hb) I.ok.kX
theorem Inv.stack(I:Inv X pins σ H s):s.heap.FunFrames X.base X.stack:=by
 rcases I.ok.stk with e |⟨e,hf⟩
 ·rw[e];exact I.kX
 ·rw[e];obtain⟨m,hn,_⟩:=I.loc;refine .cons (by rw[I.ok.kind];decide) hf hn ?_ I.kX
  exact Heap.get?_none_of_le (Nat.le_trans I.ok.bsz I.ok.above)
theorem Inv.oC(I:Inv X pins σ H s):∀ b∈frs X.stack,b∈X.env.locals::X.fs:=fun b hb=>by
 rcases I.ok.stk with e |⟨e,hf⟩
 ·rw[e]at hb;exact List.mem_cons_of_mem _ hb
 ·rw[e]at hb;unfold frs at hb;rw[List.filterMap_cons,hf]at hb;exact hb
theorem Inv.ko(I:Inv X pins σ H s):∀ b∈frs X.stack,H b=none:=fun b hb=>by
 rcases List.mem_cons.mp (I.oC b hb)with e|hb
 ·rw[e];exact I.free
 ·obtain⟨_,o,ho,_⟩:=I.ok.kX.mem hb;exact I.base.free b o ho (I.ok.frf b hb) fun z=>I.ok.EM b z hb
theorem Inv.step{g':Array GenState}{t':Nat}{d':Drawn}{ch:List Addr}(I:Inv X pins σ H s)
  (hch:∀ b∈ch,(b∈X.ex\/X.s₀.heap.objs.size<=b)/\b≠X.env.locals/\(∀ x c,X.env.cells.lookup x=some c->c≠b)/\∀ p∈X.pn++pins,p.1≠b)
  (keep:∀ b o,b≠X.env.locals->b ∉ X.fs->b ∉ ch->s.heap.get? b=some o->H b=none->h'.get? b=some o)
  (slot:∀ b o,b≠X.env.locals->b∈X.fs->b ∉ ch->s.heap.get? b=some o->H b=none->∃ sl,h'.get? b=some { o with slots:=sl }) (free:∀ b o,b ∉ ch->s.heap.get? b=some o->H b=none->H' b=none)
  (there:∀ b o,b ∉ ch->s.heap.get? b=some o->∃ o',h'.get? b=some o')
  (qg:∀ b xs,H b=some (.tup xs)->H' b=some (.tup xs)) (pj:∀ b o u,H b=some (.frz o u)->H' b=some (.frz o u)) (qj:∀ b ps,H b=some (.tbl ps)->∃ more,H' b=some (.tbl (ps++more)))
  (ns:∀ m,s.heap.Ns X.env.locals m->h'.Ns X.env.locals m) (hok:HOk X.prog X.w H' h') (hg:AllBare g') :
  Inv X pins σ H' { s with heap:=h',gens:=g',drawn:=d',toks:=t' }:=by
 have neL:∀ b o,X.s₀.heap.get? b=some o->b≠X.env.locals:=fun b o e=>Nat.ne_of_lt (Nat.lt_of_lt_of_le (Heap.lt_size e) I.ok.above)
 have neC:∀ b o,X.s₀.heap.get? b=some o->b ∉ X.ex->b ∉ ch:=fun b o e hx hb=>by
  rcases(hch b hb).1 with z|z
  ·exact hx z
  ·exact absurd (Nat.lt_of_lt_of_le (Heap.lt_size e) z) (Nat.lt_irrefl _)
 have cellK:∀ x c,X.env.cells.lookup x=some c->∀ v,s.heap.IsCell c v->h'.IsCell c v:=fun x c e v ⟨o,ho,hd⟩=>by
  have nch:c ∉ ch:=fun z=>(hch c z).2.2.1 x c e rfl
  by_cases hc:c∈X.fs
  ·obtain⟨sl,q⟩:=slot c o (I.cne x c e) hc nch ho (I.gy x c e);exact⟨_,q,hd⟩
  ·exact⟨o,keep c o (I.cne x c e) hc nch ho (I.gy x c e),hd⟩
 refine⟨I.ok,I.os,hg,⟨fun b o e n hb hx=>?_,fun b o e n hb hx=>?_,fun b o e n hx=>?_,fun b o e hx=>?_,fun b xs e=>qg b xs (I.base.qg b xs e),fun b o xs e=>pj b o xs (I.base.pj b o xs e),fun b ps e=>?_⟩,?_,fun x c e=>?_,?_,fun x c e=>?_,fun p hp=>?_,hok,I.len⟩
 ·exact keep b o (neL b o e) hb (neC b o e hx) (I.base.keep b o e n hb hx) (I.base.free b o e n hx)
 ·obtain⟨sl,e1⟩:=I.base.slot b o e n hb hx;obtain⟨sl',e2⟩:=slot b _ (neL b o e) hb (neC b o e hx) e1 (I.base.free b o e n hx);exact⟨sl',e2⟩
 ·obtain⟨o',e1⟩:=I.base.there b o e hx;exact free b o' (neC b o e hx) e1 (I.base.free b o e n hx)
 ·obtain⟨o',e1⟩:=I.base.there b o e hx;exact there b o' (neC b o e hx) e1
 ·obtain⟨m1,e1⟩:=I.base.qj b ps e;obtain⟨m2,e2⟩:=qj b _ e1;exact⟨m1++m2,by rw[e2,Array.append_assoc]⟩
 ·obtain⟨m,hn,hl⟩:=I.loc;refine⟨m,ns m hn,fun i x v e1 e2 e3=>?_⟩
  obtain⟨u,r,l⟩:=hl i x v e1 e2 e3;refine⟨u,r,?_⟩;rcases l with l |⟨k,c,e,z⟩
  ·exact .inl l
  ·exact .inr ⟨k,c,e,cellK x c e _ z⟩
 ·obtain⟨v,z⟩:=I.cell x c e;exact⟨v,cellK x c e v z⟩
 ·obtain⟨m,⟨o,_,_,ho,_⟩,_⟩:=I.loc;exact free _ o (fun z=>(hch _ z).2.1 rfl) ho I.free
 ·obtain⟨v,o,ho,hd⟩:=I.cell x c e;exact free c o (fun z=>(hch c z).2.2.1 x c e rfl) ho (I.gy x c e)
 ·obtain⟨e,n,ne,nf,d⟩:=I.pin p hp;have nch:p.1 ∉ ch:=fun z=>(hch p.1 z).2.2.2 p hp rfl
  exact⟨keep p.1 p.2 ne nf nch e n,free p.1 p.2 nch e n,ne,nf,d⟩
theorem Inv.un{t':Nat}(I:Inv X pins σ H s)(u:Un X.fs [] H H' s.heap h')(hok:HOk X.prog X.w H' h'):Inv X pins σ H' { s with heap:=h',toks:=t' }:=by
 obtain⟨m,⟨o,es,ep,ho,r⟩,_⟩:=id I.loc;obtain⟨sl,hL⟩:=u.any ho I.free (by simp)
 exact I.step (g':=s.gens) (d':=s.drawn) (ch:=[]) (fun _ z=>nomatch z) (fun b o _ hb _ e n=>u.keep b o e n hb (by simp)) (fun b o _ hb _ e n=>u.slot b o e n hb (by simp)) (fun b o _ e n=>u.free b o e n (by simp)) (fun b o _ e=>u.there b o e (by simp)) u.qg u.pj u.qj (fun m' hm=>by
  obtain⟨o',es',ep',ho',r'⟩:=hm;rw[ho]at ho';cases ho';exact⟨_,es',ep',hL,r'⟩) hok I.bare
theorem Inv.call{g':Array GenState}{t':Nat}{d':Drawn}{ch:List Addr}(I:Inv X pins σ H s)(u:Un (frs X.stack) ch H H' s.heap h')(hok:HOk X.prog X.w H' h')(hg:AllBare g')
  (hch:∀ b∈ch,(b∈X.ex\/X.s₀.heap.objs.size<=b)/\b≠X.env.locals/\(∀ x c,X.env.cells.lookup x=some c->c≠b)/\∀ p∈X.pn++pins,p.1≠b) :
  Inv X pins σ H' { s with heap:=h',gens:=g',drawn:=d',toks:=t' }:=by
 obtain⟨m,⟨o,es,ep,ho,r⟩,_⟩:=id I.loc;obtain⟨sl,hL⟩:=u.any ho I.free fun z=>(hch _ z).2.1 rfl
 exact I.step (ch:=ch) hch (fun b o hL hb hc e n=>u.keep b o e n (fun z=>(List.mem_cons.mp (I.oC b z)).elim hL hb) hc) (fun b o _ _ hc e n=>u.any e n hc) (fun b o hc e n=>u.free b o e n hc) (fun b o hc e=>u.there b o e hc) u.qg u.pj u.qj (fun m' hm=>by
  obtain⟨o',es',ep',ho',r'⟩:=hm;rw[ho]at ho';cases ho';exact⟨_,es',ep',hL,r'⟩) hok hg
theorem Inv.turned{t':Nat}{it:Addr}(I:Inv X pins σ H s)(k:∀ b o,b≠it->s.heap.get? b=some o->h'.get? b=some o)(hn:H it=none)(hL:it≠X.env.locals)
  (h1:it∈X.ex\/X.s₀.heap.objs.size<=it) (h2:∀ x c,X.env.cells.lookup x=some c->c≠it) (h3:∀ p∈X.pn++pins,p.1≠it):Inv X pins σ H { s with heap:=h',toks:=t' }:=by
 have nit:∀ b u,H b=some u->b≠it:=fun b u e z=>by rw[z,hn]at e;cases e
 refine I.step (g':=s.gens) (d':=s.drawn) (ch:=[it]) (fun b hb=>?_) (fun b o _ _ hc e _=>k b o (fun z=>hc (by simp[z])) e) (fun b o _ _ hc e _=>⟨o.slots,k b o (fun z=>hc (by simp[z])) e⟩) (fun _ _ _ _ n=>n)
  (fun b o hc e=>⟨o,k b o (fun z=>hc (by simp[z])) e⟩) (fun _ _ e=>e) (fun _ _ _ e=>e) (fun b ps e=>⟨#[],by rw[e];simp⟩) (fun m hm=>?_) (fun b u e=>?_) I.bare
 ·have e:b=it:=by simpa using hb
  subst e;exact⟨h1,hL,h2,h3⟩
 ·obtain⟨o,es,ep,ho,r⟩:=hm;exact⟨o,es,ep,k _ o (Ne.symm hL) ho,r⟩
 ·refine(I.hok b u e).dU (fun c v hc q=>k c v ?_ q) (fun _ q=>q) fun _ _ q=>q
  rcases hc with z|z
  ·rw[z];exact nit b u e
  ·exact nit c _ z
theorem Inv.tok(I:Inv X pins σ H s)(t:Nat):Inv X pins σ H { s with toks:=t }:=I.un (h':=s.heap) (t':=t) Un.refl I.hok
theorem Inv.kept{t':Nat}(I:Inv X pins σ H s)(k:∀ b u,s.heap.get? b=some u->h'.get? b=some u):Inv X pins σ H { s with heap:=h',toks:=t' }:=I.un (Un.kept k) (I.hok.kept k)
theorem Inv.laid{a:Addr}{o:HO}{t':Nat}(I:Inv X pins σ H s)(k:∀ b u,s.heap.get? b=some u->h'.get? b=some u)(hp:s.heap.objs.size<=a)(new:bK X.prog X.w (upd H a o) h' a o) :
  Inv X pins σ (upd H a o) { s with heap:=h',toks:=t' }:=I.un (Un.laid k hp (I.hok.fresh hp)) (I.hok.laid k hp new)
theorem Inv.write{x e:Addr}{o:HO}{t':Nat}(I:Inv X pins σ H s)(mu:Mut (H x))(he:e=x\/H e=some (.own x))(k:∀ b u,b≠e->s.heap.get? b=some u->h'.get? b=some u)(heo:∃ u,h'.get? e=some u)
  (new:bK X.prog X.w (upd H x o) h' x o):Inv X pins σ (upd H x o) { s with heap:=h',toks:=t' }:=I.un (Un.write mu he k heo) (I.hok.write mu he k heo new)
theorem Inv.ng{pins':List (Addr×Obj)}(I:Inv X pins σ H s)(h:∀ p∈pins',s.heap.get? p.1=some p.2/\H p.1=none/\p.1≠X.env.locals/\p.1 ∉ X.fs/\∀ v,p.2.data ≠ .cell v):Inv X pins' σ H s :=
 ⟨I.ok,I.os,I.bare,I.base,I.loc,I.cell,I.free,I.gy,fun p hp=>(List.mem_append.mp hp).elim (fun z=>I.pin p (List.mem_append_left _ z)) (h p),I.hok,I.len⟩
theorem sF{N:List Str}(hN:N.Nodup){i j:Nat}{x:Str}(a:N[i]? = some x)(b:N[j]? = some x):i=j:=by
 obtain⟨h1,e1⟩:=List.getElem?_eq_some_iff.mp a;obtain⟨h2,e2⟩:=List.getElem?_eq_some_iff.mp b;exact(List.getElem_inj hN).mp (e1.trans e2.symm)
theorem DG{M:Model}{A:Around}{E:Value->Shared->Prop}{i:Nat}{x:Str}{v:V}{u:Value}{Q:Unit->Shared->Prop}(I:Inv X pins σ H s)(hN:X.N.Nodup)(hi:X.N[i]? = some x)(hx:Loc X.env.scope x)(r:RelV v u)
  (h:∀ s',Inv X pins (σ.set i (some v)) H s' ->(∃ a,Heap.SameBut a s.heap s'.heap/\(a=X.env.locals\/X.env.cells.lookup x=some a))->Q () s') (hf:X.fn x=true\/X.env.scope.names.lookup x=some .local:=by first|exact .inl rfl|exact .inr rfl|assumption):wpAny M A (storeName X.env x u) Q E s:=by
 obtain⟨m,hn,hl⟩:=id I.loc;have Ae:(X.env.scope.kind == .class ||(X.env.scope.kind == .module&&X.env.locals != X.env.globals))=false:=by rw[I.ok.kind];rfl
 have hiσ:i < σ.length:=by rw[I.len];exact(List.getElem?_eq_some_iff.mp hi).1
 have cne:=I.cne;have tracked:∀{a:Addr}{h':Heap},(∃ o,s.heap.get? a=some o/\H a=none)->Heap.SameBut a s.heap h'->HOk X.prog X.w H h':=fun{a h'} ha hs b ob e=>by
  obtain⟨_,_,jv⟩:=ha;refine(I.hok b ob e).dU (fun c w' hc q=>(hs.2 c ?_).trans q) (fun _ q=>q) fun _ _ q=>q
  rintro rfl
  rcases hc with rfl|hc
  ·rw[jv]at e;cases e
  ·rw[jv]at hc;cases hc
 rcases hx with hk|hk
 ·refine wpAny_storeName_local hk hn (fun h' hn' hs=>?_) Ae
  obtain⟨oL,_,_,hoL,_⟩:=id hn;refine h _ ⟨I.ok,I.os,I.bare,⟨fun b o e n hb hx=>?_,fun b o e n hb hx=>?_,I.base.free,fun b o e hx=>?_,I.base.qg,I.base.pj,I.base.qj⟩,⟨_,hn',fun j y v' e1 e2 e3=>?_⟩,fun y c e=>?_,I.free,I.gy,fun p hp=>?_,tracked ⟨oL,hoL,I.free⟩ hs,by simpa using I.len⟩ ⟨_,hs,.inl rfl⟩
  ·exact(hs.2 b (Nat.ne_of_lt (Nat.lt_of_lt_of_le (Heap.lt_size e) I.ok.above))).trans (I.base.keep b o e n hb hx)
  ·obtain⟨sl,e1⟩:=I.base.slot b o e n hb hx;exact⟨sl,(hs.2 b (Nat.ne_of_lt (Nat.lt_of_lt_of_le (Heap.lt_size e) I.ok.above))).trans e1⟩
  ·obtain⟨o',e1⟩:=I.base.there b o e hx;exact⟨o',(hs.2 b (Nat.ne_of_lt (Nat.lt_of_lt_of_le (Heap.lt_size e) I.ok.above))).trans e1⟩
  ·by_cases hj:j=i
   ·subst hj;rw[hi]at e1;cases e1;rw[List.getElem?_set_self hiσ]at e2;cases e2;exact⟨u,r,.inl ⟨hk,by simp⟩⟩
   ·rw[List.getElem?_set_ne (Ne.symm hj)]at e2;obtain⟨u',r',q⟩:=hl j y v' e1 e2 e3;refine⟨u',r',?_⟩;rcases q with⟨k,e⟩ |⟨k,c,e,z⟩
    ·refine .inl ⟨k,?_⟩
     have:y≠x:=fun e=>hj (sF hN e1 (e▸hi))
     simp[this,e]
    ·exact .inr ⟨k,c,e,z.sameBut hs (cne y c e)⟩
  ·obtain⟨w',z⟩:=I.cell y c e;exact⟨w',z.sameBut hs (cne y c e)⟩
  ·obtain⟨e,n,ne,nf,d⟩:=I.pin p hp;exact⟨(hs.2 p.1 ne).trans e,n,ne,nf,d⟩
 ·have hfn:X.fn x=true:=by
   rcases hf with z|z
   ·exact z
   ·rw[z]at hk;cases hk
  obtain⟨c,hc⟩:=I.ok.has x (.inl hk);obtain⟨w',z⟩:=I.cell x c hc;refine wpAny_storeName_cell I.ok.kind hk hc z (fun h' hc' hs=>?_)
  obtain⟨oc,hoc,S9⟩:=id z;refine h { s with heap:=h' } ⟨I.ok,I.os,I.bare,⟨fun b o e n hb hx=>?_,fun b o e n hb hx=>?_,I.base.free,fun b o e hx=>?_,I.base.qg,I.base.pj,I.base.qj⟩,⟨m,hn.sameBut hs (Ne.symm (cne x c hc)),fun j y v' e1 e2 e3=>?_⟩,fun y c' e=>?_,I.free,I.gy,fun p hp=>?_,tracked ⟨oc,hoc,I.gy x c hc⟩ hs,by simpa using I.len⟩ ⟨c,hs,.inr hc⟩
  ·exact(hs.2 b (Nat.ne_of_lt (Nat.lt_of_lt_of_le (Heap.lt_size e) (I.ok.cab x c hfn hc)))).trans (I.base.keep b o e n hb hx)
  ·obtain⟨sl,e1⟩:=I.base.slot b o e n hb hx;exact⟨sl,(hs.2 b (Nat.ne_of_lt (Nat.lt_of_lt_of_le (Heap.lt_size e) (I.ok.cab x c hfn hc)))).trans e1⟩
  ·obtain⟨o',e1⟩:=I.base.there b o e hx;exact⟨o',(hs.2 b (Nat.ne_of_lt (Nat.lt_of_lt_of_le (Heap.lt_size e) (I.ok.cab x c hfn hc)))).trans e1⟩
  ·by_cases hj:j=i
   ·subst hj;rw[hi]at e1;cases e1;rw[List.getElem?_set_self hiσ]at e2;cases e2;exact⟨u,r,.inr ⟨.inl hk,c,hc,hc'⟩⟩
   ·rw[List.getElem?_set_ne (Ne.symm hj)]at e2;obtain⟨u',r',q⟩:=hl j y v' e1 e2 e3;refine⟨u',r',?_⟩;rcases q with q |⟨k,c',e,z'⟩
    ·exact .inl q
    ·refine .inr ⟨k,c',e,z'.sameBut hs ?_⟩
     rintro rfl
     exact hj (sF hN e1 (I.ok.inj _ _ _ e hc▸hi))
  ·by_cases hcc:c'=c
   ·subst hcc;exact⟨_,hc'⟩
   ·obtain⟨w2,z2⟩:=I.cell y c' e;exact⟨w2,z2.sameBut hs hcc⟩
  ·obtain⟨e,n,ne,nf,d⟩:=I.pin p hp;refine⟨(hs.2 p.1 ?_).trans e,n,ne,nf,d⟩;intro q;rw[q,hoc]at e;have q':oc=p.2:=Option.some.inj e;exact d w' (by rw[<- q'];exact S9)
theorem hU{M:Model}{A:Around}{E:Value->Shared->Prop}{i:Nat}{x:Str}{v:V}{u:Value}{Q:Unit->Shared->Prop}(I:Inv X pins σ H s)(hN:X.N.Nodup)(hi:X.N[i]? = some x)(hx:Loc X.env.scope x)(r:RelV v u)
  (h:∀ s',Inv X pins (σ.set i (some v)) H s'->Q () s') (hf:X.fn x=true\/X.env.scope.names.lookup x=some .local:=by first|exact .inl rfl|exact .inr rfl|assumption):wpAny M A (storeName X.env x u) Q E s :=
 DG I hN hi hx r (fun s' I' _=>h s' I') hf
theorem Inv.Ay{s':Shared}{ch:List Addr}(I:Inv X pins σ H s)(ho:s'.os=s.os)(u:Un (frs X.stack) ch H H' s.heap s'.heap)(hok:HOk X.prog X.w H' s'.heap)(hg:AllBare s'.gens)
  (hch:∀ b∈ch,(b∈X.ex\/X.s₀.heap.objs.size<=b)/\b≠X.env.locals/\(∀ x c,X.env.cells.lookup x=some c->c≠b)/\∀ p∈X.pn++pins,p.1≠b):Inv X pins σ H' s':=by
 obtain⟨h',g',d',t',o'⟩:=s';have e:o'=s.os:=ho;subst e;exact I.call (g':=g') (t':=t') (d':=d') u hok hg hch
end
abbrev XK:=Value->Option Addr->Hp->Prop
abbrev St:=List (Option V)
abbrev VK:=V->Hp->Prop
abbrev TE:=St->Hp->VK->Prop
abbrev TT:=St->Hp ->(Bool->Hp->Prop)->Prop
abbrev TA:=St->Hp ->(List V->Hp->Prop)->Prop
structure Ends where
 nx:St->Hp->Prop
 rt:VK
 bk:St->Hp->Prop:=fun _ _=>False
 ct:St->Hp->Prop:=fun _ _=>False
abbrev TS:=Ends->St->Hp->Prop
def EP(X:Cx)(pins:List (Addr×Obj))(σ:St)(Q:VK)(u:Value)(s':Shared):Prop:=∃ v H',Inv X pins σ H' s'/\RelV v u/\Q v H'
def TP(X:Cx)(pins:List (Addr×Obj))(σ:St)(Q:Bool->Hp->Prop)(b:Bool)(s':Shared):Prop:=∃ H',Inv X pins σ H' s'/\Q b H'
def AP(X:Cx)(pins:List (Addr×Obj))(σ:St)(Q:List V->Hp->Prop)(us:List Value)(s':Shared):Prop:=∃ vs H',Inv X pins σ H' s'/\Vals vs us/\Q vs H'
def SP(X:Cx)(pins:List (Addr×Obj))(D:Ends)(f:Flow)(s':Shared):Prop :=
 match f with
 | .next=>∃ σ' H',Inv X pins σ' H' s'/\D.nx σ' H'
 | .brk=>∃ σ' H',Inv X pins σ' H' s'/\D.bk σ' H'
 | .cont=>∃ σ' H',Inv X pins σ' H' s'/\D.ct σ' H'
 | .ret u=>∃ v σ' H',Inv X pins σ' H' s'/\RelV v u/\D.rt v H'
def PE(X:Cx)(e:Expr)(t:TE):Prop :=
 ∀(pins:List (Addr×Obj))(s:Shared)(σ:St)(H:Hp)(Q:VK),Inv X pins σ H s->t σ H Q->wpAny (model X.prog X.w) X.A (eval e X.env) (EP X pins σ Q) X.xe s
def PT(X:Cx)(e:Expr)(t:TT):Prop :=
 ∀(pins:List (Addr×Obj))(s:Shared)(σ:St)(H:Hp)(Q:Bool->Hp->Prop),Inv X pins σ H s->t σ H Q->wpAny (model X.prog X.w) X.A (isTrue e X.env (eval e X.env)) (TP X pins σ Q) X.xe s
def PW(X:Cx)(e:Expr)(t:TT):Prop :=
 ∀(whole:Sem Value)(pins:List (Addr×Obj))(s:Shared)(σ:St)(H:Hp)(Q:Bool->Hp->Prop),Inv X pins σ H s->t σ H Q->wpAny (model X.prog X.w) X.A (isTrue e X.env whole) (TP X pins σ Q) X.xe s
theorem PW.pt{X:Cx}{e:Expr}{t:TT}(h:PW X e t):PT X e t:=h _
def PA(X:Cx)(es:List Expr)(t:TA):Prop :=
 ∀(pos:Pos)(pins:List (Addr×Obj))(s:Shared)(σ:St)(H:Hp)(Q:List V->Hp->Prop),Inv X pins σ H s->t σ H Q->wpAny (model X.prog X.w) X.A (spliced (backTo pos (starEach es X.env))) (AP X pins σ Q) X.xe s
def PS(X:Cx)(st:Stmt)(t:TS):Prop :=
 ∀(pins:List (Addr×Obj))(s:Shared)(σ:St)(H:Hp)(D:Ends),Inv X pins σ H s->t D σ H->wpAny (model X.prog X.w) X.A (exec st X.env) (SP X pins D) X.xe s
def PSs(X:Cx)(st:List Stmt)(t:TS):Prop :=
 ∀(pins:List (Addr×Obj))(s:Shared)(σ:St)(H:Hp)(D:Ends),Inv X pins σ H s->t D σ H->wpAny (model X.prog X.w) X.A (execs st X.env) (SP X pins D) X.xe s
theorem thn{α:Type}{t:Sem α}{Q Q':α->Shared->Prop}{M:Model}{A:Around}{E:Value->Shared->Prop}{s:Shared}(h:wpAny M A t Q E s)(hQ:∀ a s,Q a s->Q' a s):wpAny M A t Q' E s:=wpAny_mono h hQ fun _ _ x=>x
section
variable{X:Cx}
def eZ(i:Nat):TE:=fun σ H Q=>∃ v,σ[i]? = some (some v)/\Q v H
def tC(v:V):TE:=fun _ H Q=>Q v H
theorem Hh{i:Nat}{x:Str}{pos:Pos}(hN:X.N[i]? = some x)(hv:Vis X.env.scope x)(hd:(x ==("__debug__":Str))=false:=by decide)(hcd:(x ==("__classdict__":Str))=false:=by decide):PE X (.Name x pos) (eZ i):=by
 intro pins s σ H Q I h;obtain⟨v,e,h⟩:=h;obtain⟨m,hn,hl⟩:=I.loc;obtain⟨u,r,l⟩:=hl i x v hN e hv;have fin:EP X pins σ Q u s:=⟨v,H,I,r,h⟩;rcases l with⟨hk,hm⟩ |⟨hk,c,hc,iz⟩
 ·exact wpAny_Name (wpAny_loadName_local I.ok.kind hk hn hm fin) hd
 ·rcases hk with hk|hk
  ·exact wpAny_Name (wpAny_loadName_cell I.ok.kind hk hc iz fin) hd
  ·exact wpAny_Name (wpAny_loadName_free I.ok.kind hk hc iz fin hcd) hd
theorem br{i j pos}:PE X (.Constant (.int i) j pos) (tC (.int i)):=fun _ _ _ H _ I h=>wpAny_Constant_int ⟨.int i,H,I.tok _,⟨_,rfl⟩,h⟩
theorem Rc{b j pos}:PE X (.Constant (.bool b) j pos) (tC (.bl b)):=fun _ _ _ H _ I h=>Constant_bool ⟨.bl b,H,I,rfl,h⟩
theorem Hj{j pos}:PE X (.Constant .none j pos) (tC .non):=fun _ _ _ H _ I h=>Constant_none ⟨.non,H,I,rfl,h⟩
theorem b6{x j pos}:PE X (.Constant (.str x) j pos) (tC (.str x)):=fun _ _ _ H _ I h=>Calls.Constant_str ⟨.str x,H,I.tok _,⟨_,rfl⟩,h⟩
def Gl(X:Cx)(x:Str):Prop:=X.env.kindOf x=some .globalImplicit
theorem kH{E:Value->Shared->Prop}{pins:List (Addr×Obj)}{s:Shared}{σ:St}{H:Hp}{x:Str}{u:Value}{pos:Pos}{Q:Value->Shared->Prop}(I:Inv X pins σ H s)(hg:Gl X x)(hm:X.mg x=some u)(h:Q u s)
  (hd:(x ==("__debug__":Str))=false:=by decide):wpAny (model X.prog X.w) X.A (eval (.Name x pos) X.env) Q E s :=
 Calls.Name_function_global I.ok.kind hg (Calls.loadGlobal_global (by rw[I.ok.glob];exact I.mod.glob.keeps I.bk) hm h) hd
theorem iZ{E:Value->Shared->Prop}{pins:List (Addr×Obj)}{s:Shared}{σ:St}{H:Hp}{x:Str}{u:Value}{pos:Pos}{Q:Value->Shared->Prop}(I:Inv X pins σ H s)(hg:Gl X x)(hm:X.mg x=none)(hv:bootBuiltins x=some u)(h:Q u s)
  (hn:x ≠ "__name__":=by decide) (hd:(x ==("__debug__":Str))=false:=by decide):wpAny (model X.prog X.w) X.A (eval (.Name x pos) X.env) Q E s:=by
 obtain⟨mb,h1,h2⟩:=I.mod.blt;exact Calls.Name_function_global I.ok.kind hg (Calls.loadGlobal_builtin (by rw[I.ok.glob];exact I.mod.glob.keeps I.bk) hm (by rw[I.ok.blt];exact h1.keeps I.bk) ((h2 x hn).trans hv) h) hd
theorem La{x:Str}{v:V}{u:Value}{pos:Pos}(hg:Gl X x)(hm:X.mg x=some u)(r:RelV v u)(hd:(x ==("__debug__":Str))=false:=by decide):PE X (.Name x pos) (tC v) :=
 fun _ _ _ H _ I h=>kH I hg hm ⟨v,H,I,r,h⟩ hd
theorem CQ{x:Str}{v:V}{u:Value}{pos:Pos}(hg:Gl X x)(hm:X.mg x=none)(hv:bootBuiltins x=some u)(r:RelV v u)(hn:x ≠ "__name__":=by decide)(hd:(x ==("__debug__":Str))=false:=by decide):PE X (.Name x pos) (tC v) :=
 fun _ _ _ H _ I h=>iZ I hg hm hv ⟨v,H,I,r,h⟩ hn hd
variable{a b:Expr}{ta tb:TE}{pos:Pos}
variable{tA tB':TT}{rest:List Expr}
def Nx(t u:TT):TT:=fun σ H Q=>t σ H fun c H1=>if c=true then u σ H1 Q else Q false H1
def tOr(t u:TT):TT:=fun σ H Q=>t σ H fun c H1=>if c=true then Q true H1 else u σ H1 Q
def Nw(t:TT):TT:=fun σ H Q=>t σ H fun c H1=>Q (!c) H1
theorem CK(ha:PT X a tA):PW X (.BoolOp .And [a] pos) tA:=by
 intro wh pins s σ H Q I h;refine isTrue_and (thn (ha pins s σ H Q I h) fun c s1 e=>?_)
 cases c with
 | true=>exact isTrue_and_nil e
 | false=>exact e
theorem GS(ha:PT X a tA):PW X (.BoolOp .Or [a] pos) tA:=by
 intro wh pins s σ H Q I h;refine isTrue_or (thn (ha pins s σ H Q I h) fun c s1 e=>?_)
 cases c with
 | false=>exact isTrue_or_nil e
 | true=>exact e
theorem GU(ha:PT X a tA)(hb:PW X (.BoolOp .And (b::rest) pos) tB'):PW X (.BoolOp .And (a::b::rest) pos) (Nx tA tB'):=by
 intro wh pins s σ H Q I h;refine isTrue_and (thn (ha pins s σ H _ I h) fun c s1 hPP=>?_)
 obtain⟨H1,I1,q1⟩:=hPP;cases c with
 | true=>exact hb wh pins s1 σ H1 Q I1 q1
 | false=>exact⟨H1,I1,q1⟩
theorem MU(ha:PT X a tA)(hb:PW X (.BoolOp .Or (b::rest) pos) tB'):PW X (.BoolOp .Or (a::b::rest) pos) (tOr tA tB'):=by
 intro wh pins s σ H Q I h;refine isTrue_or (thn (ha pins s σ H _ I h) fun c s1 hPP=>?_)
 obtain⟨H1,I1,q1⟩:=hPP;cases c with
 | true=>exact⟨H1,I1,q1⟩
 | false=>exact hb wh pins s1 σ H1 Q I1 q1
theorem A9(ha:PT X a tA):PT X (.UnaryOp .Not a pos) (Nw tA):=by
 intro pins s σ H Q I h;exact isTrue_not (ha pins s σ H (fun c H1=>Q (!c) H1) I h)
def tIf(t:TT)(ta tb:TE):TE:=fun σ H Q=>t σ H fun c H1=>if c=true then ta σ H1 Q else tb σ H1 Q
theorem zt{c:Expr}(hc:PT X c tA)(ha:PE X a ta)(hb:PE X b tb):PE X (.IfExp c a b pos) (tIf tA ta tb):=by
 intro pins s σ H Q I h;refine wpAny_IfExp (thn (hc pins s σ H _ I h) fun d s1 hPP=>?_)
 obtain⟨H1,I1,q1⟩:=hPP;cases d with
 | true=>exact ha pins s1 σ H1 Q I1 q1
 | false=>exact hb pins s1 σ H1 Q I1 q1
end
def SqL(K:W.Frag)(H:Hp)(a:Addr)(xs:List V):Prop :=
 Rd H a (.lst xs) \/
  ∃(o:Obj)(its:Array Value)(n:Nat),K.lookup a=some o/\o.cls = .type "list" /\ o.dict=none/\o.data = .seq its n/\its.size<=sizeLine/\Vals xs its.toList
def SqT(K:W.Frag)(H:Hp)(a:Addr)(xs:List V):Prop :=
 Rd H a (.tup xs) \/
  ∃(o:Obj)(its:Array Value)(n:Nat),K.lookup a=some o/\o.cls = .type "tuple" /\ o.data = .seq its n/\its.size<=sizeLine/\Vals xs its.toList
def Tv:Value->Option V
 | .none=>some .non
 | .bool b=>some (.bl b)
 | .int i _=>some (.int i)
 | .str x _=>some (.str x)
 | .bytes b _=>some (.byt b)
 | .float b _=>some (.flt b)
 | .ref a=>some (.ref a)
 | .type n=>some (.ty n)
 | _=>none
theorem RelV.abs{x:V}{u:Value}(r:RelV x u):Tv u=some x:=by
 cases x with
 | non=>cases r;rfl
 | bl _=>cases r;rfl
 | int _=>obtain⟨t,rfl⟩:=r;rfl
 | str _=>obtain⟨t,rfl⟩:=r;rfl
 | byt _=>obtain⟨t,rfl⟩:=r;rfl
 | flt _=>obtain⟨t,rfl⟩:=r;rfl
 | ref _=>cases r;rfl
 | ty _=>cases r;rfl
theorem RelV.inj{x y:V}{u:Value}(r:RelV x u)(q:RelV y u):x=y:=Option.some.inj (r.abs.symm.trans q.abs)
theorem Vals.inj:∀{xs ys:List V}{us:List Value},Vals xs us->Vals ys us->xs=ys:=by
 intro xs ys us h
 induction h generalizing ys with
 | nil=>intro h';cases h';rfl
 | cons r t ih=>intro h';cases h' with|cons r' t'=>rw[r.inj r',ih t']
section
variable{X:Cx}{pins:List (Addr×Obj)}{σ:St}{H:Hp}{s:Shared}{a:Addr}{xs ys:List V}
theorem SqL.of{K:W.Frag}(h:H a=some (.lst xs)):SqL K H a xs:=.inl (.inl h)
theorem SqT.of{K:W.Frag}(h:H a=some (.tup xs)):SqT K H a xs:=.inl (.inl h)
theorem Inv.list(I:Inv X pins σ H s)(h:SqL X.K H a xs):∃ its:List Value,Vals xs its/\PlainL s.heap a its.toArray/\xs.length<=sizeLine:=by
 rcases h with h |⟨o,its,n,hk,hc,hd,hs,hz,r⟩
 ·obtain⟨z,its,n,r,e⟩:=h.ok I.hok;exact⟨its,r,⟨_,n,e,rfl,rfl,rfl⟩,z⟩
 ·refine⟨its.toList,r,⟨o,n,I.kIn a o hk,hc,hd,by simpa using hs⟩,?_⟩
  have e:=r.length;simp only[Array.length_toList]at e;omega
theorem Inv.tuple(I:Inv X pins σ H s)(h:SqT X.K H a xs):∃ its:List Value,Vals xs its/\IsTup s.heap a its.toArray/\xs.length<=sizeLine:=by
 rcases h with h |⟨o,its,n,hk,hc,hs,hz,r⟩
 ·obtain⟨z,its,r,p⟩:=h.ok I.hok;exact⟨its,r,p.1,z⟩
 ·refine⟨its.toList,r,⟨o,I.kIn a o hk,hc,n,by simpa using hs⟩,?_⟩
  have e:=r.length;simp only[Array.length_toList]at e;omega
theorem Inv.zJ(I:Inv X pins σ H s)(h:SqL X.K H a xs)(h':SqL X.K H a ys):xs=ys:=by
 obtain⟨its,r,⟨o,n,e,_,_,d⟩,_⟩:=I.list h;obtain⟨its',r',⟨o',n',e',_,_,d'⟩,_⟩:=I.list h';rw[e]at e';cases e';rw[d]at d';injection d' with d1 _
 have:its=its':=by simpa using congrArg Array.toList d1
 subst this;exact r.inj r'
theorem Inv.vG(I:Inv X pins σ H s)(h:SqT X.K H a xs)(h':SqT X.K H a ys):xs=ys:=by
 obtain⟨its,r,⟨o,e,_,n,d⟩,_⟩:=I.tuple h;obtain⟨its',r',⟨o',e',_,n',d'⟩,_⟩:=I.tuple h';rw[e]at e';cases e';rw[d]at d';injection d' with d1 _
 have:its=its':=by simpa using congrArg Array.toList d1
 subst this;exact r.inj r'
end
abbrev Cx.uC(X:Cx)(E:Value->Shared->Prop):Cx:={ X with xe:=E }
abbrev Cx.nox(X:Cx):Cx:=X.uC fun _ _=>False
theorem Cx.Ok.uC{X:Cx}(ok:X.Ok)(E:Value->Shared->Prop):(X.uC E).Ok :=
 ⟨ok.mod,ok.kind,ok.glob,ok.blt,ok.above,ok.inj,ok.has,ok.cab,ok.hd,ok.frames,ok.stk,ok.exf,ok.bs,ok.bsz,ok.Bj,ok.EM,ok.kX,ok.frf⟩
theorem Cx.Ok.jK{X:Cx}{E:Value->Shared->Prop}(ok:(X.uC E).Ok):X.Ok :=
 ⟨ok.mod,ok.kind,ok.glob,ok.blt,ok.above,ok.inj,ok.has,ok.cab,ok.hd,ok.frames,ok.stk,ok.exf,ok.bs,ok.bsz,ok.Bj,ok.EM,ok.kX,ok.frf⟩
section
variable{X:Cx}{pins:List (Addr×Obj)}{σ:St}{H:Hp}{s:Shared}{E:Value->Shared->Prop}
theorem Inv.uC(I:Inv X pins σ H s)(E:Value->Shared->Prop):Inv (X.uC E) pins σ H s:=⟨I.ok.uC E,I.os,I.bare,I.base,I.loc,I.cell,I.free,I.gy,I.pin,I.hok,I.len⟩
theorem Inv.jK(I:Inv (X.uC E) pins σ H s):Inv X pins σ H s:=⟨I.ok.jK,I.os,I.bare,I.base,I.loc,I.cell,I.free,I.gy,I.pin,I.hok,I.len⟩
theorem SP.jK{D:Ends}{f:Flow}{s':Shared}(h:SP (X.uC E) pins D f s'):SP X pins D f s':=by
 cases f with
 | next=>obtain⟨σ',H',I,q⟩:=h;exact⟨σ',H',I.jK,q⟩
 | brk=>obtain⟨σ',H',I,q⟩:=h;exact⟨σ',H',I.jK,q⟩
 | cont=>obtain⟨σ',H',I,q⟩:=h;exact⟨σ',H',I.jK,q⟩
 | ret u=>obtain⟨v,σ',H',I,r,q⟩:=h;exact⟨v,σ',H',I.jK,r,q⟩
theorem PSs.nox{st:List Stmt}{t:TS}(h:PSs X.nox st t):PSs X st t:=fun pins s σ H D I hw =>
 wpAny_mono (h pins s σ H D (I.uC _) hw) (fun _ _ q=>q.jK) fun _ _ z=>False.elim z
end
section
variable{X:Cx}{st:Stmt}{rest:List Stmt}{t u:TS}{e:Expr}{te:TE}{pos:Pos}
def ML:TS:=fun D σ H=>D.nx σ H
def P1(t u:TS):TS:=fun D σ H=>t { D with nx:=u D } σ H
theorem m9:PSs X [] ML:=fun _ _ σ H _ I h=>wpAny_execs_nil ⟨σ,H,I,h⟩
theorem aY(h1:PS X st t)(h2:PSs X rest u):PSs X (st::rest) (P1 t u):=by
 intro pins s σ H D I h;refine wpAny_execs_cons (thn (h1 pins s σ H { D with nx:=u D } I h) fun f s1 q=>?_)
 cases f with
 | next =>
  obtain⟨σ',H',I',q⟩:=q;exact h2 pins s1 σ' H' D I' q
 | ret v=>exact q
 | brk=>exact q
 | cont=>exact q
theorem bp(h1:PS X st t):PSs X [st] t:=by
 intro pins s σ H D I h;refine wpAny_execs_cons (thn (h1 pins s σ H D I h) fun f s1 q=>?_)
 cases f with
 | next=>exact wpAny_execs_nil q
 | ret v=>exact q
 | brk=>exact q
 | cont=>exact q
theorem Inv.quiet{pins:List (Addr×Obj)}{σ:St}{H:Hp}{s:Shared}(I:Inv X pins σ H s):interactive X.env=false:=by simp[interactive,I.ok.kind]
def yW(te:TE):TS:=fun D σ H=>te σ H fun _ H1=>D.nx σ H1
theorem eg(he:PE X e te)(hs:swapsWith e none pos.line X.env=pure false:=by rfl):PS X (.Expr e pos) (yW te):=by
 intro pins s σ H D I h;exact wpAny_Expr_any (thn (he pins s σ H _ I h) fun v s1 ⟨x,H1,I1,r1,q1⟩=>⟨σ,H1,I1,q1⟩) I.quiet hs
def Nt(te:TE):TS:=fun D σ H=>te σ H D.rt
theorem l6(he:PE X e te):PS X (.Return (some e) pos) (Nt te):=by
 intro pins s σ H D I h;exact wpAny_Return_some (thn (he pins s σ H _ I h) fun v s1 ⟨x,H1,I1,r1,q1⟩=>⟨x,σ,H1,I1,r1,q1⟩)
def P5(c:TT)(t u:TS):TS:=fun D σ H=>c σ H fun b H1=>if b=true then t D σ H1 else u D σ H1
theorem pQ{c:Expr}{a b:List Stmt}{tc:TT}(hc:PT X c tc)(ha:PSs X a t)(hb:PSs X b u):PS X (.If c a b pos) (P5 tc t u):=by
 intro pins s σ H D I h;refine wpAny_If (thn (hc pins s σ H _ I h) fun d s1 hPP=>?_)
 obtain⟨H1,I1,q1⟩:=hPP;cases d with
 | true=>exact ha pins s1 σ H1 D I1 q1
 | false=>exact hb pins s1 σ H1 D I1 q1
end
abbrev TG:=V->St->Hp ->(St->Hp->Prop)->Prop
abbrev TGs:=List V->St->Hp ->(St->Hp->Prop)->Prop
def PG(X:Cx)(target:Expr)(t:TG):Prop :=
 ∀(pins:List (Addr×Obj))(s:Shared)(σ:St)(H:Hp)(v:V)(u:Value)(Q:St->Hp->Prop),Inv X pins σ H s->RelV v u->t v σ H Q ->
  wpAny (model X.prog X.w) X.A (assign target X.env u) (fun _ s'=>∃ σ' H',Inv X pins σ' H' s'/\Q σ' H') X.xe s
def PGs(X:Cx)(ts:List Expr)(t:TGs):Prop :=
 ∀(pins:List (Addr×Obj))(s:Shared)(σ:St)(H:Hp)(vs:List V)(us:List Value)(Q:St->Hp->Prop),Inv X pins σ H s->Vals vs us->t vs σ H Q ->
  wpAny (model X.prog X.w) X.A (assignInOrder ((assignEach ts X.env).map (·.2)) us) (fun _ s'=>∃ σ' H',Inv X pins σ' H' s'/\Q σ' H') X.xe s
abbrev PD:=V->V->V->Hp ->(Hp->Prop)->Prop
def Sj(X:Cx)(t:PD):Prop :=
 ∀(pins:List (Addr×Obj))(s:Shared)(σ:St)(H:Hp)(o i v:V)(ov iv u:Value)(Q:Hp->Prop),Inv X pins σ H s->RelV o ov->RelV i iv->RelV v u->t o i v H Q ->
  wpAny (model X.prog X.w) X.A (setItem ov iv u) (fun _ s'=>∃ H',Inv X pins σ H' s'/\Q H') X.xe s
section
variable{X:Cx}{pos:Pos}
def jw(i:Nat):TG:=fun v σ H Q=>Q (σ.set i (some v)) H
theorem aA{i:Nat}{x:Str}(hN:X.N.Nodup)(hi:X.N[i]? = some x)(hx:Loc X.env.scope x)(hf:X.fn x=true\/X.env.scope.names.lookup x=some .local:=by first|exact .inl rfl|exact .inr rfl|assumption):PG X (.Name x pos) (jw i):=by
 intro pins s σ H v u Q I r h;exact wpAny_assign_Name (hU I hN hi hx r (fun s' I'=>⟨_,H,I',h⟩) hf)
def RT:TGs:=fun vs σ H Q=>vs = []/\Q σ H
def M8(t:TG)(u:TGs):TGs:=fun vs σ H Q=>∃ v r,vs=v::r/\t v σ H fun σ' H'=>u r σ' H' Q
theorem cI:PGs X [] RT:=by
 intro pins s σ H vs us Q I r h;obtain⟨e,h⟩:=h;subst e;cases r;exact assignInOrder_nil ⟨σ,H,I,h⟩
theorem aM{e:Expr}{es:List Expr}{t:TG}{u:TGs}(h1:PG X e t)(h2:PGs X es u)
  (hs:(assignEach (e::es) X.env).map (·.2)=assign e X.env ::(assignEach es X.env).map (·.2):=by rfl):PGs X (e::es) (M8 t u):=by
 intro pins s σ H vs us Q I r h;obtain⟨v,vr,e1,h⟩:=h;subst e1;cases r with
 | cons r rr =>
  rw[hs];refine assignInOrder_cons (thn (h1 pins s σ H _ _ _ I r h) fun _ s1 hPP=>?_)
  obtain⟨σ1,H1,I1,q1⟩:=hPP;exact h2 pins s1 σ1 H1 _ _ Q I1 rr q1
def Pk(K:W.Frag)(n:Nat)(t:TGs):TG:=fun v σ H Q=>∃ a xs,v = .ref a/\SqT K H a xs/\xs.length=n/\t xs σ H Q
theorem Ot{es:List Expr}{k:Nat}{t:TGs}{n:Nat}(hc:X.calm=true)(h:PGs X es t)
  (hn:(assignEach es X.env).length=n:=by rfl) (hst:(assignEach es X.env).findIdx? (·.1)=none:=by rfl):PG X (.Tuple es k pos) (Pk X.K n t):=by
 intro pins s σ H v u Q I r hw;obtain⟨a,xs,e1,hq,hl,hw⟩:=hw;subst e1;cases r;obtain⟨its,rv,ht,hz⟩:=I.tuple hq;refine assign_Tuple_tuple (I.ok.hd hc) ht (by simp[hn,<- hl,rv.length]) hst fun h' hx=>?_
 have I1:Inv X pins σ H { s with heap:=h' }:=I.kept (t':=s.toks) fun b o e=>hx b o (Nat.ne_of_lt (Heap.lt_size e)) e
 exact h pins _ σ H xs _ Q I1 (by simpa using rv) hw
def Pl(to ti:TE)(t:PD):TG:=fun v σ H Q=>to σ H fun o H1=>ti σ H1 fun i H2=>t o i v H2 fun H3=>Q σ H3
theorem Ou{o i:Expr}{to ti:TE}{t:PD}(ho:PE X o to)(hi:PE X i ti)(hs:Sj X t)
  (ha:∀ v,assign (.Subscript o i pos) X.env v =(do
   let ov <- holding [v] (eval o X.env)
   let iv <- holding [v,ov] (eval i X.env)
   standAt pos
   holding [v,ov,iv] (setItem ov iv v)
   release [v,ov,iv] []):=by intro _;rfl):PG X (.Subscript o i pos) (Pl to ti t):=by
 intro pins s σ H v u Q I r h;rw[ha];refine wpAny_bind (wpAny_holding (thn (ho pins s σ H _ I h) fun ov s1 hPP=>?_))
 obtain⟨x,H1,I1,r1,q1⟩:=hPP;refine wpAny_bind (wpAny_holding (thn (hi pins s1 σ H1 _ I1 q1) fun iv s2 hPP=>?_))
 obtain⟨y,H2,I2,r2,q2⟩:=hPP;refine wpAny_bind (wpAny_standAt (wpAny_bind (wpAny_holding (thn (hs pins s2 σ H2 x y v ov iv u _ I2 r1 r2 r q2) fun _ s3 hPP=>?_))))
 obtain⟨H3,I3,q3⟩:=hPP;exact wpAny_release ⟨σ,H3,I3,q3⟩
def oB(te:TE)(g:TG):TS:=fun D σ H=>te σ H fun x H1=>g x σ H1 D.nx
theorem GY{tg e:Expr}{te:TE}{g:TG}(he:PE X e te)(hg:PG X tg g)(hs:swapsWithSole [tg] e pos.line X.env=pure false:=by rfl)(hw:swappedStores [tg] e X.env=pure none:=by rfl)
  (h1:(assignEach [tg] X.env).map (·.2) = [assign tg X.env]:=by rfl):PS X (.Assign [tg] e pos) (oB te g):=by
 intro pins s σ H D I h;refine wpAny_Assign_stores (thn (he pins s σ H _ I h) fun v s1 hPP=>?_) hs hw
 obtain⟨x,H1,I1,r1,q1⟩:=hPP;rw[h1];exact thn (hg pins s1 σ H1 x v _ I1 r1 q1) fun _ s2 q=>q
theorem fO{i:Nat}{x:Str}{e:Expr}{te:TE}{pos':Pos}(hN:X.N.Nodup)(hi:X.N[i]? = some x)(hx:Loc X.env.scope x)(he:PE X e te)(hs:swapsWith e (some (.Name x pos')) pos.line X.env=pure false:=by rfl)(hf:X.fn x=true\/X.env.scope.names.lookup x=some .local:=by first|exact .inl rfl|exact .inr rfl|assumption) :
  PS X (.Assign [.Name x pos'] e pos) (oB te (jw i)):=by
 intro pins s σ H D I h;refine wpAny_Assign_Name (thn (he pins s σ H _ I h) fun v s1 hPP=>?_) hs
 obtain⟨y,H1,I1,r1,q1⟩:=hPP;exact hU I1 hN hi hx r1 (fun s2 I2=>⟨_,H1,I2,q1⟩) hf
def Nv(i j:Nat)(ta:TA):TS:=fun D σ H=>ta σ H fun vs H1=>∃ v w,vs = [v,w]/\D.nx ((σ.set i (some v)).set j (some w)) H1
theorem Og{i j:Nat}{x y:Str}{a b:Expr}{ta:TA}{px py pt:Pos}{kt k2 pt2}(hc:X.calm=true)(hN:X.N.Nodup)(hi:X.N[i]? = some x)(hj:X.N[j]? = some y)(hij:i≠j)
  (hx:X.env.scope.names.lookup x=some .local) (hy:X.env.scope.names.lookup y=some .local) (ha:PA X [a,b] ta)
  (hw:swappedStores [.Tuple [.Name x px,.Name y py] kt pt] (.Tuple [a,b] k2 pt2) X.env=pure (some [x,y]))
  (hs:swapsWithSole [.Tuple [.Name x px,.Name y py] kt pt] (.Tuple [a,b] k2 pt2) pos.line X.env=pure false:=by rfl) :
  PS X (.Assign [.Tuple [.Name x px,.Name y py] kt pt] (.Tuple [a,b] k2 pt2) pos) (Nv i j ta):=by
 intro pins s σ H D I h;rw[exec_Assign_arm];refine wpAny_bind (wpAny_standAt ?_);rw[hs];refine wpAny_bind (wpAny_pure ?_);rw[if_neg (by decide)]
 refine wpAny_bind (Tuple_ (thn (ha _ pins s σ H _ I h) fun us s1 hPP=>?_))
 obtain⟨vs,H1,I1,r1,q1⟩:=hPP;obtain⟨v,w,e1,q1⟩:=q1;subst e1;obtain⟨u1,u2,rfl,rv,rw'⟩:∃ u1 u2,us = [u1,u2]/\RelV v u1/\RelV w u2:=by
  cases r1 with
  | cons p q =>
   cases q with
   | cons p' q' =>
    cases q';exact⟨_,_,rfl,p,p'⟩
 refine wpAny_newObj_type ?_ (by show 2<=sizeLine;decide)
 have I2:Inv X pins σ H1 { s1 with heap:=s1.heap.push { cls:=.type "tuple",data:=.seq [u1,u2].toArray } }:=I1.kept (t':=s1.toks) fun b o e=>Heap.get?_push_of_some _ e
 rw[hw];refine wpAny_bind (wpAny_pure ?_);show wpAny (model X.prog X.w) X.A (do rule "assign.swapped-stores";let items <- unpackItems (.ref s1.heap.objs.size) 2 none;assignInOrder [fun v=>bindName X.env y v,fun v=>bindName X.env x v] items.reverse;pure Flow.next) _ _ _
 refine wpAny_bind (wpAny_rule (wpAny_bind (unpackItems_tuple (items:=#[u1,u2]) (I.ok.hd hc) (IsTup.new s1.heap _) fun h' hx'=>?_)))
 have I3:=I2.kept (h':=h') (t':=s1.toks) fun b o e=>hx' b o (Nat.ne_of_lt (Heap.lt_size e)) e
 show wpAny _ _ (assignInOrder [fun v=>bindName X.env y v,fun v=>bindName X.env x v] [u2,u1] >>= fun _=>pure Flow.next) _ _ _
 refine wpAny_bind (assignInOrder_cons (wpAny_bindName (hU I3 hN hj (.inl hy) rw' (fun s2 I4=>?_) (.inr hy))))
 refine assignInOrder_cons (wpAny_bindName (hU I4 hN hi (.inl hx) rv (fun s3 I5=>assignInOrder_nil (wpAny_pure ?_)) (.inr hx)))
 rw[List.set_comm _ _ (Ne.symm hij)]at I5;exact⟨_,H1,I5,q1⟩
end
section
variable{X:Cx}{pos:Pos}
def AV(c:TT)(tb:TS):TS:=fun D σ H=>∃ W:Nat->St->Hp->Prop,(∃ m,W m σ H)/\∀ m σ H,W m σ H ->
 c σ H fun b H1=>if b=true then ∃ N:St->Hp->Prop,(∀ σ' H',N σ' H'->∃ m',m'<m/\W m' σ' H')/\tb { D with nx:=N,ct:=N,bk:=D.nx } σ H1 else D.nx σ H1
theorem zj{c:Expr}{body:List Stmt}{tc:TT}{tb:TS}(hp:PassesOwn (model X.prog X.w) X.A X.env X.xe)(hc:PT X c tc)(hb:PSs X body tb):PS X (.While c body [] pos) (AV tc tb):=by
 intro pins s σ H D I h;obtain⟨W,⟨m0,w0⟩,turn⟩:=h;refine wpAny_While (codeAny_whileLoop (fun n s'=>∃ σ' H',Inv X pins σ' H' s'/\W n σ' H') ?_ m0 ⟨σ,H,I,w0⟩)
 rintro n s1 ⟨σ1,H1,I1,w1⟩
 refine wpAny_passesOwn hp (thn (hc pins s1 σ1 H1 _ I1 (turn n σ1 H1 w1)) fun b s2 hPP=>?_)
 obtain⟨H2,I2,q2⟩:=hPP;cases b with
 | true =>
  obtain⟨N,hN,q2⟩:=q2;rw[if_pos rfl];refine wpAny_passesOwn hp (thn (hb pins s2 σ1 H2 _ I2 q2) fun f s3 q3=>?_)
  cases f with
  | next =>
   obtain⟨σ3,H3,I3,n3⟩:=q3;obtain⟨m',hm,w3⟩:=hN σ3 H3 n3;exact⟨m',hm,σ3,H3,I3,w3⟩
  | cont =>
   obtain⟨σ3,H3,I3,n3⟩:=q3;obtain⟨m',hm,w3⟩:=hN σ3 H3 n3;exact⟨m',hm,σ3,H3,I3,w3⟩
  | brk=>exact q3
  | ret v=>exact q3
 | false =>
  rw[if_neg Bool.false_ne_true];exact wpAny_execs_nil ⟨σ1,H2,I2,q2⟩
end
structure It where
 go:Nat->Hp->Prop
 yld:Nat->Hp->V->Hp->Prop
 stop:Nat->Hp->Prop
def vA(X:Cx)(pins:List (Addr×Obj))(H:Hp)(b:Addr):Prop :=
 H b=none/\b≠X.env.locals/\b ∉ X.fs/\(b∈X.ex\/X.s₀.heap.objs.size<=b)/\(∀ x c,X.env.cells.lookup x=some c->c≠b)/\∀ p∈X.pn++pins,p.1≠b
theorem Inv.IP{X:Cx}{pins:List (Addr×Obj)}{σ:St}{H H':Hp}{s:Shared}{b:Addr}(I:Inv X pins σ H s)(hb:s.heap.objs.size<=b)(hn:H' b=none):vA X pins H' b:=by
 refine⟨hn,Nat.ne_of_gt (Nat.lt_of_lt_of_le I.lt hb),I.Rj hb,.inr (Nat.le_trans I.sz hb),fun x c e z=>?_,fun p hp z=>?_⟩
 ·obtain⟨v,q⟩:=I.cell x c e;exact absurd (Nat.lt_of_lt_of_le q.lt (by rw[z];exact hb)) (Nat.lt_irrefl _)
 ·exact absurd (Nat.lt_of_lt_of_le (Heap.lt_size (I.pin p hp).1) (by rw[z];exact hb)) (Nat.lt_irrefl _)
structure Turn(P:Program)(w:World)(K:W.Frag)(tg:Expr)(J:It)(fp:List Addr)(it:Addr)(tn:Nat->Heap->Prop):Prop where
 mem:it∈fp
 obj:∀ i h,tn i h->∀ b∈fp,∃ o,h.get? b=some o/\∀ v,o.data ≠ .cell v
 keep:∀ i h h',tn i h ->(∀ b∈fp,∀ o,h.get? b=some o->h'.get? b=some o)->tn i h'
 item:∀(X:Cx),X.prog=P->X.w=w->X.K=K->X.calm=true->∀(i:Nat)(pins:List (Addr×Obj))(s:Shared)(σ:St)(H:Hp)(E:Value->Shared->Prop),Inv X pins σ H s ->(∀ b∈fp,vA X pins H b)->tn i s.heap->J.go i H ->
  wpAny (model P w) X.A (pyNext (.ref it)) (fun r s1=>∃ u,r=some u /\
   wpAny (model P w) X.A (letOwnedTupleGo tg (.ref it) u) (fun _ s2=>∃ x H',Inv X pins σ H' s2/\RelV x u/\J.yld i H x H'/\tn (i+1) s2.heap/\∀ b∈fp,H' b=none) E s1) E s
 done:∀(X:Cx),X.prog=P->X.w=w->X.K=K->X.calm=true->∀(i:Nat)(pins:List (Addr×Obj))(s:Shared)(σ:St)(H:Hp)(E:Value->Shared->Prop),Inv X pins σ H s ->(∀ b∈fp,vA X pins H b)->tn i s.heap->J.stop i H ->
  wpAny (model P w) X.A (pyNext (.ref it)) (fun r s1=>r=none/\Inv X pins σ H s1) E s
 self:∀(A:Around)(i:Nat)(s:Shared)(Q:Value->Shared->Prop)(E:Value->Shared->Prop),tn i s.heap->Q (.ref it) s->wpAny (model P w) A (pyIter (.ref it)) Q E s
abbrev TI:=St->Hp ->(It->Hp->Prop)->Prop
def PIE(X:Cx)(pins:List (Addr×Obj))(σ:St)(tg:Expr)(R:It->Hp->Prop)(itv:Value)(s2:Shared):Prop :=
 ∃(it:Addr)(fp:List Addr)(tn:Nat->Heap->Prop)(J:It)(H':Hp),itv = .ref it/\Inv X pins σ H' s2/\Turn X.prog X.w X.K tg J fp it tn/\tn 0 s2.heap/\(∀ b∈fp,vA X pins H' b)/\R J H'
def PI(X:Cx)(tg iter:Expr)(wi:TI):Prop :=
 ∀(pins:List (Addr×Obj))(s:Shared)(σ:St)(H:Hp)(R:It->Hp->Prop),Inv X pins σ H s->wi σ H R ->
  wpAny (model X.prog X.w) X.A (eval iter X.env) (fun v s1=>wpAny (model X.prog X.w) X.A (pyIter v) (PIE X pins σ tg R) X.xe s1) X.xe s
theorem C7{M:Model}{A:Around}{E:Value->Shared->Prop}{s:Shared}{tg:Expr}{it:Addr}{u:Value}{o:Obj}{n:String}{vs:Array Value}{Q:Unit->Shared->Prop}(ho:s.heap.get? it=some o)(hc:o.cls = .type n)(hd:o.data = .fields vs)
  (hn:["enumerate","zip","dict_itemiterator","dict_reverseitemiterator","odict_iterator","itertools.zip_longest","itertools.pairwise"].contains n=false) (hQ:Q () s):wpAny M A (letOwnedTupleGo tg (.ref it) u) Q E s:=by
 unfold letOwnedTupleGo;cases tg <;> first
  | exact wpAny_pure hQ
  | (cases u <;> first
    | exact wpAny_pure hQ
    | (refine wpAny_bind (wpAny_load ho ?_)
       rw[hc,hd];show wpAny M A (if(["enumerate","zip","dict_itemiterator","dict_reverseitemiterator","odict_iterator","itertools.zip_longest","itertools.pairwise"].contains n&&vs[0]? == some (rawInt _))=true then _ else _) Q E s
       rw[if_neg (by intro h;rw[hn,Bool.false_and]at h;cases h)]
       exact wpAny_pure hQ))
def Itl(K:W.Frag)(a:Addr):It :=
 ⟨fun i H=>∃ xs x,SqL K H a xs/\xs[i]? = some x,fun i H x H'=>H'=H/\∀ xs,SqL K H a xs->xs[i]? = some x,fun i H=>∃ xs,SqL K H a xs/\xs.length<=i⟩
def Itt(K:W.Frag)(a:Addr):It :=
 ⟨fun i H=>∃ xs x,SqT K H a xs/\xs[i]? = some x,fun i H x H'=>H'=H/\∀ xs,SqT K H a xs->xs[i]? = some x,fun i H=>∃ xs,SqT K H a xs/\xs.length<=i⟩
def Itr(lo:Int)(n:Nat):It:=⟨fun i _=>i<n,fun i H x H'=>H'=H/\x = .int (lo+i),fun i _=>n<=i⟩
theorem DC{P:Program}{w:World}{K:W.Frag}{tg:Expr}(a it:Addr):Turn P w K tg (Itl K a) [it] it (fun i h=>h.IsListIter it a i) where
 mem:=by simp
 obj:=fun i h st b hb=>by
  have e:b=it:=by simpa using hb
  subst e;obtain⟨o,e,c,d⟩:=st;exact⟨o,e,fun v z=>by rw[d]at z;cases z⟩
 keep:=fun i h h' st k=>st.at fun o e=>k it (by simp) o e
 item:=by
  intro X hP hw hK hc i pins s σ H E I hf st hg;subst hP hw hK;obtain⟨xs,x,hq,hx⟩:=hg;obtain⟨its,rv,p,hz⟩:=I.list hq;obtain⟨u,hu,ru⟩:=rv.get hx;obtain⟨f0,f1,f2,f3,f4,f5⟩:=hf it (by simp)
  refine wpAny_pyNext_list_item st p.isList (x:=u) (by simpa using hu) fun h' st' sb=>?_
  have I1:Inv X pins σ H { s with heap:=h' }:=I.turned (t':=s.toks) (fun b o hb e=>(sb.2 b hb).trans e) f0 f1 f3 f4 f5
  obtain⟨o,e,c,d⟩:=id st';exact⟨u,rfl,C7 (s:={ s with heap:=h' }) e c d (by decide) ⟨x,H,I1,ru,⟨rfl,fun ys hy=>by rw[I.zJ hy hq];exact hx⟩,st',fun b hb=>(hf b hb).1⟩⟩
 done:=by
  intro X hP hw hK hc i pins s σ H E I hf st hg;subst hP hw hK;obtain⟨xs,hq,hx⟩:=hg;obtain⟨its,rv,p,hz⟩:=I.list hq;obtain⟨f0,f1,f2,f3,f4,f5⟩:=hf it (by simp)
  have hl:=rv.length;exact wpAny_pyNext_list_end (I.ok.hd hc) st p.isList (by simp;omega) fun h' eb=>⟨rfl,I.turned (t':=s.toks) (fun b o hb e=>eb b o hb e) f0 f1 f3 f4 f5⟩
 self:=fun _ _ _ _ _ st h=>wpAny_pyIter_listiter st h
theorem AS{P:Program}{w:World}{K:W.Frag}{tg:Expr}(a it:Addr):Turn P w K tg (Itt K a) [it] it (fun i h=>h.IsTupleIter it a i) where
 mem:=by simp
 obj:=fun i h st b hb=>by
  have e:b=it:=by simpa using hb
  subst e;obtain⟨o,e,c,d⟩:=st;exact⟨o,e,fun v z=>by rw[d]at z;cases z⟩
 keep:=fun i h h' st k=>st.at fun o e=>k it (by simp) o e
 item:=by
  intro X hP hw hK hc i pins s σ H E I hf st hg;subst hP hw hK;obtain⟨xs,x,hq,hx⟩:=hg;obtain⟨its,rv,p,hz⟩:=I.tuple hq;obtain⟨u,hu,ru⟩:=rv.get hx;obtain⟨f0,f1,f2,f3,f4,f5⟩:=hf it (by simp)
  refine wpAny_pyNext_tuple_item st (show s.heap.IsTuple a its.toArray from p) (x:=u) (by simpa using hu) fun h' st' sb=>?_
  have I1:Inv X pins σ H { s with heap:=h' }:=I.turned (t':=s.toks) (fun b o hb e=>(sb.2 b hb).trans e) f0 f1 f3 f4 f5
  obtain⟨o,e,c,d⟩:=id st';exact⟨u,rfl,C7 (s:={ s with heap:=h' }) e c d (by decide) ⟨x,H,I1,ru,⟨rfl,fun ys hy=>by rw[I.vG hy hq];exact hx⟩,st',fun b hb=>(hf b hb).1⟩⟩
 done:=by
  intro X hP hw hK hc i pins s σ H E I hf st hg;subst hP hw hK;obtain⟨xs,hq,hx⟩:=hg;obtain⟨its,rv,p,hz⟩:=I.tuple hq;obtain⟨f0,f1,f2,f3,f4,f5⟩:=hf it (by simp)
  have hl:=rv.length;exact wpAny_pyNext_tuple_end (I.ok.hd hc) st (show s.heap.IsTuple a its.toArray from p) (by simp;omega) fun h' eb=>⟨rfl,I.turned (t':=s.toks) (fun b o hb e=>eb b o hb e) f0 f1 f3 f4 f5⟩
 self:=fun _ _ _ _ _ st h=>wpAny_pyIter_tupleiter st h
theorem AU{P:Program}{w:World}{K:W.Frag}{tg:Expr}(it:Addr)(lo:Int)(n:Nat):Turn P w K tg (Itr lo n) [it] it (fun i h=>IsRangeIter h it (lo+(i:Nat)*1) ((n:Int) - (i:Nat)) 1) where
 mem:=by simp
 obj:=fun i h st b hb=>by
  have e:b=it:=by simpa using hb
  subst e;exact⟨_,st,fun v z=>by
   have z':Data.fields _=Data.cell v:=z;cases z'⟩
 keep:=fun i h h' st k=>k it (by simp) _ st
 item:=by
  intro X hP hw hK hc i pins s σ H E I hf st hg;subst hP hw hK;obtain⟨f0,f1,f2,f3,f4,f5⟩:=hf it (by simp)
  have W:=Walks.range (prog:=X.prog) (w:=X.w) (I.ok.hd hc) it lo 1 n;refine W.item i s _ _ hg st fun v h' tk hv st' kk=>?_
  obtain⟨t,rfl⟩:=hv;have I1:Inv X pins σ H { s with heap:=h',toks:=tk }:=I.turned (fun b o hb e=>kk b o (by simpa using hb) e) f0 f1 f3 f4 f5
  refine⟨_,rfl,C7 (s:={ s with heap:=h',toks:=tk }) (n:="range_iterator") st' rfl rfl (by decide) ⟨.int (lo+i),H,I1,⟨t,?_⟩,⟨rfl,rfl⟩,st',fun b hb=>(hf b hb).1⟩⟩
  rw[Int.mul_one]
 done:=by
  intro X hP hw hK hc i pins s σ H E I hf st hg;subst hP hw hK;obtain⟨f0,f1,f2,f3,f4,f5⟩:=hf it (by simp)
  exact wpAny_pyNext_range_end (I.ok.hd hc) st (by have:n<=i:=hg;omega) fun h' eb=>⟨rfl,I.turned (t':=s.toks) (fun b o hb e=>eb b o hb e) f0 f1 f3 f4 f5⟩
 self:=fun _ _ _ _ _ st h=>wpAny_pyIter_rangeiter st h
section
variable{X:Cx}{tg:Expr}
def C5(K:W.Frag)(tl:TE):TI:=fun σ H R=>tl σ H fun x H1=>∃ a,x = .ref a/\(∃ xs,SqL K H1 a xs)/\R (Itl K a) H1
def LX(K:W.Frag)(tl:TE):TI:=fun σ H R=>tl σ H fun x H1=>∃ a,x = .ref a/\(∃ xs,SqT K H1 a xs)/\R (Itt K a) H1
theorem qU{l:Expr}{tl:TE}(hl:PE X l tl):PI X tg l (C5 X.K tl):=by
 intro pins s σ H R I h;refine thn (hl pins s σ H _ I h) fun v s1 hPP=>?_
 obtain⟨x,H1,I1,r1,q1⟩:=hPP;obtain⟨a,e,⟨xs,hq⟩,q⟩:=q1;subst e;cases r1;obtain⟨its,rv,p,hz⟩:=I1.list hq;refine wpAny_pyIter_list p.isList ?_;refine⟨s1.heap.objs.size,[s1.heap.objs.size],_,_,H1,rfl,I1.kept (t':=s1.toks) fun b o e=>Heap.get?_push_of_some _ e,DC a _,⟨_,Heap.get?_push_size _ rfl,rfl,rfl⟩,fun b hb=>?_,q⟩
 have e:b=s1.heap.objs.size:=by simpa using hb
 subst e;exact I1.IP (Nat.le_refl _) (I1.hok.fresh (Nat.le_refl _))
theorem Oq{l:Expr}{tl:TE}(hl:PE X l tl):PI X tg l (LX X.K tl):=by
 intro pins s σ H R I h;refine thn (hl pins s σ H _ I h) fun v s1 hPP=>?_
 obtain⟨x,H1,I1,r1,q1⟩:=hPP;obtain⟨a,e,⟨xs,hq⟩,q⟩:=q1;subst e;cases r1;obtain⟨its,rv,p,hz⟩:=I1.tuple hq;refine wpAny_pyIter_tuple (show s1.heap.IsTuple a its.toArray from p) ?_;refine⟨s1.heap.objs.size,[s1.heap.objs.size],_,_,H1,rfl,I1.kept (t':=s1.toks) fun b o e=>Heap.get?_push_of_some _ e,AS a _,⟨_,Heap.get?_push_size _ rfl,rfl,rfl⟩,fun b hb=>?_,q⟩
 have e:b=s1.heap.objs.size:=by simpa using hb
 subst e;exact I1.IP (Nat.le_refl _) (I1.hok.fresh (Nat.le_refl _))
theorem Gy{pins:List (Addr×Obj)}{σ:St}{H:Hp}{s:Shared}{R:It->Hp->Prop}{E:Value->Shared->Prop}{lo hi:Int}{t u v:Tok}{tk:Nat}(I:Inv X pins σ H s)(h1:-(2 ^ 62)<=lo)(h2:lo<2 ^ 62)(h3:-(2 ^ 62)<=hi)(h4:hi<2 ^ 62)
  (q:R (Itr lo (hi - lo).toNat) H):wpAny (model X.prog X.w) X.A (pyIter (.ref s.heap.objs.size)) (PIE X pins σ tg R) E { s with heap:=s.heap.push { cls:=.type "range",data:=.fields #[.int lo t,.int hi u,.int 1 v] },toks:=tk }:=by
 refine wpAny_pyIter_range (IsRange.new ..) (small_one h1 h2 h3 h4) ?_;have I1:Inv X pins σ H { s with heap:=s.heap.push { cls:=.type "range",data:=.fields #[.int lo t,.int hi u,.int 1 v] },toks:=tk }:=I.kept fun b o e=>Heap.get?_push_of_some _ e
 refine⟨(s.heap.push { cls:=.type "range",data:=.fields #[.int lo t,.int hi u,.int 1 v] }).objs.size,[(s.heap.push { cls:=.type "range",data:=.fields #[.int lo t,.int hi u,.int 1 v] }).objs.size],_,_,H,rfl,
  I1.kept (t':=tk) fun b o e=>Heap.get?_push_of_some _ e,AU _ lo (hi - lo).toNat,?_,fun b hb=>?_,q⟩
 ·have e1:lo+((0:Nat):Int)*1=lo:=by simp
  have e2:(((hi - lo).toNat:Nat):Int) - ((0:Nat):Int)=Builtin.Range.rangeSize lo hi 1:=by rw[rangeSize_one];split <;> omega
  show IsRangeIter _ _ (lo+((0:Nat):Int)*1) ((((hi - lo).toNat:Nat):Int) - ((0:Nat):Int)) 1;rw[e1,e2];exact Heap.get?_push_size _ rfl
 ·have e:b =(s.heap.push { cls:=.type "range",data:=.fields #[.int lo t,.int hi u,.int 1 v] }).objs.size:=by simpa using hb
  subst e;exact I1.IP (Nat.le_refl _) (I1.hok.fresh (Nat.le_refl _))
def IB(ta:TA):TI:=fun σ H R=>ta σ H fun vs H1=>∃ j:Int,vs = [.int j] /\ -(2 ^ 62)<=j/\j<2 ^ 62/\R (Itr 0 j.toNat) H1
theorem vP{a:Expr}{ta:TA}{p pos:Pos}(hg:Gl X "range")(hm:X.mg "range" = none)(ha:PA X [a] ta)(hs:starEach [a] X.env = [(false,eval a X.env)]:=by rfl):PI X tg (.Call (.Name "range" p) [a] [] pos) (IB ta):=by
 intro pins s σ H R I h;refine Call_ (iZ I hg hm boot_range (PyProof.Rows.callWith_type1 (thn (ha pos pins s σ H _ I h) fun us s1 ⟨vs,H1,I1,r1,q1⟩=>?_) hs rfl))
 obtain⟨j,e,q1,q2,q⟩:=q1;subst e;cases r1 with
 | cons r rr =>
  cases rr;obtain⟨t,rfl⟩:=r;exact call_range_1 (Gy I1 (by omega) (by omega) q1 q2 (by simpa using q))
def P6(wi:TI)(g:TG)(tb:TS):TS:=fun D σ H=>wi σ H fun J H1=>∃ W:Nat->Nat->St->Hp->Prop,(∃ m,W 0 m σ H1)/\∀ i m σ H,W i m σ H ->
 (J.stop i H/\D.nx σ H)\/(J.go i H/\∃ N:St->Hp->Prop,(∀ σ' H',N σ' H'->∃ m',m'<m/\W (i+1) m' σ' H')/\∀ x H',J.yld i H x H'->g x σ H' fun σ2 H2=>tb { D with nx:=N,ct:=N,bk:=D.nx } σ2 H2)
def si(fp:List Addr)(h:Heap):List (Addr×Obj):=fp.filterMap fun b=>(h.get? b).map fun o=>(b,o)
theorem gu{fp:List Addr}{h:Heap}{b:Addr}{o:Obj}(hb:b∈fp)(e:h.get? b=some o):(b,o)∈si fp h:=List.mem_filterMap.mpr ⟨b,hb,by rw[e];rfl⟩
theorem Ed{fp:List Addr}{h:Heap}{p:Addr×Obj}(hp:p∈si fp h):p.1∈fp/\h.get? p.1=some p.2:=by
 obtain⟨b,hb,e⟩:=List.mem_filterMap.mp hp;cases q:h.get? b with
 | none=>rw[q]at e;cases e
 | some o =>
  rw[q]at e;have e':(b,o)=p:=Option.some.inj e;subst e';exact⟨hb,q⟩
theorem Inv.pinned{pins:List (Addr×Obj)}{σ:St}{H:Hp}{s:Shared}{fp:List Addr}(I:Inv X pins σ H s)(hf:∀ b∈fp,vA X pins H b)(ho:∀ b∈fp,∃ o,s.heap.get? b=some o/\∀ v,o.data ≠ .cell v):Inv X (pins++si fp s.heap) σ H s :=
 I.ng fun p hp=>(List.mem_append.mp hp).elim (fun z=>I.pin p (List.mem_append_right _ z)) fun z=>by
  obtain⟨hb,e⟩:=Ed z;obtain⟨f0,f1,f2,_⟩:=hf p.1 hb;obtain⟨o,e',d⟩:=ho p.1 hb;rw[e]at e';cases e';exact⟨e,f0,f1,f2,d⟩
theorem Inv.mS{pins pl:List (Addr×Obj)}{σ:St}{H:Hp}{s:Shared}(I:Inv X (pins++pl) σ H s):Inv X pins σ H s:=I.ng fun p hp=>I.pin p (List.mem_append_right _ (List.mem_append_left _ hp))
theorem Ba{iter:Expr}{body:List Stmt}{wi:TI}{g:TG}{tb:TS}{pos:Pos}(hp:PassesOwn (model X.prog X.w) X.A X.env X.xe)(hc:X.calm=true)(hi:PI X tg iter wi)(hg:PG X tg g)(hb:PSs X body tb)
  (hs:∀ x,foldedSetIterable iter X.env x=pure x:=by intro _;rfl):PS X (.For tg iter body [] pos) (P6 wi g tb):=by
 intro pins s σ H D I h;refine wpAny_For (thn (hi pins s σ H _ I h) fun v s1 h1=>thn h1 fun itv s2 h2=>?_) hs
 obtain⟨it,fp,tn,J,H2,e,I2,T,st2,f2,W,⟨m0,w0⟩,turn⟩:=h2;subst e;have NB:∀{H':Hp},(∀ b∈fp,H' b=none)->∀ b∈fp,vA X pins H' b:=fun hn b hb=>⟨hn b hb,(f2 b hb).2⟩
 refine codeAny_forLoop_any (fun n s'=>∃ i σ' H',Inv X pins σ' H' s'/\tn i s'.heap/\(∀ b∈fp,H' b=none)/\W i n σ' H') ?_ m0 ⟨0,σ,H2,I2,st2,fun b hb=>(f2 b hb).1,w0⟩
 rintro n s3 ⟨i,σ3,H3,I3,st3,fr3,w3⟩
 rcases turn i n σ3 H3 w3 with⟨stop,qn⟩ |⟨go,N,hN,step⟩
 ·refine wpAny_passesOwn hp (thn (T.done X rfl rfl rfl hc i pins s3 σ3 H3 X.xe I3 (NB fr3) st3 stop) fun r s4 hPP=>?_)
  obtain⟨hr,I4⟩:=hPP;subst hr;exact wpAny_execs_nil ⟨σ3,H3,I4,qn⟩
 ·refine wpAny_passesOwn hp (thn (T.item X rfl rfl rfl hc i pins s3 σ3 H3 X.xe I3 (NB fr3) st3 go) fun r s4 hPP=>?_)
  obtain⟨u,hr,h4⟩:=hPP;subst hr;refine wpAny_passesOwn hp (thn h4 fun _ s5 hPP=>?_)
  obtain⟨x,H5,I5,r5,y5,st5,fr5⟩:=hPP;have I5':=I5.pinned (NB fr5) (T.obj _ _ st5);refine wpAny_passesOwn hp (thn (hg _ s5 σ3 H5 x u _ I5' r5 (step x H5 y5)) fun _ s6 hPP=>?_)
  obtain⟨σ6,H6,I6,q6⟩:=hPP;refine wpAny_passesOwn hp (thn (hb _ s6 σ6 H6 _ I6 q6) fun f s7 q7=>?_)
  have again:∀{σ7:St}{H7:Hp},Inv X (pins++si fp s5.heap) σ7 H7 s7->N σ7 H7->∃ m,m<n/\∃ i σ' H',Inv X pins σ' H' s7/\tn i s7.heap/\(∀ b∈fp,H' b=none)/\W i m σ' H':=fun{σ7 H7} I7 n7=>by
   obtain⟨m',hm,w7⟩:=hN σ7 H7 n7;refine⟨m',hm,i+1,σ7,H7,I7.mS,T.keep _ _ _ st5 fun b hb o e=>(I7.pin (b,o) (List.mem_append_right _ (List.mem_append_right _ (gu hb e)))).1,fun b hb=>?_,w7⟩
   obtain⟨o,e,d⟩:=T.obj _ _ st5 b hb;exact(I7.pin (b,o) (List.mem_append_right _ (List.mem_append_right _ (gu hb e)))).2.1
  cases f with
  | next=>obtain⟨σ7,H7,I7,n7⟩:=q7;exact again I7 n7
  | cont=>obtain⟨σ7,H7,I7,n7⟩:=q7;exact again I7 n7
  | brk=>obtain⟨σ7,H7,I7,q7⟩:=q7;exact⟨σ7,H7,I7.mS,q7⟩
  | ret v=>obtain⟨x7,σ7,H7,I7,r7,q7⟩:=q7;exact⟨x7,σ7,H7,I7.mS,r7,q7⟩
end
theorem IQ{K:W.Frag}{a:Addr}{xs:List V}{g:TG}{tb:TS}{D:Ends}{σ:St}{H:Hp}(Pv:Nat->St->Hp->Prop)(h0:Pv 0 σ H)(hl:∀ i σ H,i<=xs.length->Pv i σ H->SqL K H a xs)
  (hs:∀ i x σ H,xs[i]? = some x->Pv i σ H->g x σ H fun σ2 H2=>tb { D with nx:=Pv (i+1),ct:=Pv (i+1),bk:=D.nx } σ2 H2) (hd:∀ σ H,Pv xs.length σ H->D.nx σ H) :
  ∃ W:Nat->Nat->St->Hp->Prop,(∃ m,W 0 m σ H)/\∀ i m σ H,W i m σ H ->
   ((Itl K a).stop i H/\D.nx σ H)\/((Itl K a).go i H/\∃ N:St->Hp->Prop,(∀ σ' H',N σ' H'->∃ m',m'<m/\W (i+1) m' σ' H')/\∀ x H',(Itl K a).yld i H x H'->g x σ H' fun σ2 H2=>tb { D with nx:=N,ct:=N,bk:=D.nx } σ2 H2):=by
 refine⟨fun i m σ H=>m=xs.length - i/\i<=xs.length/\Pv i σ H,⟨xs.length,by simp,Nat.zero_le _,h0⟩,?_⟩
 rintro i m σ H ⟨rfl,hi,p⟩
 have q:=hl i σ H hi p;by_cases hlt:i<xs.length
 ·refine .inr ⟨⟨xs,xs[i],q,by simp[hlt]⟩,Pv (i+1),fun σ' H' p'=>⟨xs.length - (i+1),by omega,rfl,hlt,p'⟩,fun x H' y=>?_⟩
  obtain⟨e,y⟩:=y;subst e;exact hs i x σ _ (y xs q) p
 ·have e:i=xs.length:=by omega
  subst e;exact .inl ⟨⟨xs,q,Nat.le_refl _⟩,hd σ H p⟩
abbrev R2:=V->V->Hp->VK->Prop
def OpR(X:Cx)(f:Value->Value->Sem Value)(r:R2):Prop :=
 ∀(pins:List (Addr×Obj))(s:Shared)(σ:St)(H:Hp)(x y:V)(v u:Value)(Q:VK),Inv X pins σ H s->RelV x v->RelV y u->r x y H Q ->
  wpAny (model X.prog X.w) X.A (f v u) (EP X pins σ Q) X.xe s
def UnR(X:Cx)(f:Value->Sem Value)(r:V->Hp->VK->Prop):Prop :=
 ∀(pins:List (Addr×Obj))(s:Shared)(σ:St)(H:Hp)(x:V)(v:Value)(Q:VK),Inv X pins σ H s->RelV x v->r x H Q ->
  wpAny (model X.prog X.w) X.A (f v) (EP X pins σ Q) X.xe s
def c7(X:Cx)(f:Value)(r:List V->Hp->VK->Prop):Prop :=
 ∀(pins:List (Addr×Obj))(s:Shared)(σ:St)(H:Hp)(xs:List V)(us:List Value)(Q:VK),Inv X pins σ H s->Vals xs us->r xs H Q ->
  wpAny (model X.prog X.w) X.A (call f us) (EP X pins σ Q) X.xe s
def Tw(X:Cx)(r:V->Hp ->(Bool->Hp->Prop)->Prop):Prop :=
 ∀(pins:List (Addr×Obj))(s:Shared)(σ:St)(H:Hp)(x:V)(v:Value)(Q:Bool->Hp->Prop),Inv X pins σ H s->RelV x v->r x H Q ->
  wpAny (model X.prog X.w) X.A (truthy v) (TP X pins σ Q) X.xe s
def tOp(r:R2)(ta tb:TE):TE:=fun σ H Q=>ta σ H fun x H1=>tb σ H1 fun y H2=>r x y H2 Q
def tUn(r:V->Hp->VK->Prop)(ta:TE):TE:=fun σ H Q=>ta σ H fun x H1=>r x H1 Q
def rI(C:Int->Int->Prop)(g:Int->Int->V):R2:=fun x y H Q=>∃ i j,x = .int i/\y = .int j/\C i j/\Q (g i j) H
def rI0(g:Int->Int->V):R2:=fun x y H Q=>∃ i j,x = .int i/\y = .int j/\Q (g i j) H
def rU(g:Int->V):V->Hp->VK->Prop:=fun x H Q=>∃ i,x = .int i/\Q (g i) H
section
variable{X:Cx}{a b c:Expr}{ta tb tc:TE}{pos:Pos}
theorem Py(ha:PE X a ta)(hb:PE X b tb){pins:List (Addr×Obj)}{s:Shared}{σ:St}{H:Hp}{R:V->V->Hp->Prop}(I:Inv X pins σ H s)
  (h:ta σ H fun x H1=>tb σ H1 fun y H2=>R x y H2) {Q:Value->Shared->Prop} {f:Value->Value->Sem Value}
  (hf:∀ v u s2 x y H2,Inv X pins σ H2 s2->RelV x v->RelV y u->R x y H2->wpAny (model X.prog X.w) X.A (f v u) Q X.xe s2) :
  wpAny (model X.prog X.w) X.A (eval a X.env) (fun v s₁=>wpAny (model X.prog X.w) X.A (eval b X.env) (fun u s₂=>wpAny (model X.prog X.w) X.A (f v u) Q X.xe s₂) X.xe s₁) X.xe s:=by
 refine thn (ha pins s σ H _ I h) fun v s1 hPP=>?_
 obtain⟨x,H1,I1,r1,q1⟩:=hPP;refine thn (hb pins s1 σ H1 _ I1 q1) fun u s2 hPP=>?_
 obtain⟨y,H2,I2,r2,q2⟩:=hPP;exact hf v u s2 x y H2 I2 r1 r2 q2
theorem dc{op:Operator}{r:R2}(ho:OpR X (binaryOp op) r)(ha:PE X a ta)(hb:PE X b tb):PE X (.BinOp a op b pos) (tOp r ta tb):=by
 intro pins s σ H Q I h;exact wpAny_BinOp (Py ha hb I h fun v u s2 x y H2 I2 rx ry q=>ho pins s2 σ H2 x y v u Q I2 rx ry q)
theorem Hi{op:UnaryOp}{r:V->Hp->VK->Prop}(ho:UnR X (unaryOp op) r)(ha:PE X a ta):PE X (.UnaryOp op a pos) (tUn r ta):=by
 intro pins s σ H Q I h;exact UnaryOp_ (thn (ha pins s σ H _ I h) fun v s1 ⟨x,H1,I1,r1,q1⟩=>ho pins s1 σ H1 x v Q I1 r1 q1)
theorem opI{f:Value->Value->Sem Value}{C:Int->Int->Prop}{g:Int->Int->Int}
  (rule:∀(i j:Int)(t u:Tok)(s:Shared)(Q:Value->Shared->Prop)(E:Value->Shared->Prop),C i j->Q (.int (g i j) s.toks) { s with toks:=s.toks+1 }->wpAny (model X.prog X.w) X.A (f (.int i t) (.int j u)) Q E s) :
  OpR X f (rI C fun i j=>.int (g i j)):=by
 intro pins s σ H x y v u Q I rx ry h;obtain⟨i,j,rfl,rfl,hc,q⟩:=h;obtain⟨t,rfl⟩:=rx;obtain⟨t',rfl⟩:=ry;exact rule i j t t' s _ _ hc ⟨.int (g i j),H,I.tok _,⟨_,rfl⟩,q⟩
theorem Rh{f:Value->Value->Sem Value}{g:Int->Int->Int}
  (rule:∀(i j:Int)(t u:Tok)(s:Shared)(Q:Value->Shared->Prop)(E:Value->Shared->Prop),Q (.int (g i j) s.toks) { s with toks:=s.toks+1 }->wpAny (model X.prog X.w) X.A (f (.int i t) (.int j u)) Q E s) :
  OpR X f (rI0 fun i j=>.int (g i j)):=by
 intro pins s σ H x y v u Q I rx ry h;obtain⟨i,j,rfl,rfl,q⟩:=h;obtain⟨t,rfl⟩:=rx;obtain⟨t',rfl⟩:=ry;exact rule i j t t' s _ _ ⟨.int (g i j),H,I.tok _,⟨_,rfl⟩,q⟩
theorem Lh{f:Value->Value->Sem Value}{g:Int->Int->Bool}
  (rule:∀(i j:Int)(t u:Tok)(s:Shared)(Q:Value->Shared->Prop)(E:Value->Shared->Prop),Q (.bool (g i j)) s->wpAny (model X.prog X.w) X.A (f (.int i t) (.int j u)) Q E s) :
  OpR X f (rI0 fun i j=>.bl (g i j)):=by
 intro pins s σ H x y v u Q I rx ry h;obtain⟨i,j,rfl,rfl,q⟩:=h;obtain⟨t,rfl⟩:=rx;obtain⟨t',rfl⟩:=ry;exact rule i j t t' s _ _ ⟨.bl (g i j),H,I,rfl,q⟩
def TM(i j:Int):Prop:=0<=j/\j<=1000000/\i.natAbs<2 ^ 64
def JK(i j:Int):Prop:=(-(2 ^ 64)<i/\i<2 ^ 64)\/(-(2 ^ 64)<j/\j<2 ^ 64)
theorem JK.ok{i j:Int}(h:JK i j):IntMulOk i j:=by
 rcases h with⟨h1,h2⟩ |⟨h1,h2⟩
 ·exact .of_left (intBits_le_64 h1 h2)
 ·exact .of_right (intBits_le_64 h1 h2)
theorem oQ:OpR X (binaryOp .Add) (rI0 fun i j=>.int (i+j)):=Rh fun _ _ _ _ _ _ _ q=>add_int q
theorem Hw:OpR X (binaryOp .Sub) (rI0 fun i j=>.int (i - j)):=Rh fun _ _ _ _ _ _ _ q=>sub_int q
theorem mv:OpR X (binaryOp .Mult) (rI JK fun i j=>.int (i*j)):=opI fun _ _ _ _ _ _ _ hc q=>mul_int q hc.ok
theorem iV:OpR X (binaryOp .Mod) (rI (fun _ j=>0<j) fun i j=>.int (i % j)):=opI fun i j _ _ _ _ _ hc q=>by
 have h1:(0:Int)<j:=hc;exact mod_int' (by omega) (by rw[Int.fmod_eq_emod_of_nonneg i (by omega)];exact q)
theorem Ov:OpR X (binaryOp .Pow) (rI TM fun i j=>.int (i ^ j.toNat)):=opI fun _ _ _ _ _ _ _ hc q=>pow_int_small hc.1 hc.2.1 hc.2.2 q
theorem unI{f:Value->Sem Value}{g:Int->Int}
  (rule:∀(i:Int)(t:Tok)(s:Shared)(Q:Value->Shared->Prop)(E:Value->Shared->Prop),Q (.int (g i) s.toks) { s with toks:=s.toks+1 }->wpAny (model X.prog X.w) X.A (f (.int i t)) Q E s) :
  UnR X f (rU fun i=>.int (g i)):=by
 intro pins s σ H x v Q I rx h;obtain⟨i,rfl,q⟩:=h;obtain⟨t,rfl⟩:=rx;exact rule i t s _ _ ⟨.int (g i),H,I.tok _,⟨_,rfl⟩,q⟩
theorem AR:UnR X (unaryOp .USub) (rU fun i=>.int (-i)):=unI fun _ _ _ _ _ q=>neg_int q
end
def Gq:V->V->Bool
 | .non,.non=>true | .non,.int _=>true | .int _,.non=>true | .non,.bl _=>true | .bl _,.non=>true | .non,.str _=>true | .str _,.non=>true
 | .int _,.int _=>true | .bl _,.bl _=>true | .str _,.str _=>true | .byt _,.byt _=>true
 | .int _,.str _=>true | .str _,.int _=>true | .bl _,.str _=>true | .str _,.bl _=>true
 | _,_=>false
def rEq:R2:=fun x y H Q=>Gq x y=true/\Q (.bl (decide (x=y))) H
def rNe:R2:=fun x y H Q=>Gq x y=true/\Q (.bl (!decide (x=y))) H
theorem De{i j:Int}:decide (V.int i=V.int j) =(i==j):=by
 rw[Bool.eq_iff_iff];simp
theorem I0{i j:Bool}:decide (V.bl i=V.bl j) =(i==j):=by
 rw[Bool.eq_iff_iff];simp
theorem Dd{i j:Str}:decide (V.str i=V.str j) =(i==j):=by
 rw[Bool.eq_iff_iff];simp
theorem Df{i j:Array UInt8}:decide (V.byt i=V.byt j) =(i.toList==j.toList):=by
 rw[Bool.eq_iff_iff];cases i;cases j;simp
section
variable{X:Cx}{a b c:Expr}{ta tb tc:TE}{pos:Pos}
theorem bb{pins:List (Addr×Obj)}{σ:St}{H:Hp}{s:Shared}{Q:VK}{k k':Bool}(I:Inv X pins σ H s)(q:Q (.bl k) H)(e:k=k'):EP X pins σ Q (.bool k') s:=by
 subst e;exact⟨.bl k,H,I,rfl,q⟩
theorem vV:OpR X (compareOp .Eq) rEq:=by
 intro pins s σ H x y v u Q I rx ry h;obtain⟨hs,q⟩:=h;cases x with
 | non =>
  cases rx;cases y with
  | non=>cases ry;exact PySem.EqNone.eq_none_none (bb I q (by simp))
  | bl j=>cases ry;exact PySem.EqNone.eq_none_bool (bb I q (by simp))
  | int j=>obtain⟨t',rfl⟩:=ry;exact PySem.EqNone.eq_none_int (bb I q (by simp))
  | str j=>obtain⟨t',rfl⟩:=ry;exact PySem.EqNone.eq_none_str (bb I q (by simp))
  | _=>exact absurd (show false=true from hs) Bool.false_ne_true
 | bl i =>
  cases rx;cases y with
  | non=>cases ry;exact PySem.EqNone.eq_bool_none (bb I q (by simp))
  | bl j=>cases ry;exact eq_bool (bb I q I0)
  | str j=>obtain⟨t',rfl⟩:=ry;exact PySem.EqMixed.eq_bool_str (bb I q (by simp))
  | _=>exact absurd (show false=true from hs) Bool.false_ne_true
 | int i =>
  obtain⟨t,rfl⟩:=rx;cases y with
  | non=>cases ry;exact PySem.EqNone.eq_int_none (bb I q (by simp))
  | int j=>obtain⟨t',rfl⟩:=ry;exact eq_int (bb I q De)
  | str j=>obtain⟨t',rfl⟩:=ry;exact PySem.EqMixed.eq_int_str (bb I q (by simp))
  | _=>exact absurd (show false=true from hs) Bool.false_ne_true
 | str i =>
  obtain⟨t,rfl⟩:=rx;cases y with
  | non=>cases ry;exact PySem.EqNone.eq_str_none (bb I q (by simp))
  | bl j=>cases ry;exact PySem.EqMixed.eq_str_bool (bb I q (by simp))
  | int j=>obtain⟨t',rfl⟩:=ry;exact PySem.EqMixed.eq_str_int (bb I q (by simp))
  | str j=>obtain⟨t',rfl⟩:=ry;exact eq_str (bb I q Dd)
  | _=>exact absurd (show false=true from hs) Bool.false_ne_true
 | byt i =>
  obtain⟨t,rfl⟩:=rx;cases y with
  | byt j=>obtain⟨t',rfl⟩:=ry;exact W.eq_bytes (bb I q Df)
  | _=>exact absurd (show false=true from hs) Bool.false_ne_true
 | _=>cases y <;> exact absurd (show false=true from hs) Bool.false_ne_true
theorem pS:OpR X (compareOp .NotEq) rNe:=by
 intro pins s σ H x y v u Q I rx ry h;obtain⟨hs,q⟩:=h;cases x with
 | non =>
  cases rx;cases y with
  | non=>cases ry;exact PySem.EqNone.ne_none_none (bb I q (by simp))
  | bl j=>cases ry;exact PySem.EqNone.ne_none_bool (bb I q (by simp))
  | int j=>obtain⟨t',rfl⟩:=ry;exact PySem.EqNone.ne_none_int (bb I q (by simp))
  | str j=>obtain⟨t',rfl⟩:=ry;exact PySem.EqNone.ne_none_str (bb I q (by simp))
  | _=>exact absurd (show false=true from hs) Bool.false_ne_true
 | bl i =>
  cases rx;cases y with
  | non=>cases ry;exact PySem.EqNone.ne_bool_none (bb I q (by simp))
  | bl j=>cases ry;exact ne_bool (bb I q (congrArg not I0))
  | str j=>obtain⟨t',rfl⟩:=ry;exact PySem.EqMixed.ne_bool_str (bb I q (by simp))
  | _=>exact absurd (show false=true from hs) Bool.false_ne_true
 | int i =>
  obtain⟨t,rfl⟩:=rx;cases y with
  | non=>cases ry;exact PySem.EqNone.ne_int_none (bb I q (by simp))
  | int j=>obtain⟨t',rfl⟩:=ry;exact ne_int (bb I q (congrArg not De))
  | str j=>obtain⟨t',rfl⟩:=ry;exact PySem.EqMixed.ne_int_str (bb I q (by simp))
  | _=>exact absurd (show false=true from hs) Bool.false_ne_true
 | str i =>
  obtain⟨t,rfl⟩:=rx;cases y with
  | non=>cases ry;exact PySem.EqNone.ne_str_none (bb I q (by simp))
  | bl j=>cases ry;exact PySem.EqMixed.ne_str_bool (bb I q (by simp))
  | int j=>obtain⟨t',rfl⟩:=ry;exact PySem.EqMixed.ne_str_int (bb I q (by simp))
  | str j=>obtain⟨t',rfl⟩:=ry;exact ne_str (bb I q (congrArg not Dd))
  | _=>exact absurd (show false=true from hs) Bool.false_ne_true
 | byt i =>
  obtain⟨t,rfl⟩:=rx;cases y with
  | byt j=>obtain⟨t',rfl⟩:=ry;exact W.ne_bytes (bb I q (congrArg not Df))
  | _=>exact absurd (show false=true from hs) Bool.false_ne_true
 | _=>cases y <;> exact absurd (show false=true from hs) Bool.false_ne_true
theorem Rf:OpR X (compareOp .Lt) (rI0 fun i j=>.bl (decide (i<j))):=Lh fun _ _ _ _ _ _ _ q=>lt_int q
theorem Rg:OpR X (compareOp .LtE) (rI0 fun i j=>.bl (decide (i<=j))):=Lh fun _ _ _ _ _ _ _ q=>le_int q
theorem pT:OpR X (compareOp .Gt) (rI0 fun i j=>.bl (decide (j<i))):=Lh fun _ _ _ _ _ _ _ q=>gt_int q
theorem Hy:OpR X (compareOp .GtE) (rI0 fun i j=>.bl (decide (j<=i))):=Lh fun _ _ _ _ _ _ _ q=>ge_int q
theorem D9:OpR X (compareOp .In) (fun x y H Q=>∃ i j,x = .str i/\y = .str j/\Q (.bl (!(Builtin.Str.occurrences j i 0 j.length 1).isEmpty)) H):=by
 intro pins s σ H x y v u Q I rx ry h;obtain⟨i,j,rfl,rfl,q⟩:=h;obtain⟨t,rfl⟩:=rx;obtain⟨t',rfl⟩:=ry;exact in_str (bb I q rfl)
theorem sA:OpR X (compareOp .Is) (fun x y H Q=>y = .non/\Q (.bl (decide (x = .non))) H):=by
 intro pins s σ H x y v u Q I rx ry h;obtain⟨rfl,q⟩:=h;cases ry;refine is_none_gen (bb I q ?_);cases x <;> first
  | (cases rx;rfl)
  | (obtain⟨t,rfl⟩:=rx;rfl)
theorem xp:OpR X (compareOp .NotIn) (fun x y H Q=>∃ i j,x = .str i/\y = .str j/\Q (.bl (!(!(Builtin.Str.occurrences j i 0 j.length 1).isEmpty))) H):=by
 intro pins s σ H x y v u Q I rx ry h;obtain⟨i,j,rfl,rfl,q⟩:=h;obtain⟨t,rfl⟩:=rx;obtain⟨t',rfl⟩:=ry;exact notIn_str (bb I q rfl)
theorem OpR.or{f:Value->Value->Sem Value}{r r':R2}(h:OpR X f r)(h':OpR X f r'):OpR X f (fun x y H Q=>r x y H Q\/r' x y H Q):=by
 intro pins s σ H x y v u Q I rx ry q;rcases q with q|q
 ·exact h pins s σ H x y v u Q I rx ry q
 ·exact h' pins s σ H x y v u Q I rx ry q
theorem aG(b:Expr){op:CmpOp}(h:op ≠ .In:=by decide)(h2:op ≠ .NotIn:=by decide):behindInMarks op b=false:=by
 have e1:(op==CmpOp.In)=false:=by cases op <;> first|rfl|exact absurd rfl h
 have e2:(op==CmpOp.NotIn)=false:=by cases op <;> first|rfl|exact absurd rfl h2
 cases b <;> simp[behindInMarks,e1,e2]
theorem Lc{op:CmpOp}{r:R2}(ho:OpR X (compareOp op) r)(ha:PE X a ta)(hb:PE X b tb)(hm:behindInMarks op b=false):PE X (.Compare a [op] [b] pos) (tOp r ta tb):=by
 intro pins s σ H Q I h;exact wpAny_Compare1 (Py ha hb I h fun v u s2 x y H2 I2 rx ry q=>ho pins s2 σ H2 x y v u Q I2 rx ry q) hm
def FP(t:TE):TT:=fun σ H Q=>t σ H fun x H'=>∃ k,x = .bl k/\Q k H'
theorem ed{op:CmpOp}{r:R2}(ho:OpR X (compareOp op) r)(ha:PE X a ta)(hb:PE X b tb)(hm:behindInMarks op b=false):PT X (.Compare a [op] [b] pos) (FP (tOp r ta tb)):=by
 intro pins s σ H Q I h;refine wpAny_isTrue_Compare1 (thn (ha pins s σ H _ I h) fun v s1 ⟨x,H1,I1,r1,q1⟩=>thn (hb pins s1 σ H1 _ I1 q1) fun u s2 ⟨y,H2,I2,r2,q2⟩ =>
  thn (ho pins s2 σ H2 x y v u _ I2 r1 r2 q2) fun c s3 ⟨z,H3,I3,r3,k,e,q3⟩=>?_) hm
 subst e;cases r3;exact wpAny_truthy_bool ⟨H3,I3,q3⟩
def MA(K:W.Frag)(x:V)(H:Hp)(k:Bool):Prop :=
 match x with
 | .non=>k=false
 | .bl b=>k=b
 | .int i=>k =(i != 0)
 | .str y=>y.length<=sizeLine/\k =((y.length:Int) != 0)
 | .byt y=>y.size<=sizeLine/\k =((y.size:Int) != 0)
 | .ref p=>(∃ xs,SqL K H p xs/\k = !xs.isEmpty)\/(∃ xs,SqT K H p xs/\k = !xs.isEmpty)\/∃ kvs,H p=some (.dK kvs)/\k = !kvs.isEmpty
 | _=>False
theorem BH{κ:Type}{kvs:List (κ×V)}{vs:List (κ×Value)}(r:KV kvs vs):(!vs.isEmpty) = !kvs.isEmpty:=by
 cases r <;> rfl
theorem tm{xs:List V}{its:List Value}(r:Vals xs its):(!its.toArray.isEmpty) = !xs.isEmpty:=by
 cases r <;> simp
theorem mx:(sizeLine:Nat)<2 ^ 63:=by rw[sizeLine_eq];decide
theorem Nq:Tw X (fun x H Q=>∃ k,MA X.K x H k/\Q k H):=by
 intro pins s σ H x v Q I rx h;obtain⟨k,e,q⟩:=h;have hl:=mx;have hs:sizeLine=16777216:=sizeLine_eq;cases x with
 | non =>
  cases rx;have e':k=false:=e;subst e';exact truthy_none ⟨H,I,q⟩
 | bl b =>
  cases rx;have e':k=b:=e;subst e';exact wpAny_truthy_bool ⟨H,I,q⟩
 | int i =>
  obtain⟨t,rfl⟩:=rx;have e':k =(i != 0):=e;subst e';exact PySem.P.truthy_int ⟨H,I,q⟩
 | str y =>
  obtain⟨t,rfl⟩:=rx;obtain⟨hy,e'⟩:y.length<=sizeLine/\k =((y.length:Int) != 0):=e;subst e';exact PySem.P.truthy_str (by omega) ⟨H,I.tok _,q⟩
 | byt y =>
  obtain⟨t,rfl⟩:=rx;obtain⟨hy,e'⟩:y.size<=sizeLine/\k =((y.size:Int) != 0):=e;subst e';exact W.truthy_bytes (by omega) ⟨H,I.tok _,q⟩
 | ref p =>
  cases rx;have e':(∃ xs,SqL X.K H p xs/\k = !xs.isEmpty)\/(∃ xs,SqT X.K H p xs/\k = !xs.isEmpty)\/∃ kvs,H p=some (.dK kvs)/\k = !kvs.isEmpty:=e
  rcases e' with⟨xs,hx,e'⟩ |⟨xs,hx,e'⟩ |⟨kvs,hx,e'⟩
  ·subst e';obtain⟨its,r,pl,hz⟩:=I.list hx;have hlen:=r.length;exact wpAny_truthy_list pl.isList (by simp only[List.size_toArray];omega) ⟨H,I.tok _,by rw[tm r];exact q⟩
  ·subst e';obtain⟨its,r,pl,hz⟩:=I.tuple hx;have hlen:=r.length;exact truthy_tuple pl (by simp only[List.size_toArray];omega) ⟨H,I.tok _,by rw[tm r];exact q⟩
  ·subst e';obtain⟨hz,hS,vs,r,m⟩:kvs.length<=sizeLine/\(p==sysModules)=false/\∃ vs,KV kvs vs/\s.heap.DictOf (bH X.prog X.w) p vs:=I.hok p _ hx
   have hlen:kvs.length=vs.length:=Paired.length r;exact wpAny_truthy_dict hS m (by omega) ⟨H,I.tok _,by rw[BH r];exact q⟩
 | _=>exact(show False from e).elim
theorem sd(ha:PE X a ta)(he:∀ whole,isTrue a X.env whole =(do let v <- whole;standAt a.pos;holding [v] (truthy v))) :
  PT X a (fun σ H Q=>ta σ H fun x H'=>∃ k,MA X.K x H' k/\Q k H'):=by
 intro pins s σ H Q I h;exact isTrue_plain (thn (ha pins s σ H _ I h) fun v s1 ⟨x,H1,I1,r1,q1⟩=>Nq pins s1 σ H1 x v Q I1 r1 q1) (he _)
theorem Bh:OpR X (binaryOp .Add) (fun x y H Q=>∃ i j,x = .str i/\y = .str j/\i.length+j.length<=sizeLine/\Q (.str (i++j)) H):=by
 intro pins s σ H x y v u Q I rx ry h;obtain⟨i,j,rfl,rfl,hz,q⟩:=h;obtain⟨t,rfl⟩:=rx;obtain⟨t',rfl⟩:=ry;exact add_str (fun t' tk=>⟨.str (i++j),H,I.tok _,⟨_,rfl⟩,q⟩) hz
theorem vals1{x:V}{us:List Value}(r:Vals [x] us):∃ u,us = [u]/\RelV x u:=by
 cases r with
 | cons r1 r2=>cases r2;exact⟨_,rfl,r1⟩
theorem vals2{x y:V}{us:List Value}(r:Vals [x,y] us):∃ u w',us = [u,w']/\RelV x u/\RelV y w':=by
 cases r with
 | cons r1 r2 =>
  cases r2 with
  | cons r3 r4=>cases r4;exact⟨_,_,rfl,r1,r3⟩
theorem pB(hc:X.calm=true):c7 X (.builtin "max") (fun xs H Q=>∃ i j,xs = [.int i,.int j]/\Q (.int (if j > i then j else i)) H):=by
 intro pins s σ H xs us Q I r h;obtain⟨i,j,rfl,q⟩:=h;obtain⟨u,w',rfl,⟨t,rfl⟩,⟨t',rfl⟩⟩:=vals2 r;refine max_two_ints (I.ok.hd hc) fun h' tk k=>⟨_,H,I.kept k,?_,q⟩
 by_cases hj:j > i
 ·rw[if_pos hj,if_pos hj];exact⟨_,rfl⟩
 ·rw[if_neg hj,if_neg hj];exact⟨_,rfl⟩
theorem Fb(hc:X.calm=true):c7 X (.builtin "min") (fun xs H Q=>∃ i j,xs = [.int i,.int j]/\Q (.int (if j<i then j else i)) H):=by
 intro pins s σ H xs us Q I r h;obtain⟨i,j,rfl,q⟩:=h;obtain⟨u,w',rfl,⟨t,rfl⟩,⟨t',rfl⟩⟩:=vals2 r;refine min_two_ints (I.ok.hd hc) fun h' tk k=>⟨_,H,I.kept k,?_,q⟩
 by_cases hj:j<i
 ·rw[if_pos hj,if_pos hj];exact⟨_,rfl⟩
 ·rw[if_neg hj,if_neg hj];exact⟨_,rfl⟩
theorem gc:c7 X (.type "int") (fun xs H Q=>(∃ i,xs = [.int i]/\Q (.int i) H)\/∃ k,xs = [.bl k]/\Q (.int (if k then 1 else 0)) H):=by
 intro pins s σ H xs us Q I r h;rcases h with⟨i,rfl,q⟩ |⟨k,rfl,q⟩
 ·obtain⟨u,rfl,t,rfl⟩:=vals1 r;exact call_int_int ⟨.int i,H,I,⟨_,rfl⟩,q⟩
 ·obtain⟨u,rfl,r1⟩:=vals1 r;cases r1;exact call_int_bool ⟨.int (if k then 1 else 0),H,I.tok _,⟨_,rfl⟩,q⟩
end
structure Ci(h:Heap)(x dx C:Addr)(mA:Str->Option Value):Prop where
 obj:h.get? x=some (W.instObj C dx)
 ns:h.Ns1 dx mA
 ne:dx≠x
theorem Ew{h:Heap}{dx:Addr}{mA:Str->Option Value}(n:h.Ns1 dx mA):∃ od,h.get? dx=some od/\∀ name,W.lookIn name od=some (mA name):=by
 obtain⟨o,es,ep,ho,hd,hk,_,hm⟩:=n;refine⟨o,ho,fun name=>?_⟩
 have e:=hm name;unfold nsFind findBy at e;rw[<- Array.find?_toList]at e;unfold W.lookIn;rw[hd];dsimp only
 split
 ·rename_i y q;rw[q]at e;exact congrArg some e
 ·rename_i q;rw[q]at e;have a:es.toList.any (·.refKey)=false:=by
   rw[List.any_eq_false];intro y hy;obtain⟨z,t,Pe⟩:=hk y (Array.mem_toList_iff.mp hy);simp[DictEntry.refKey,Pe]
  have a':¬ es.toList.any (·.refKey)=true:=by rw[a];exact Bool.false_ne_true
  rw[if_neg a'];exact congrArg some e
theorem Ci.look{h:Heap}{x dx C:Addr}{mA:Str->Option Value}(I:Ci h x dx C mA):∃ od,W.InstAt h x (W.instObj C dx) C (some od)/\∀ name,W.lookIn name od=some (mA name) :=
 let⟨od,ho,hl⟩:=Ew I.ns
 ⟨od,⟨I.obj,rfl,rfl,ho⟩,hl⟩
section
variable{prog:Program}{w:World}{A:Around}{E:Value->Shared->Prop}{s:Shared}{K:W.Frag}{x dx C f:Addr}{mA:Str->Option Value}{name:Str}{v:Value}
theorem get_map{expr:Bool}{Q:Value->Shared->Prop}(X:K.In s.heap)(I:Ci s.heap x dx C mA)(hg:W.plainGet K C name=true)(hh:W.hasDictIn K C=true)
  (ha:W.findIn K (.ref C) name=some none) (hv:mA name=some v) (hv':W.handedIn v=true) (h:Q v { s with toks:=s.toks+1 }) :
  wpAny (model prog w) A (getAttr (.ref x) name expr) Q E s:=by
 obtain⟨od,J,hl⟩:=I.look;exact W.get_value X J (W.plainGet_of hg).1 (W.findObj_own hh ha rfl (by rw[hl,hv])) hv' h
theorem IM{pl:Sem Bool}{Q:Value×List Value->Shared->Prop}(X:K.In s.heap)(I:Ci s.heap x dx C mA)(hg:W.plainGet K C name=true)
  (hf:W.findIn K (.ref C) name=some (some (.ref f))) (ht:W.isFn K (.ref f)=true) (hv:mA name=none) (h:Q (.ref f,[.ref x]) s) :
  wpAny (model prog w) A (getMethod (.ref x) name pl) Q E s:=by
 obtain⟨od,J,hl⟩:=I.look;exact W.method_fn X J (W.plainGet_of hg).1 (W.plainGet_of hg).2 hf (beq_iff_eq.mp ht) (by show(W.lookIn name od).map (·.isSome)=some false;rw[hl,hv];rfl) h
theorem Kr{ns:List Str}{Q:Unit->Shared->Prop}(X:K.In s.heap)(I:Ci s.heap x dx C mA)
  (hs:W.findIn K (.ref C) "__setattr__" = some (some (.builtin "object.__setattr__"))) (hp:W.plainOver K C=true) (ht:W.takerIn K C name=some none) (hh:W.hasDictIn K C=true)
  (hw:PySem.Within mA ns) (hsz:ns.length<=sizeLine)
  (h:∀ h',Ci h' x dx C (fun y=>if y=name then some v else mA y)->Heap.SameBut dx s.heap h'->Q () { s with heap:=h',toks:=s.toks+2 }) :
  wpAny (model prog w) A (setAttr (.ref x) name v) Q E s:=by
 obtain⟨od,J,hl⟩:=I.look;refine W.set_plain X J hs (W.osa_open (s:={ s with toks:=s.toks+1 }) (r:=none) X J hp ht fun b=>?_)
 obtain⟨cd,hc,hd'⟩:=W.any_some hh;have hx:s.heap.get? x=some ⟨.ref C,some dx,.plain,#[]⟩:=I.obj;refine wpAny_bind (wpAny_pure (wpAny_bind (wpAny_bind (wpAny_loadPart hx (wpAny_bind (W.Looks.here (s:={ s with toks:=s.toks+1 }) (W.looks_clsIn X hc) ?_))))))
 rw[hd'];refine wpAny_pure (a:=some dx) (wpAny_bind (wpAny_pure (wpAny_bind ?_)));refine wpAny_nsSet1 (s:={ s with toks:=s.toks+1 }) I.ns fun h' hn2 hs2=>?_
 obtain⟨oD,esD,epD,hoD,hdD,hcD⟩:=hn2.count (PySem.Within.cons name v hw);refine wpAny_bind (wpAny_lookBehind hoD (by rw[hdD];exact pastItsLine_dict (Nat.le_trans hcD (by rw[List.length_cons];omega))) ?_)
 exact wpAny_pure (h _ ⟨(hs2.2 _ (Ne.symm I.ne)).trans I.obj,hn2,I.ne⟩ hs2)
theorem HV{R:Result->Shared->Prop}{vs:List Value}{kw:List (Str×Value)}(X:K.In s.heap)(hm:W.makesIn K C=true)
  (hi:W.findIn K (.ref C) "__init__" = some (some (.ref f))) (hf:W.typeIn K (.ref f)=some (.type "function"))
  (h:codeAny (model prog w) (A.under (.builtin "type.__call__" ⟨.ref C::vs,kw⟩)) (.call (.ref f) ⟨.ref (s.heap.objs.size+1)::vs,kw⟩) (W.InitBack (s.heap.objs.size+1) R)
   { s with heap:=(s.heap.push W.emptyDict).push (W.instObj C s.heap.objs.size) }) :
  codeAny (model prog w) A (.call (.ref C) ⟨vs,kw⟩) R s:=by
 obtain⟨hh,g,d,t,os⟩:=s;exact W.make_core (W.makes_of X hm) (W.looks_findIn X hi) (fun self=>W.bind_fn X self hf) (.inl rfl) h
end
def fN(f:Str)(v:V):List (Str×V)->List (Str×V)
 | []=>[(f,v)]
 | (g,x)::r=>if g=f then(g,v)::r else(g,x)::fN f v r
theorem pW(f g:Str)(v:V):∀ fs:List (Str×V),(fN f v fs).lookup g=if g=f then some v else fs.lookup g
 | []=>by
  show List.lookup g [(f,v)]=_;by_cases h:g=f
  ·have hb:(g==f)=true:=beq_iff_eq.mpr h;simp only[List.lookup,hb,if_pos h]
  ·have hb:(g==f)=false:=beq_eq_false_iff_ne.mpr h;simp only[List.lookup,hb,if_neg h]
 | (k,x)::r=>by
  have ih:=pW f g v r;rw[show fN f v ((k,x)::r) =(if k=f then(k,v)::r else(k,x)::fN f v r)from rfl]
  by_cases hk:k=f
  ·rw[if_pos hk];by_cases h:g=k
   ·have hb:(g==k)=true:=beq_iff_eq.mpr h;simp only[List.lookup,hb,if_pos (h.trans hk)]
   ·have hb:(g==k)=false:=beq_eq_false_iff_ne.mpr h;simp only[List.lookup,hb,if_neg (fun e:g=f=>h (e.trans hk.symm))]
  ·rw[if_neg hk];by_cases h:g=k
   ·have hb:(g==k)=true:=beq_iff_eq.mpr h;simp only[List.lookup,hb,if_neg (fun e:g=f=>hk (h.symm.trans e))]
   ·have hb:(g==k)=false:=beq_eq_false_iff_ne.mpr h;simp only[List.lookup,hb];exact ih
theorem oZ(f:Str)(v:V):∀ fs:List (Str×V),f∈(fN f v fs).map (·.1)/\∀ g,g∈fs.map (·.1)->g∈(fN f v fs).map (·.1)
 | []=>⟨by simp[fN],fun g h=>by simp at h⟩
 | (k,x)::r=>by
  obtain⟨i1,i2⟩:=oZ f v r;rw[show fN f v ((k,x)::r) =(if k=f then(k,v)::r else(k,x)::fN f v r)from rfl]
  by_cases hk:k=f
  ·rw[if_pos hk];subst hk;exact⟨by simp,fun g h=>by simpa using h⟩
  ·rw[if_neg hk];refine⟨?_,fun g h=>?_⟩
   ·rw[List.map_cons];exact List.mem_cons_of_mem _ i1
   ·rw[List.map_cons]at h ⊢;rcases List.mem_cons.mp h with e|e
    ·exact List.mem_cons.mpr (.inl e)
    ·exact List.mem_cons_of_mem _ (i2 g e)
theorem pX(f:Str)(v:V):∀ fs:List (Str×V),(fN f v fs).length<=fs.length+1
 | []=>by simp[fN]
 | (k,x)::r=>by
  have ih:=pX f v r;rw[show fN f v ((k,x)::r) =(if k=f then(k,v)::r else(k,x)::fN f v r)from rfl]
  by_cases hk:k=f
  ·rw[if_pos hk,List.length_cons,List.length_cons];omega
  ·rw[if_neg hk,List.length_cons,List.length_cons];omega
theorem iE.some_of{v:V}{o:Option Value}(r:iE (some v) o):∃ u,o=some u/\RelV v u:=by
 cases o with
 | none=>exact(show False from r).elim
 | some u=>exact⟨u,rfl,r⟩
theorem iE.none_of{o:Option Value}(r:iE none o):o=none:=by
 cases o with
 | none=>rfl
 | some u=>exact(show False from r).elim
theorem EK{v:V}{u:Value}(r:RelV v u):W.handedIn u=true:=by
 cases v with
 | non=>cases(show u=Value.none from r);rfl
 | bl b=>cases(show u=Value.bool b from r);rfl
 | int i=>obtain⟨t,e⟩:=(show ∃ t,u=Value.int i t from r);cases e;rfl
 | str x=>obtain⟨t,e⟩:=(show ∃ t,u=Value.str x t from r);cases e;rfl
 | byt b=>obtain⟨t,e⟩:=(show ∃ t,u=Value.bytes b t from r);cases e;rfl
 | flt b=>obtain⟨t,e⟩:=(show ∃ t,u=Value.float b t from r);cases e;rfl
 | ref a=>cases(show u=Value.ref a from r);rfl
 | ty n=>cases(show u=Value.type n from r);rfl
section
variable{P:Program}{w:World}{H H':Hp}{h h':Heap}{a C dx:Addr}{fs fs':List (Str×V)}
theorem qW(hok:HOk P w H h)(e:H a=some (.ins C dx fs)):∃ mA,Ci h a dx C mA/\(∀ f,iE (fs.lookup f) (mA f))/\PySem.Within mA (fs.map (·.1))/\fs.length<=1000/\H dx=some (.own a):=by
 obtain⟨d,z,ne,ob,mA,n,r,q⟩:=(show bK P w H h a (.ins C dx fs)from hok a _ e);exact⟨mA,⟨ob,n,ne⟩,r,q,z,d⟩
end
structure Cls(K:W.Frag)(C:Addr):Prop where
 pg:W.plainGet K C Str.empty=true
 hd:W.hasDictIn K C=true
 po:W.plainOver K C=true
 sa:W.findIn K (.ref C) "__setattr__" = some (some (.builtin "object.__setattr__"))
theorem Cls.get{K:W.Frag}{C:Addr}(c:Cls K C)(f:Str):W.plainGet K C f=true:=c.pg
def hJ(K:W.Frag)(C:Addr)(f:Str):Prop:=W.findIn K (.ref C) f=some none
theorem hJ.PY{K:W.Frag}{C:Addr}{f:Str}(n:hJ K C f):W.takerIn K C f=some none:=by
 unfold W.takerIn;rw[show W.findIn K (.ref C) f=some none from n];rfl
structure Meth(K:W.Frag)(C:Addr)(m:Str)(f:Addr):Prop where
 at_:W.findIn K (.ref C) m=some (some (.ref f))
 fn:W.isFn K (.ref f)=true
 kp:W.keepIn K (.ref f)=true
section
variable{X:Cx}{pins:List (Addr×Obj)}{σ:St}{H:Hp}{s:Shared}{a C dx:Addr}{fs:List (Str×V)}{f:Str}{v:V}{A:Around}{E:Value->Shared->Prop}
theorem tG{b:Bool}{Q:Value->Shared->Prop}(I:Inv X pins σ H s)(e:H a=some (.ins C dx fs))(c:Cls X.K C)(n:hJ X.K C f)(l:fs.lookup f=some v)
  (h:∀ u s',Inv X pins σ H s'->RelV v u->Q u s'):wpAny (model X.prog X.w) A (getAttr (.ref a) f b) Q E s:=by
 obtain⟨mA,O,r,_,_,_⟩:=qW I.hok e;obtain⟨u,hu,ru⟩:=iE.some_of (v:=v) (o:=mA f) (by rw[<- l];exact r f)
 exact get_map I.kIn O (c.get f) c.hd n hu (EK ru) (h u _ (I.tok _) ru)
theorem tF{m:Str}{g:Addr}{pl:Sem Bool}{Q:Value×List Value->Shared->Prop}(I:Inv X pins σ H s)(e:H a=some (.ins C dx fs))(c:Cls X.K C)(k:Meth X.K C m g)(l:fs.lookup m=none)
  (h:Q (.ref g,[.ref a]) s):wpAny (model X.prog X.w) A (getMethod (.ref a) m pl) Q E s:=by
 obtain⟨mA,O,r,_,_,_⟩:=qW I.hok e;have hn:mA m=none:=iE.none_of (by rw[<- l];exact r m)
 exact IM I.kIn O (c.get m) k.at_ k.fn hn h
theorem rQ{y:V}{u:Value}{Q:Unit->Shared->Prop}(I:Inv X pins σ H s)(e:H a=some (.ins C dx fs))(c:Cls X.K C)(n:hJ X.K C f)(hl:fs.length<1000)(ry:RelV y u)
  (h:∀ s',Inv X pins σ (upd H a (.ins C dx (fN f y fs))) s'->Q () s'):wpAny (model X.prog X.w) A (setAttr (.ref a) f u) Q E s:=by
 obtain⟨mA,O,r,wi,_,ho⟩:=qW I.hok e;have hz:(fs.map (·.1)).length<=sizeLine:=by rw[List.length_map,sizeLine_eq];omega
 refine Kr I.kIn O c.sa c.po n.PY c.hd wi hz fun h' O' sb=>h _ ?_
 have hd:∃ o,h'.get? dx=some o:=let⟨o,_,_,e',_⟩:=O'.ns;⟨o,e'⟩
 refine I.write (x:=a) (e:=dx) (by rw[e];exact True.intro) (.inr ho) (fun b q hb z=>(sb.2 b hb).trans z) hd ?_
 refine⟨by rw[ag O.ne];exact ho,?_,O.ne,O'.obj,_,O'.ns,fun g=>?_,fun g hg=>?_⟩
 ·have:=pX f y fs;omega
 ·show iE ((fN f y fs).lookup g) (if g=f then some u else mA g)
  rw[pW];by_cases q:g=f
  ·rw[if_pos q,if_pos q];exact ry
  ·rw[if_neg q,if_neg q];exact r g
 ·by_cases q:g=f
  ·rw[q];exact(oZ f y fs).1
  ·refine(oZ f y fs).2 g (wi g fun z=>hg ?_)
   show(if g=f then some u else mA g)=none
   rw[if_neg q];exact z
theorem Inv.made(I:Inv X pins σ H s):Inv X pins σ (upd (upd H s.heap.objs.size (.own (s.heap.objs.size+1))) (s.heap.objs.size+1) (.ins C s.heap.objs.size []))
  { s with heap:=(s.heap.push W.emptyDict).push (W.instObj C s.heap.objs.size) }:=by
 have e1:(s.heap.push W.emptyDict).get? s.heap.objs.size=some W.emptyDict:=Heap.get?_push_size s.heap rfl;have e2:((s.heap.push W.emptyDict).push (W.instObj C s.heap.objs.size)).get? (s.heap.objs.size+1)=some (W.instObj C s.heap.objs.size):=by
  have:=Heap.get?_push_size (s.heap.push W.emptyDict) (o:=W.instObj C s.heap.objs.size) rfl
  rwa [Heap.size_push]at this
 have e3:(s.heap.push W.emptyDict).Ns s.heap.objs.size (fun _=>none):=⟨W.emptyDict,#[],_,e1,rfl,(fun e he=>absurd he (by simp)),fun _=>rfl⟩
 have I1:=I.laid (a:=s.heap.objs.size) (o:=.own (s.heap.objs.size+1)) (h':=s.heap.push W.emptyDict) (t':=s.toks) (fun b u q=>Heap.get?_push_of_some _ q) (Nat.le_refl _) ⟨_,e1⟩
 refine I1.laid (a:=s.heap.objs.size+1) (o:=.ins C s.heap.objs.size []) (t':=s.toks) (fun b u q=>Heap.get?_push_of_some _ q) (Nat.le_of_eq (Heap.size_push _ _)) ?_
 have ne:s.heap.objs.size≠s.heap.objs.size+1:=Nat.ne_of_lt (Nat.lt_succ_self _);refine⟨by rw[ag ne,ao],Nat.zero_le _,ne,e2,fun _=>none,(Heap.Ns1.of_empty e3).at fun o q=>Heap.get?_push_of_some _ q,fun _=>True.intro,fun y hy=>absurd rfl hy⟩
theorem Mv{prog:Program}{w:World}{env:Env}{e:Expr}{f:Str}{pos:Pos}{s:Shared}{Q:Value->Shared->Prop}(hb:attributeBase e f env (eval e env)=eval e env)
  (h:wpAny (model prog w) A (eval e env) (fun o s₁=>wpAny (model prog w) A (getAttr o f true) Q E s₁) E s):wpAny (model prog w) A (eval (.Attribute e f pos) env) Q E s :=
 Attribute_any_ h (by rw[arm_eval_Attribute,hb])
end
def Sy(K:W.Frag)(ta:TE)(f:Str):TE:=fun σ H Q=>ta σ H fun x H1=>∃ a C dx fs v,x = .ref a/\H1 a=some (.ins C dx fs)/\Cls K C/\hJ K C f/\fs.lookup f=some v/\Q v H1
def SD(K:W.Frag)(ta tv:TE)(f:Str):TS:=fun D σ H=>tv σ H fun y H1=>ta σ H1 fun x H2=>∃ a C dx fs,x = .ref a/\H2 a=some (.ins C dx fs)/\Cls K C/\hJ K C f/\fs.length<1000 /\
 D.nx σ (upd H2 a (.ins C dx (fN f y fs)))
def Sn(X:Cx)(op:Operator)(rd:V->V->Hp->VK->Prop):Prop :=
 ∀(pins:List (Addr×Obj))(s:Shared)(σ:St)(H:Hp)(x y:V)(u v:Value)(Q:VK),Inv X pins σ H s->RelV x u->RelV y v->rd x y H Q->wpAny (model X.prog X.w) X.A (inplaceOp op u v) (EP X pins σ Q) X.xe s
def Ku(K:W.Frag)(ta tv:TE)(rd:V->V->Hp->VK->Prop)(f:Str):TS:=fun D σ H=>ta σ H fun x H1=>∃ a C dx fs v,x = .ref a/\H1 a=some (.ins C dx fs)/\Cls K C/\hJ K C f/\fs.lookup f=some v /\
 tv σ H1 fun y H2=>rd v y H2 fun z H3=>∃ dx' fs',H3 a=some (.ins C dx' fs')/\fs'.length<1000/\D.nx σ (upd H3 a (.ins C dx' (fN f z fs')))
section
variable{X:Cx}{o e value:Expr}{f:Str}{pos pos' PX:Pos}{ta tv:TE}
theorem fS(he:PE X e ta)(hb:attributeBase e f X.env (eval e X.env)=eval e X.env):PE X (.Attribute e f pos) (Sy X.K ta f):=by
 intro pins s σ H Q I h;refine Mv hb (thn (he pins s σ H _ I h) fun u s1 hPP=>?_)
 obtain⟨x,H1,I1,rx,a,C,dx,fs,v,ex,ea,c,n,l,q⟩:=hPP;subst ex;obtain rfl:u=Value.ref a:=rx;exact tG I1 ea c n l fun u' s2 I2 ru=>⟨v,H1,I2,ru,q⟩
theorem se(ha:PE X o ta)(hv:PE X value tv)(hs:swapsWith value (some (.Attribute o f pos')) pos.line X.env=pure false):PS X (.Assign [.Attribute o f pos'] value pos) (SD X.K ta tv f):=by
 intro pins s σ H D I h;refine plainObj_wpAny_Assign_Attribute (thn (hv pins s σ H _ I h) fun u s1 ⟨y,H1,I1,ry,q⟩=>thn (ha pins s1 σ H1 _ I1 q) fun ov s2 hPP=>?_) hs
 obtain⟨x,H2,I2,rx,a,C,dx,fs,ex,ea,c,n,l,q2⟩:=hPP;subst ex;obtain rfl:ov=Value.ref a:=rx;exact rQ I2 ea c n l ry fun s3 I3=>⟨σ,_,I3,q2⟩
theorem DV{op:Operator}{rd:V->V->Hp->VK->Prop}(ha:PE X o ta)(hv:PE X value tv)(hop:Sn X op rd):PS X (.AugAssign (.Attribute o f PX) op value pos) (Ku X.K ta tv rd f):=by
 intro pins s σ H D I h;refine wpAny_AugAssign_AttributeAny (thn (ha pins s σ H _ I h) fun ov s1 hPP=>?_)
 obtain⟨x,H1,I1,rx,a,C,dx,fs,v,ex,ea,c,n,l,q⟩:=hPP;subst ex;obtain rfl:ov=Value.ref a:=rx;refine tG I1 ea c n l fun u s2 I2 ru=>thn (hv pins s2 σ H1 _ I2 q) fun w3 s3 ⟨y,H2,I3,ry,q3⟩=>thn (hop pins s3 σ H2 v y u w3 _ I3 ru ry q3) fun w4 s4 hPP=>?_
 obtain⟨z,H3,I4,rz,dx',fs',ea',l',q4⟩:=hPP;exact rQ I4 ea' c n l' rz fun s5 I5=>⟨σ,_,I5,q4⟩
end
section
variable{X:Cx}{pins:List (Addr×Obj)}{σ:St}{H:Hp}{s:Shared}{A:Around}{E:Value->Shared->Prop}{Q:Value->Shared->Prop}{c:Value}{b:Bool}
inductive k7(K:W.Frag)(H:Hp):V->Value->Prop where
 | non:k7 K H .non (.type "NoneType")
 | bl(x:Bool):k7 K H (.bl x) (.type "bool")
 | int(i:Int):k7 K H (.int i) (.type "int")
 | str(x:Str):k7 K H (.str x) (.type "str")
 | flt(x:UInt64):k7 K H (.flt x) (.type "float")
 | lst{a:Addr}{xs:List V}(e:H a=some (.lst xs)):k7 K H (.ref a) (.type "list")
 | frz{a:Addr}{o:Obj}{xs:List V}(e:H a=some (.frz o (.lst xs))):k7 K H (.ref a) (.type "list")
 | tup{a:Addr}{xs:List V}(e:H a=some (.tup xs)):k7 K H (.ref a) (.type "tuple")
 | dK{a:Addr}{kvs:List (Key×V)}(e:H a=some (.dK kvs)):k7 K H (.ref a) (.type "dict")
 | dT{a:Addr}{kvs:List (List Key×V)}(e:H a=some (.dT kvs)):k7 K H (.ref a) (.type "dict")
 | ins{a C dx:Addr}{fs:List (Str×V)}(e:H a=some (.ins C dx fs))(cl:Cls K C)(ha:W.findIn K (.ref C) "__class__" = some (some (.builtin "object.__class__")))
   (hn:W.specialIn K (.builtin "object.__class__") "__get__" = some (some (.builtin "getset_descriptor.__get__"))) (htk:W.takesIn K (.builtin "object.__class__")=some true)
   (hm:W.mroIn K C (.type "object")=some true):k7 K H (.ref a) (.ref C)
theorem ED{x:V}{u t:Value}(I:Inv X pins σ H s)(rx:RelV x u)(ty:k7 X.K H x t)(e:W.kitOne X.K t c=some b)(h:∀ tk,Q (.bool b) { s with toks:=tk }) :
  wpAny (model X.prog X.w) A (call (.builtin "isinstance") [u,c]) Q E s:=by
 cases ty with
 | non=>cases(show u=Value.none from rx);exact W.kia_one W.kitx_none I.kIn True.intro e (fun z=>nomatch z) h
 | bl y=>cases(show u=Value.bool y from rx);exact W.kia_one W.kitx_bool I.kIn True.intro e (fun z=>nomatch z) h
 | int i=>obtain⟨t,q⟩:=(show ∃ t,u=Value.int i t from rx);cases q;exact W.kia_one W.kitx_int I.kIn True.intro e (fun z=>nomatch z) h
 | str y=>obtain⟨t,q⟩:=(show ∃ t,u=Value.str y t from rx);cases q;exact W.kia_one W.kitx_str I.kIn True.intro e (fun z=>nomatch z) h
 | flt y=>obtain⟨t,q⟩:=(show ∃ t,u=Value.float y t from rx);cases q;exact W.kia_one W.kitx_float I.kIn True.intro e (fun z=>nomatch z) h
 | @lst a xs ea =>
  cases(show u=Value.ref a from rx)
  obtain⟨_,_,n,_,h1⟩:=(show bK X.prog X.w H s.heap a (.lst xs)from I.hok a _ ea);exact W.kia_one W.kitx_list I.kIn ⟨_,h1,rfl⟩ e (fun z=>nomatch z) h
 | @frz a ob xs ea =>
  cases(show u=Value.ref a from rx)
  obtain⟨_,_,_,n,_,h1⟩:=(show bK X.prog X.w H s.heap a (.frz ob (.lst xs))from I.hok a _ ea);exact W.kia_one W.kitx_list I.kIn ⟨_,h1,rfl⟩ e (fun z=>nomatch z) h
 | @tup a xs ea =>
  cases(show u=Value.ref a from rx)
  obtain⟨_,_,_,p⟩:=(show bK X.prog X.w H s.heap a (.tup xs)from I.hok a _ ea);obtain⟨o,h1,h2,_⟩:=p.1;exact W.kia_one W.kitx_tuple I.kIn ⟨o,h1,h2⟩ e (fun z=>nomatch z) h
 | @dK a kvs ea =>
  cases(show u=Value.ref a from rx)
  obtain⟨_,_,vs,_,p⟩:=(show bK X.prog X.w H s.heap a (.dK kvs)from I.hok a _ ea);obtain⟨o,es,ep,h1,h2,_⟩:=p;exact W.kia_one W.kitx_dict I.kIn ⟨o,h1,h2.1⟩ e (fun z=>nomatch z) h
 | @dT a kvs ea =>
  cases(show u=Value.ref a from rx)
  obtain⟨_,_,xs,_,o,es,ep,h1,h2,_⟩:=(show bK X.prog X.w H s.heap a (.dT kvs)from I.hok a _ ea);exact W.kia_one W.kitx_dict I.kIn ⟨o,h1,h2.1⟩ e (fun z=>nomatch z) h
 | @ins a C dx fs ea cl ha hn htk hm =>
  cases(show u=Value.ref a from rx)
  obtain⟨mA,O,_⟩:=qW I.hok ea;obtain⟨od,J,_⟩:=O.look;exact W.kia_one (W.kitx_own (cl.get _) cl.hd ha hn htk hm) I.kIn J e (fun z=>nomatch z) h
end
structure dO(k:Nat)(A:Around):Prop where
 hd:A.handled=none
 dp:A.depth+3*k+5<recursionLimit
 un:A.units+16*k+200<cLine
theorem dO.mono{j k:Nat}{A:Around}(r:dO k A)(h:j<=k):dO j A:=⟨r.hd,by have:=r.dp;omega,by have:=r.un;omega⟩
theorem dO.deeper{k:Nat}{A:Around}(r:dO (k+1) A)(env:Env):dO k (A.deeper env) :=
 ⟨r.hd,by have:=r.dp;show A.depth+1+3*k+5<_;omega,by have:=r.un;show A.units+3+16*k+200<_;omega⟩
theorem Bt{A:Around}{C:Addr}{us:List Value}{kw:List (Str×Value)}:(A.under (.builtin "type.__call__" ⟨.ref C::us,kw⟩)).depth=A.depth+1:=by
 first|rfl|simp[Around.under,Code.weight,Code.isCreation,Code.isGuard,Code.isCaller,Code.frames,Code.isFrame,guardIds]
theorem Bs{A:Around}{C:Addr}{us:List Value}{kw:List (Str×Value)}:(A.under (.builtin "type.__call__" ⟨.ref C::us,kw⟩)).units=A.units+1:=by
 first|rfl|simp[Around.under,Code.cUnits,Code.frames,Code.isFrame]
theorem dO.make{k:Nat}{A:Around}(r:dO (k+1) A)(C:Addr)(us:List Value)(kw:List (Str×Value)):dO k (A.under (.builtin "type.__call__" ⟨.ref C::us,kw⟩)) :=
 ⟨r.hd,by have:=r.dp;rw[Bt];omega,by have:=r.un;rw[Bs];omega⟩
theorem dO.depth{k:Nat}{A:Around}(r:dO k A):A.depth<recursionLimit:=by have:=r.dp;omega
theorem dO.units{k:Nat}{A:Around}(r:dO k A):A.units+64<cLine:=by have:=r.un;omega
def kO:TA:=fun _ H Q=>Q [] H
def cM(ta:TE)(tr:TA):TA:=fun σ H Q=>ta σ H fun x H1=>tr σ H1 fun xs H2=>Q (x::xs) H2
section
variable{X:Cx}{e:Expr}{es:List Expr}{te:TE}{t:TA}{pos:Pos}
theorem bE:PA X [] kO:=fun _ _ _ _ H Q I h=>Calls.spliced_nil ⟨[],H,I,.nil,h⟩
theorem aQ(ha:PE X e te)(hr:PA X es t)(hs:starEach (e::es) X.env =(false,eval e X.env)::starEach es X.env:=by rfl):PA X (e::es) (cM te t):=by
 intro pos pins s σ H Q I h;rw[hs];show wpAny _ _ (spliced ((false,eval e X.env)::backTo pos (starEach es X.env))) _ _ s;refine Calls.spliced_cons (thn (ha pins s σ H _ I h) fun u s1 hPP=>?_)
 obtain⟨x,H1,I1,r1,q1⟩:=hPP;refine thn (hr pos pins s1 σ H1 _ I1 q1) fun us s2 hPP=>?_
 obtain⟨xs,H2,I2,r2,q2⟩:=hPP;exact⟨x::xs,H2,I2,.cons r1 r2,q2⟩
def PZ(t:TA):TE:=fun σ H Q=>t σ H fun xs H1=>xs.length<=sizeLine/\∀ p,H1 p=none->Q (.ref p) (upd H1 p (.tup xs))
def P4(t:TA):TE:=fun σ H Q=>t σ H fun xs H1=>xs.length<=sizeLine/\∀ p,H1 p=none->Q (.ref p) (upd H1 p (.lst xs))
theorem xm{x1}(h:PA X es t):PE X (.Tuple es x1 pos) (PZ t):=by
 intro pins s σ H Q I hq;refine wpAny_Tuple_spliced (thn (h pos pins s σ H _ I hq) fun us s1 ⟨xs,H1,I1,r,z,q⟩=>⟨by rw[<- r.length];exact z,?_⟩)
 have hf:H1 s1.heap.objs.size=none:=I1.hok.fresh (Nat.le_refl _);refine⟨.ref s1.heap.objs.size,upd H1 s1.heap.objs.size (.tup xs),I1.laid (t':=s1.toks) (fun b u e=>Heap.get?_push_of_some _ e) (Nat.le_refl _) ?_,rfl,q _ hf⟩
 exact⟨z,us,r,⟨⟨_,Heap.get?_push_size _ rfl,rfl,_,rfl⟩,_,Heap.get?_push_size _ rfl,rfl⟩⟩
theorem sj(h:PA X es t):PE X (.List es pos) (P4 t):=by
 intro pins s σ H Q I hq;refine wpAny_List_spliced (thn (h pos pins s σ H _ I hq) fun us s1 ⟨xs,H1,I1,r,z,q⟩=>⟨by rw[<- r.length];exact z,?_⟩)
 have hf:H1 s1.heap.objs.size=none:=I1.hok.fresh (Nat.le_refl _);refine⟨.ref s1.heap.objs.size,upd H1 s1.heap.objs.size (.lst xs),I1.laid (t':=s1.toks) (fun b u e=>Heap.get?_push_of_some _ e) (Nat.le_refl _) ?_,rfl,q _ hf⟩
 exact⟨z,us,0,r,Heap.get?_push_size _ rfl⟩
end
abbrev Sp:=List V->Hp->VK->XK->Prop
abbrev CXT:=List Env->Hp->Shared->XK->Value->Shared->Prop
structure Cn(P:Program)(w:World)(K:W.Frag)(mg:Str->Option Value)(base:Heap)(A:Around)(outer:List Env)(s:Shared)(H:Hp):Prop where
 frames:A.frames=some outer
 mod:Mod K mg base
 bs:∀ b o,base.get? b=some o->s.heap.get? b=some o/\H b=none
 bsz:base.objs.size<=s.heap.objs.size
 kX:s.heap.FunFrames base outer
 frf:∀ b∈frs outer,H b=none
 hok:HOk P w H s.heap
 bare:AllBare s.gens
def CE(outer:List Env)(P:Program)(w:World)(H:Hp)(s:Shared)(Q:VK)(u:Value)(s':Shared):Prop :=
 ∃ v H',s'.os=s.os/\AllBare s'.gens/\Un (frs outer) [] H H' s.heap s'.heap/\HOk P w H' s'.heap/\RelV v u/\Q v H'
def CR(CX:CXT)(outer:List Env)(P:Program)(w:World)(H:Hp)(s:Shared)(Q:VK)(E:XK)(r:Result)(s':Shared):Prop :=
 match r with
 | .ok (.ret u)=>CE outer P w H s Q u s'
 | .ok _=>False
 | .error e=>CX outer H s E e s'
structure bG(P:Program)(w:World)(K:W.Frag)(mg:Str->Option Value)(base:Heap)(CX:CXT)(k:Nat)(f:Addr)(fd:FuncData)(ps:List Str)(sp:Sp):Prop where
 len:∀ vs H Q E,sp vs H Q E->vs.length=ps.length
 run:∀(A:Around)(outer:List Env)(s:Shared)(H:Hp)(args:Args)(us:List Value)(vs:List V)(Q:VK)(E:XK),dO k A->Cn P w K mg base A outer s H->BindsTo s fd args (ps.zip us)->Vals vs us->sp vs H Q E ->
  codeAny (model P w) A (.call (.ref f) args) (CR CX outer P w H s Q E) s
theorem bG.imp{P:Program}{w:World}{K:W.Frag}{mg:Str->Option Value}{base:Heap}{CX:CXT}{k:Nat}{f:Addr}{fd:FuncData}{ps:List Str}{sp sp':Sp}(F:bG P w K mg base CX k f fd ps sp)
  (h:∀ vs H Q E,sp' vs H Q E->sp vs H Q E):bG P w K mg base CX k f fd ps sp' :=
 ⟨fun vs H Q E q=>F.len vs H Q E (h _ _ _ _ q),fun A outer s H args us vs Q E hr he hb hv hs=>F.run A outer s H args us vs Q E hr he hb hv (h _ _ _ _ hs)⟩
theorem Cn.make{P:Program}{w:World}{K:W.Frag}{mg:Str->Option Value}{base:Heap}{A:Around}{outer:List Env}{s:Shared}{H:Hp}(e:Cn P w K mg base A outer s H)(C:Addr)(us:List Value)(kw:List (Str×Value)) :
  Cn P w K mg base (A.under (.builtin "type.__call__" ⟨.ref C::us,kw⟩)) outer s H:=⟨by first|exact e.frames |(simpa [Around.under,Code.envs,Code.isFrame,pushEnvs]using e.frames),e.mod,e.bs,e.bsz,e.kX,e.frf,e.hok,e.bare⟩
section
variable{X:Cx}{pins:List (Addr×Obj)}{σ:St}{H:Hp}{s s':Shared}
theorem Inv.Po(I:Inv X pins σ H s):Cn X.prog X.w X.K X.mg X.base X.A X.stack s H :=
 ⟨I.ok.frames,I.ok.mod,I.bs,Nat.le_trans I.ok.bsz I.sz,I.stack,I.ko,I.hok,I.bare⟩
theorem Inv.after{Q:VK}{u:Value}(I:Inv X pins σ H s)(h:CE X.stack X.prog X.w H s Q u s'):EP X pins σ Q u s':=by
 obtain⟨v,H',os,bare,un,hok,r,q⟩:=h;obtain⟨hh,g,d,t,os'⟩:=s';obtain rfl:os'=s.os:=os;exact⟨v,H',I.call (h':=hh) (g':=g) (d':=d) (t':=t) (ch:=[]) un hok bare (fun b z=>absurd z (by simp)),r,q⟩
end
def FU(sp:Sp)(dvs:List V)(E:XK)(t:TA):TE:=fun σ H Q=>t σ H fun vs H1=>sp (vs++dvs) H1 Q E
def MM(C:Addr)(m:Str)(sp:Sp)(dvs:List V)(E:XK)(ta:TE)(t:TA):TE:=fun σ H Q=>ta σ H fun x H1=>∃ a dx fs,x = .ref a/\H1 a=some (.ins C dx fs)/\fs.lookup m=none /\
 t σ H1 fun vs H2=>sp (x ::(vs++dvs)) H2 Q E
def P2(C:Addr)(sp:Sp)(dvs:List V)(E:XK)(t:TA):TE:=fun σ H Q=>t σ H fun vs H1=>∀ x dx,H1 x=none->H1 dx=none->dx≠x ->
 sp (.ref x ::(vs++dvs)) (upd (upd H1 dx (.own x)) x (.ins C dx [])) (fun v H2=>v = .non/\Q (.ref x) H2) E
def Binds(K:W.Frag)(fd:FuncData)(ps:List Str)(ds:List Value):Prop :=
 ∀(s:Shared)(us:List Value),K.In s.heap ->(us++ds).length=ps.length->BindsTo s fd ⟨us,[]⟩ (ps.zip (us++ds))
theorem Binds.all{K:W.Frag}{fd:FuncData}{ps:List Str}(h:∀ us:List Value,us.length=ps.length->bindArgs fd ⟨us,[]⟩=pure (ps.zip us)):Binds K fd ps []:=fun s us _ hl=>by
 rw[List.append_nil]at hl ⊢;exact .of_eq (h us hl)
def Passes(CX:CXT)(X:Cx)(E:XK):Prop:=∀(pins:List (Addr×Obj))(σ:St)(H:Hp)(s:Shared)(e:Value)(s':Shared),Inv X pins σ H s->CX X.stack H s E e s'->X.xe e s'
section
variable{X:Cx}{CX:CXT}{k:Nat}{f C:Addr}{fd:FuncData}{ps:List Str}{sp:Sp}{dvs:List V}{ds:List Value}{E:XK}{x m:Str}{p pos apos:Pos}{e o:Expr}{es:List Expr}{ta:TE}{t:TA}
theorem A5{pins:List (Addr×Obj)}{σ:St}{H:Hp}{s:Shared}{Q:VK}{us:List Value}{vs:List V}(F:bG X.prog X.w X.K X.mg X.base CX k f fd ps sp)(hr:dO k X.A)(hb:Binds X.K fd ps ds)(hd:Vals dvs ds)(hx:Passes CX X E)
  (I:Inv X pins σ H s) (r:Vals vs us) (h:sp (vs++dvs) H Q E):wpAny (model X.prog X.w) X.A (call (.ref f) us) (EP X pins σ Q) X.xe s:=by
 have r2:Vals (vs++dvs) (us++ds):=r.append hd;have hl:(us++ds).length=ps.length:=by rw[<- r2.length];exact F.len _ _ _ _ h
 refine wpAny_call (codeAny_mono (F.run X.A X.stack s H ⟨us,[]⟩ (us++ds) (vs++dvs) Q E hr I.Po (hb s us I.kIn hl) r2 h) fun r s' hq=>?_)
 cases r with
 | error e=>exact hx pins σ H s e s' I hq
 | ok fl =>
  cases fl with
  | ret u=>exact I.after hq
  | next=>exact False.elim hq
  | brk=>exact False.elim hq
  | cont=>exact False.elim hq
theorem qV(F:bG X.prog X.w X.K X.mg X.base CX k f fd ps sp)(hr:dO k X.A)(hg:Gl X x)(hm:X.mg x=some (.ref f))(hk:W.keepIn X.K (.ref f)=true)(hb:Binds X.K fd ps ds)(hd:Vals dvs ds)(hx:Passes CX X E)
  (ha:PA X (e::es) t) (hdb:(x ==("__debug__":Str))=false:=by decide) (he:starEach (e::es) X.env =(false,eval e X.env)::starEach es X.env:=by rfl) (hpl:(backTo pos (starEach es X.env)).any (·.1)=false:=by rfl) :
  PE X (.Call (.Name x p) (e::es) [] pos) (FU sp dvs E t):=by
 intro pins s σ H Q I h;refine wpAny_Call_Name_kw (kH I hg hm ?_ hdb);refine W.callWith_K (h₀:=X.base) I.ok.mod.kin hk (thn (ha pos pins s σ H _ I h) fun us s1 ⟨vs,H1,I1,r,q⟩=>⟨I1.kIn,?_⟩) he hpl
 exact A5 F hr hb hd hx I1 r q
theorem K9{pl:Sem Bool}(he:PE X o ta)(c:Cls X.K C)(hm:Meth X.K C m f)(F:bG X.prog X.w X.K X.mg X.base CX k f fd ps sp)(hr:dO k X.A)(hb:Binds X.K fd ps ds)(hd:Vals dvs ds)(hx:Passes CX X E)(ha:PA X (e::es) t)
  (hst:starEach (e::es) X.env =(false,eval e X.env)::starEach es X.env:=by rfl) (hpl:(backTo pos (starEach es X.env)).any (·.1)=false:=by rfl)
  (ht:eval (.Call (.Attribute o m apos) (e::es) [] pos) X.env =(do
   let ov <- eval o X.env
   standAt apos.atName
   let(f,first) <- holding [ov] (getMethod ov m pl)
   callWith pos f first (backTo pos (starEach (e::es) X.env)) (backToKw pos (keywordEach [] X.env))):=by rfl) :
  PE X (.Call (.Attribute o m apos) (e::es) [] pos) (MM C m sp dvs E ta t):=by
 intro pins s σ H Q I h;refine W.methodCall_KW (pl:=pl) (thn (he pins s σ H _ I h) fun u s1 hPP=>?_) ht
 obtain⟨x,H1,I1,rx,a,dx,fs,ex,ea,l,q⟩:=hPP;subst ex;obtain rfl:u=Value.ref a:=rx;refine tF I1 ea c hm l ?_;refine W.callWith_K (first:=[.ref a]) (h₀:=X.base) I.ok.mod.kin hm.kp (thn (ha pos pins s1 σ H1 _ I1 q) fun us s2 ⟨vs,H2,I2,r,q2⟩=>⟨I2.kIn,?_⟩) hst hpl
 exact A5 (us:=.ref a::us) (vs:=.ref a::vs) F hr hb hd hx I2 (.cons rfl r) q2
theorem jQ{pl:Sem Bool}(he:PE X o ta)(c:Cls X.K C)(hm:Meth X.K C m f)(F:bG X.prog X.w X.K X.mg X.base CX k f fd ps sp)(hr:dO k X.A)(hb:Binds X.K fd ps ds)(hd:Vals dvs ds)(hx:Passes CX X E)
  (ht:eval (.Call (.Attribute o m apos) [] [] pos) X.env =(do
   let ov <- eval o X.env
   standAt apos.atName
   let(f,first) <- holding [ov] (getMethod ov m pl)
   callWith pos f first (backTo pos (starEach [] X.env)) (backToKw pos (keywordEach [] X.env))):=by rfl) :
  PE X (.Call (.Attribute o m apos) [] [] pos) (MM C m sp dvs E ta kO):=by
 intro pins s σ H Q I h;refine W.methodCall_KW (pl:=pl) (thn (he pins s σ H _ I h) fun u s1 hPP=>?_) ht
 obtain⟨x,H1,I1,rx,a,dx,fs,ex,ea,l,q⟩:=hPP;subst ex;obtain rfl:u=Value.ref a:=rx;refine tF I1 ea c hm l ?_;exact W.callWith_K0 (first:=[.ref a]) I1.kIn hm.kp (A5 (us:=[.ref a]) (vs:=[.ref a]) F hr hb hd hx I1 (.cons rfl .nil) q)
structure Mk(K:W.Frag)(C f:Addr):Prop where
 makes:W.makesIn K C=true
 init:W.findIn K (.ref C) "__init__" = some (some (.ref f))
 fn:W.isFn K (.ref f)=true
 kp:W.keepIn K (.ref C)=true
theorem Gs{pins:List (Addr×Obj)}{σ:St}{H:Hp}{s:Shared}{Q:VK}{us:List Value}{vs:List V}(M:Mk X.K C f)(F:bG X.prog X.w X.K X.mg X.base CX k f fd ps sp)(hr:dO (k+1) X.A)(hb:Binds X.K fd ps ds)(hd:Vals dvs ds)
  (hx:Passes CX X E) (I:Inv X pins σ H s) (r:Vals vs us)
  (h:∀ x dx,H x=none->H dx=none->dx≠x->sp (.ref x ::(vs++dvs)) (upd (upd H dx (.own x)) x (.ins C dx [])) (fun v H2=>v = .non/\Q (.ref x) H2) E) :
  wpAny (model X.prog X.w) X.A (call (.ref C) us) (EP X pins σ Q) X.xe s:=by
 have hq:=h (s.heap.objs.size+1) s.heap.objs.size (I.hok.fresh (Nat.le_succ _)) (I.hok.fresh (Nat.le_refl _)) (Nat.ne_of_lt (Nat.lt_succ_self _));have I2:=Inv.made (C:=C) I;have r2:Vals (V.ref (s.heap.objs.size+1) ::(vs++dvs)) (Value.ref (s.heap.objs.size+1) ::(us++ds)):=.cons rfl (r.append hd);have hl:(Value.ref (s.heap.objs.size+1)::us++ds).length=ps.length:=by
  have e:=r2.length;rw[F.len _ _ _ _ hq]at e;exact e.symm
 refine wpAny_call (HV (f:=f) I.kIn M.makes M.init (beq_iff_eq.mp M.fn) (codeAny_mono (F.run _ X.stack _ _ ⟨Value.ref (s.heap.objs.size+1)::us,[]⟩ (Value.ref (s.heap.objs.size+1) ::(us++ds)) _ _ E (hr.make C us [])
  (I2.Po.make C us []) (hb _ (Value.ref (s.heap.objs.size+1)::us) I2.kIn hl) r2 hq) fun r s' hq'=>?_))
 cases r with
 | error e=>exact hx pins σ _ _ e s' I2 hq'
 | ok fl =>
  cases fl with
  | ret u =>
   obtain⟨v,H',I3,rv,ev,q3⟩:=I2.after hq';subst ev;exact⟨rv,⟨V.ref (s.heap.objs.size+1),H',I3,rfl,q3⟩⟩
  | next=>exact False.elim hq'
  | brk=>exact False.elim hq'
  | cont=>exact False.elim hq'
theorem Hk(M:Mk X.K C f)(F:bG X.prog X.w X.K X.mg X.base CX k f fd ps sp)(hr:dO (k+1) X.A)(hg:Gl X x)(hm:X.mg x=some (.ref C))(hb:Binds X.K fd ps ds)(hd:Vals dvs ds)(hx:Passes CX X E)
  (hdb:(x ==("__debug__":Str))=false:=by decide):PE X (.Call (.Name x p) [] [] pos) (P2 C sp dvs E kO):=by
 intro pins s σ H Q I h;refine wpAny_Call_Name_kw (kH I hg hm ?_ hdb);exact W.callWith_K0 I.kIn M.kp (Gs (us:=[]) M F hr hb hd hx I .nil h)
end
structure aX(N P:List Str)(sc:Scope):Prop where
 kind:sc.kind = .function
 co:sc.isCoroutine=false
 gen:sc.isGenerator=false
 nd:N.Nodup
 pre:N.take P.length=P
 par:∀ x∈P,sc.names.lookup x=some .local\/sc.names.lookup x=some .cell
 OL:∀ y∈sc.names,y.2 ≠ .free
theorem wo{kindOf:Str->Option NameKind}{x:Str}:∀{binds:List (Str×Value)}{m:Str->Option Value},(∀ v,(x,v) ∉ binds)->bindL kindOf binds m x=m x
 | [],_,_=>rfl
 | (n,v)::r,m,h=>by
  unfold bindL;rw[wo fun w hw=>h w (List.mem_cons_of_mem _ hw)]
  split
  ·have:x≠n:=by rintro rfl;exact h v List.mem_cons_self
   simp[this]
  ·rfl
theorem wu{kindOf:Str->Option NameKind}{x:Str}:∀{binds:List (Str×Value)}{m:Str->Option Value},(∀ v,(x,v) ∉ binds)->bindC kindOf binds m x=m x
 | [],_,_=>rfl
 | (n,v)::r,m,h=>by
  unfold bindC;rw[wu fun w hw=>h w (List.mem_cons_of_mem _ hw)]
  split
  ·rfl
  ·have:x≠n:=by rintro rfl;exact h v List.mem_cons_self
   simp[this]
theorem wq{kindOf:Str->Option NameKind}{x:Str}{v:Value}:∀{P:List Str}{vs:List Value}{i:Nat}{m:Str->Option Value},P.Nodup->P[i]? = some x->vs[i]? = some v->kindOf x=some .local ->
  bindL kindOf (P.zip vs) m x=some v
 | [],_,_,_,_,h,_,_=>by simp at h
 | _::_,[],_,_,_,_,h,_=>by simp at h
 | p::P,w::vs,0,m,nd,h1,h2,hk=>by
  simp at h1 h2;subst h1;subst h2;show bindL kindOf ((p,w)::P.zip vs) m p=_;unfold bindL;rw[wo fun v hv=>(List.nodup_cons.mp nd).1 (List.of_mem_zip hv).1,if_pos hk]
  simp
 | p::P,w::vs,i+1,m,nd,h1,h2,hk=>by
  show bindL kindOf ((p,w)::P.zip vs) m x=_;unfold bindL;exact wq (i:=i) (List.nodup_cons.mp nd).2 (by simpa using h1) (by simpa using h2) hk
theorem wx{kindOf:Str->Option NameKind}{x:Str}{v:Value}:∀{P:List Str}{vs:List Value}{i:Nat}{m:Str->Option Value},P.Nodup->P[i]? = some x->vs[i]? = some v->kindOf x≠some .local ->
  bindC kindOf (P.zip vs) m x=some v
 | [],_,_,_,_,h,_,_=>by simp at h
 | _::_,[],_,_,_,_,h,_=>by simp at h
 | p::P,w::vs,0,m,nd,h1,h2,hk=>by
  simp at h1 h2;subst h1;subst h2;show bindC kindOf ((p,w)::P.zip vs) m p=_;unfold bindC;rw[wu fun v hv=>(List.nodup_cons.mp nd).1 (List.of_mem_zip hv).1,if_neg hk]
  simp
 | p::P,w::vs,i+1,m,nd,h1,h2,hk=>by
  show bindC kindOf ((p,w)::P.zip vs) m x=_;unfold bindC;exact wx (i:=i) (List.nodup_cons.mp nd).2 (by simpa using h1) (by simpa using h2) hk
def start(N:List Str)(vs:List V):St:=vs.map some++List.replicate (N.length - vs.length) none
def pq(CX:CXT)(P:Program)(w:World)(K:W.Frag)(mg:Str->Option Value)(base:Heap)(N:List Str)(qual:Str)(scope:Scope)(f:Addr)(cd:Value)(A:Around)(outer:List Env)(s:Shared)(H:Hp)(E:XK):Cx where
 prog:=P
 w:=w
 K:=K
 mg:=mg
 base:=base
 A:=A.deeper (envOfC qual scope s.heap.objs.size f cd)
 N:=N
 s₀:=s
 H₀:=H
 env:=envOfC qual scope s.heap.objs.size f cd
 outer:=outer
 stack:=envOfC qual scope s.heap.objs.size f cd::outer
 ex:=[]
 calm:=true
 fn:=fun _=>true
 pn:=[]
 xe:=fun e s'=>wpAny (model P w) (A.deeper (envOfC qual scope s.heap.objs.size f cd)) (leaving (envOfC qual scope s.heap.objs.size f cd) e) (fun _ s''=>CX outer H s E e s'') (fun e' s''=>CX outer H s E e' s'') s'
theorem Ar{sc:Scope}{n:Nat}{x:Str}(h:sc.names.lookup x=some .cell):∃ c,(cellsFrom n sc.names []).lookup x=some c:=by
 have q:=W.cellsFrom_some sc.names n [] (.inl h);exact Option.isSome_iff_exists.mp q
theorem EE{CX:CXT}{P:Program}{w:World}{K:W.Frag}{mg:Str->Option Value}{base:Heap}{N ps:List Str}{qual:Str}{scope:Scope}{f:Addr}{cd:Value}{A:Around}{outer:List Env}{s s1:Shared}{H:Hp}{E:XK}{us:List Value}{vs:List V}
  (S:aX N ps scope) (hd:A.handled=none) (e0:Cn P w K mg base A outer s H) (hl:vs.length=ps.length) (r:Vals vs us)
  (x:InCallC s s.heap.objs.size (bindL (envOfC qual scope s.heap.objs.size f cd).kindOf (ps.zip us) fun _=>none) (cellsFrom (s.heap.objs.size+1) scope.names []) (bindC (envOfC qual scope s.heap.objs.size f cd).kindOf (ps.zip us) fun _=>none) s1) :
  Inv (pq CX P w K mg base N qual scope f cd A outer s H E) [] (start N vs) H s1:=by
 have hpl:ps.length<=N.length:=by have:=congrArg List.length S.pre;rw[List.length_take]at this;omega
 obtain⟨h1,tk,rfl,hk⟩:=x.done;have noA:∀ b:Addr,b ∉ (pq CX P w K mg base N qual scope f cd A outer s H E).ex:=fun b z=>absurd (show b∈([]:List Addr)from z) (by simp)
 refine⟨⟨e0.mod,S.kind,rfl,rfl,Nat.le_refl _,fun y z c h1 h2=>?_,fun y hy=>?_,fun y c _ h=>?_,fun _=>hd,Around.frames_deeper e0.frames,.inr ⟨rfl,rfl⟩,fun b z=>absurd z (noA b),e0.bs,e0.bsz,fun b _ _=>noA b,fun b z=>absurd z (noA b),e0.kX,e0.frf⟩,
  rfl,e0.bare,Un.kept hk,⟨_,x.toInCall.ns,fun i y v h1 h2 h3=>?_⟩,fun y c h=>⟨_,x.cell y c h⟩,e0.hok.fresh (Nat.le_refl _),fun y c h=>?_,fun p hp=>absurd (show p∈([]:List (Addr×Obj))from hp) (by simp),e0.hok.kept hk,?_⟩
 ·exact name_of_addr x.apart (PySem.mem_of_lookup h1) (PySem.mem_of_lookup h2)
 ·have hy:scope.names.lookup y=some .cell\/scope.names.lookup y=some .free:=hy;rcases hy with hy|hy
  ·exact Ar hy
  ·exact absurd rfl (S.OL _ (PySem.mem_of_lookup hy))
 ·exact Nat.le_of_lt (x.above y c (PySem.mem_of_lookup h))
 ·have hi:i<vs.length:=by
   unfold start at h2;by_cases hi:i<vs.length
   ·exact hi
   ·rw[List.getElem?_append_right (by simpa using hi)]at h2
    rw[List.getElem?_replicate]at h2
    split at h2 <;> cases h2
  have ha:vs[i]? = some v:=by
   unfold start at h2;rw[List.getElem?_append_left (by simpa using hi),List.getElem?_map]at h2
   cases e:vs[i]? with
   | none=>rw[e]at h2;cases h2
   | some a=>rw[e]at h2;cases h2;rfl
  obtain⟨u,hu,rv⟩:=r.get ha;have hp:ps[i]? = some y:=by
   rw[<- S.pre,List.getElem?_take_of_lt (by omega)];exact h1
  have ndP:ps.Nodup:=by rw[<- S.pre];exact S.nd.sublist (List.take_sublist _ _)
  refine⟨u,rv,?_⟩;rcases S.par y (List.mem_of_getElem? hp)with k|k
  ·exact .inl ⟨k,wq ndP hp hu k⟩
  ·obtain⟨c,e⟩:=Ar (n:=s.heap.objs.size+1) k;refine .inr ⟨.inl k,c,e,?_⟩;have q:=x.cell y c e;rw[wx ndP hp hu (by show scope.names.lookup y≠_;rw[k];decide)]at q
   exact q
 ·exact e0.hok.fresh (Nat.le_of_lt (x.above y c (PySem.mem_of_lookup h)))
 ·unfold start;show _=N.length;rw[List.length_append,List.length_map,List.length_replicate];omega
theorem M9{CX:CXT}{P:Program}{w:World}{K:W.Frag}{mg:Str->Option Value}{base:Heap}{k:Nat}{f:Addr}{name qual:Str}{params:Arguments}{body:List Stmt}{scope:Scope}{dV kV doc pm cdv ct oc:Value}{an od:Option Addr}
  {osl:Array (Option Value)} {N ps:List Str} {sp:Sp} (lk:K.lookup f=some ⟨oc,od,.func (W.fnOf name qual params body scope dV kV doc pm an cdv ct),osl⟩) (hcd:W.codeIn K cdv qual=true) (S:aX N ps scope)
  (len:∀ vs H Q E,sp vs H Q E->vs.length=ps.length)
  (nB:∀(A:Around)(outer:List Env)(s:Shared)(H:Hp)(vs:List V)(Q:VK)(E:XK),dO k (A.deeper (envOfC qual scope s.heap.objs.size f cdv))->sp vs H Q E ->
   ∃ t,PSs (pq CX P w K mg base N qual scope f cdv A outer s H E) body t/\t { nx:=fun _ H'=>Q .non H',rt:=Q } (start N vs) H) :
  bG P w K mg base CX (k+1) f (W.fnOf name qual params body scope dV kV doc pm an cdv ct) ps sp:=by
 refine⟨len,fun A outer s H args us vs Q E hr e0 hb r hsp=>?_⟩
 have hl:=len _ _ _ _ hsp;have KX:K.In s.heap:=e0.mod.kin.keeps fun b o e=>(e0.bs b o e).1
 have lim:s.heap.NoLimit:=e0.mod.nolimit.keeps fun b o e=>(e0.bs b o e).1
 have iy:∀ y∈ps.zip us,scope.names.lookup y.1=some .local\/(scope.names.lookup y.1=some .cell/\((cellsFrom (s.heap.objs.size+1) scope.names []).lookup y.1).isSome=true):=fun⟨n,v⟩ hy=>by
  rcases S.par n (List.of_mem_zip hy).1 with q|q
  ·exact .inl q
  ·exact .inr ⟨q,W.cellsFrom_some _ _ _ (.inl q)⟩
 refine codeAny_call_function hr.depth (KX _ _ lk) rfl S.co S.gen rfl (W.codeRec_of KX hcd) (hb _ _ _ _ ?_);refine wpAny_newFunctionEnv_cells S.kind iy fun env he s1 x=>?_
 subst he;refine⟨lim.keeps x.toInCall.keep,codeAny_func ?_⟩;obtain⟨t,ht,hq⟩:=nB A outer s H vs Q E (hr.deeper _) hsp;have I:Inv (pq CX P w K mg base N qual scope f cdv A outer s H E) [] (start N vs) H s1:=EE S hr.hd e0 hl r x;refine wpAny_mono (ht [] s1 (start N vs) H _ I hq) (fun fl s' hs=>?_) fun e s' hs=>hs
 have fin:∀{σ':St}{H':Hp}{v:V}{u:Value},Inv (pq CX P w K mg base N qual scope f cdv A outer s H E) [] σ' H' s'->RelV v u->Q v H'->CE outer P w H s Q u s' :=
  fun{σ' H' v u} J rv q=>⟨v,H',J.os,J.bare,J.base,J.hok,rv,q⟩
 cases fl with
 | ret u =>
  obtain⟨v,σ',H',J,rv,q⟩:=hs;exact fin J rv q
 | next =>
  obtain⟨σ',H',J,q⟩:=hs;exact fin (v:=V.non) (u:=Value.none) J rfl q
 | brk =>
  obtain⟨_,_,_,q⟩:=hs;exact False.elim q
 | cont =>
  obtain⟨_,_,_,q⟩:=hs;exact False.elim q
section
variable{X:Cx}{x:Str}{p pos:Pos}{e:Expr}{es:List Expr}{t:TA}{id T:String}{r:List V->Hp->VK->Prop}
def tCB(r:List V->Hp->VK->Prop)(t:TA):TE:=fun σ H Q=>t σ H fun vs H1=>r vs H1 Q
theorem il(hc:c7 X (.builtin id) r)(hg:Gl X x)(hm:X.mg x=none)(hv:bootBuiltins x=some (.builtin id))(ha:PA X (e::es) t)(hn:x ≠ "__name__":=by decide)(hdb:(x ==("__debug__":Str))=false:=by decide)
  (he:starEach (e::es) X.env =(false,eval e X.env)::starEach es X.env:=by rfl) (hpl:(backTo pos (starEach es X.env)).any (·.1)=false:=by rfl):PE X (.Call (.Name x p) (e::es) [] pos) (tCB r t):=by
 intro pins s σ H Q I h;refine wpAny_Call_Name_kw (iZ I hg hm hv ?_ hn hdb);exact PyProof.Rows.callWith_builtin1 (thn (ha pos pins s σ H _ I h) fun us s1 ⟨vs,H1,I1,r1,q1⟩=>hc pins s1 σ H1 vs us Q I1 r1 q1) he hpl
theorem vR(hc:c7 X (.type T) r)(hg:Gl X x)(hm:X.mg x=none)(hv:bootBuiltins x=some (.type T))(ha:PA X (e::es) t)(hn:x ≠ "__name__":=by decide)(hdb:(x ==("__debug__":Str))=false:=by decide)
  (he:starEach (e::es) X.env =(false,eval e X.env)::starEach es X.env:=by rfl) (hpl:(backTo pos (starEach es X.env)).any (·.1)=false:=by rfl):PE X (.Call (.Name x p) (e::es) [] pos) (tCB r t):=by
 intro pins s σ H Q I h;refine wpAny_Call_Name_kw (iZ I hg hm hv ?_ hn hdb);exact PyProof.Rows.callWith_type1 (thn (ha pos pins s σ H _ I h) fun us s1 ⟨vs,H1,I1,r1,q1⟩=>hc pins s1 σ H1 vs us Q I1 r1 q1) he hpl
end
end L2
namespace HT
open PySem PyProof.Rows
section
variable{prog:Program}{w:World}{A:Around}{E:Value->Shared->Prop}{s:Shared}
theorem Ms{t b:Addr}{vs ws:List Value}{Q:Value->Shared->Prop}(ht:IsTup s.heap t vs.toArray)(hb:IsTup s.heap b ws.toArray)(hv:vs ≠ [])
  (h1:ws = []->Q (.ref t) s) (h2:ws ≠ []->Q (.ref s.heap.objs.size) { s with heap:=s.heap.push { cls:=.type "tuple",data:=.seq (vs++ws).toArray } })
  (hsz:vs.length+ws.length<=sizeLine):wpAny (model prog w) A (binaryOp .Add (.ref t) (.ref b)) Q E s:=by
 obtain⟨⟨cls,dd,data,sl⟩,ho,hc,n,hd⟩:=id ht;obtain⟨⟨Tr,dd2,data2,sl2⟩,ho2,hc2,n2,hd2⟩:=id hb;simp only at hc hd hc2 hd2;subst hc hd hc2 hd2;have e:vs.toArray++ws.toArray =(vs++ws).toArray:=by simp
 by_cases hw:ws = []
 ·exact concat_meets ⟨_,ho,rfl⟩ ⟨_,ho2,rfl⟩ noFill_tuple_add seq_tuple_add PySem.F.slot_tuple_add PySem.F.entry_tuple_add (PySem.F.args_tuple_add_2 _ _)
   (tuple_addW1 t b vs.toArray ws.toArray n n2 dd dd2 sl sl2 (by simpa using hv) (by simp[hw])) ⟨ho,ho2,h1 hw⟩
 ·refine concat_meets ⟨_,ho,rfl⟩ ⟨_,ho2,rfl⟩ noFill_tuple_add seq_tuple_add PySem.F.slot_tuple_add PySem.F.entry_tuple_add (PySem.F.args_tuple_add_2 _ _)
   (tuple_addW2 t b vs.toArray ws.toArray n n2 dd dd2 sl sl2 (by simpa using hv) (by simpa using hw) (by rw[List.size_toArray,List.size_toArray];exact hsz)) ⟨ho,ho2,?_⟩
  rw[e];exact h2 hw
def sIx(n d:Nat):Option Int->Nat
 | none=>d
 | some v=>if v<0 then(v+(n:Int)).toNat else min v.toNat n
theorem NN(n d:Nat)(hd:d<=n)(o:Option Int):sIx n d o<=n:=by
 cases o with
 | none=>exact hd
 | some v =>
  show(if v<0 then(v+(n:Int)).toNat else min v.toNat n)<=n
  by_cases hv:v<0
  ·rw[if_pos hv];omega
  ·rw[if_neg hv];exact Nat.min_le_right _ _
theorem RZ(a:Int)(n:Nat)(h0:0<=a):min a (n:Int) =((min a.toNat n:Nat):Int):=by
 by_cases h:a<=n
 ·rw[Int.min_eq_left h,Nat.min_eq_left (Int.toNat_le.mpr h),Int.toNat_of_nonneg h0]
 ·have h':=Int.le_of_lt (Int.not_le.mp h);rw[Int.min_eq_right h',Nat.min_eq_right ((Int.le_toNat h0).mpr h')]
theorem Gd(n:Nat)(i:Int)(h:i<0):max 0 (min (i+(n:Int)) n) =((i+n).toNat:Int):=by
 rw[Int.min_eq_left (Int.add_le_of_le_sub_right (by rw[Int.sub_self];exact Int.le_of_lt h)),Int.max_comm,Int.ofNat_toNat]
theorem Gb(n:Nat)(i:Int)(h:¬ i<0):max 0 (min i (n:Int)) =((min i.toNat n:Nat):Int):=by
 rw[RZ i n (Int.not_lt.mp h),Int.max_eq_right (Int.natCast_nonneg _)]
theorem Dg(v:Int)(n d:Nat):(if v<0 then max (v+(n:Int)) 0 else min v (n:Int)) =((sIx n d (some v):Nat):Int):=by
 show(if v<0 then max (v+(n:Int)) 0 else min v (n:Int)) =(((if v<0 then(v+(n:Int)).toNat else min v.toNat n):Nat):Int)
 by_cases hv:v<0
 ·rw[if_pos hv,if_pos hv];exact(Int.ofNat_toNat _).symm
 ·rw[if_neg hv,if_neg hv];exact RZ v n (Int.not_lt.mp hv)
theorem Cc(lo hi:Option Int)(n:Nat):Builtin.Slice.sliceAdjust lo hi 1 (n:Int) =(((sIx n 0 lo:Nat):Int),((sIx n n hi:Nat):Int)):=by
 have h1:¬((1:Int)<0):=by omega
 unfold Builtin.Slice.sliceAdjust;simp only[h1,if_false];refine Prod.ext ?_ ?_
 ·cases lo with
  | none=>rfl
  | some v=>exact Dg v n 0
 ·cases hi with
  | none=>rfl
  | some v=>exact Dg v n n
theorem Bb(i j:Nat):Builtin.Slice.slicePlaces (i:Int) (j:Int) 1=j - i:=by
 unfold Builtin.Slice.slicePlaces;have h1:(1:Int) > 0:=by omega
 simp only[h1,if_true,Int.ediv_one]
 split <;> omega
theorem rM{v:Value}{o:Option Int}{Q:Option Int->Shared->Prop}(p:IsPart v o)(h:Q o s):wpAny (model prog w) A (Builtin.Slice.slicePartIndex v) Q E s:=by
 cases p with
 | none=>exact slicePart_none h
 | int i t=>exact slicePart_int h
theorem hV{sl:Addr}{vl vu:Value}{lo hi:Option Int}{n:Nat}{Q:Int×Int×Nat->Shared->Prop}(hs:s.heap.IsSliceOf sl vl vu .none)(pl:IsPart vl lo)(pu:IsPart vu hi)
  (h:Q (((sIx n 0 lo:Nat):Int),1,sIx n n hi - sIx n 0 lo) s):wpAny (model prog w) A (Builtin.Slice.sliceApplied (.ref sl) (pure (n:Int))) Q E s:=by
 obtain⟨os,hos,hcs,hds⟩:=id hs;unfold Builtin.Slice.sliceApplied Builtin.Slice.sliceFields;refine wpAny_bind (wpAny_bind (wpAny_field hos hds (x:=vl) rfl (wpAny_bind (wpAny_field hos hds (x:=vu) rfl (wpAny_bind (wpAny_field hos hds (x:=.none) rfl (wpAny_pure ?_)))))));refine wpAny_bind (slicePart_none ?_);show wpAny _ _ (if((1:Int)==0)=true then _ else _) _ _ s
 rw[if_neg (by decide)]
 refine wpAny_bind (rM pl (wpAny_bind (rM pu (wpAny_bind (wpAny_pure ?_)))));show wpAny _ _ (match Builtin.Slice.sliceAdjust lo hi 1 (n:Int)with |(lo,hi)=>pure (lo,(1:Int),Builtin.Slice.slicePlaces lo hi 1)) _ _ s
 rw[Cc lo hi n];show wpAny _ _ (pure (((sIx n 0 lo:Nat):Int),(1:Int),Builtin.Slice.slicePlaces ((sIx n 0 lo:Nat):Int) ((sIx n n hi:Nat):Int) 1)) _ _ s;rw[Bb];exact wpAny_pure h
theorem Hd(xs:Array Value)(i k:Nat):((List.range k).filterMap fun(m:Nat)=>xs[((i:Int)+(m:Int)*1).toNat]?).toArray =((xs.toList.drop i).take k).toArray:=by
 have e:(fun(m:Nat)=>xs[((i:Int)+(m:Int)*1).toNat]?)=fun m=>xs[i+m]?:=by
  funext m
  have:((i:Int)+(m:Int)*1).toNat=i+m:=by omega
  rw[this]
 rw[e]
 have:=pick_run xs i k
 rw[List.filterMap_map]at this;have e2:((fun x=>xs[x]?) ∘ fun x=>i+x)=fun m=>xs[i+m]?:=rfl
 rw[e2]at this;rw[this]
theorem nC{t sl:Addr}{items:Array Value}{vl vu:Value}{lo hi:Option Int}{Q:Value->Shared->Prop}(ht:IsTup s.heap t items)(hs:s.heap.IsSliceOf sl vl vu .none)(pl:IsPart vl lo)(pu:IsPart vu hi)
  (hw:¬(sIx items.size 0 lo=0/\sIx items.size items.size hi=items.size))
  (h:Q (.ref s.heap.objs.size) { s with heap:=s.heap.push { cls:=.type "tuple",data:=.seq ((items.toList.drop (sIx items.size 0 lo)).take (sIx items.size items.size hi - sIx items.size 0 lo)).toArray } })
  (hsz:items.size<=sizeLine):wpAny (model prog w) A (getItem (.ref t) (.ref sl)) Q E s:=by
 have C6:sizeOk (.seq ((items.toList.drop (sIx items.size 0 lo)).take (sIx items.size items.size hi - sIx items.size 0 lo)).toArray):=by
  show((items.toList.drop (sIx items.size 0 lo)).take (sIx items.size items.size hi - sIx items.size 0 lo)).toArray.size<=sizeLine;rw[List.size_toArray,List.length_take,List.length_drop,Array.length_toList];exact Nat.le_trans (Nat.le_trans (Nat.min_le_right _ _) (Nat.sub_le _ _)) hsz
 have hj:sIx items.size items.size hi<=items.size:=NN _ _ (Nat.le_refl _) hi;obtain⟨os,hos,hcs,hds⟩:=id hs;have hTs:s.TypeIs (.ref sl) "slice":=⟨os,hos,hcs⟩;unfold getItem
 try with_reducible refine wpAny_holding ?_
 first|refine wpAny_bind (wpAny_pure ?_)|skip
 refine wpAny_bind (wpAny_sequenceKey ht.typeIs (by decide) ?_)
 refine wpAny_bind (wpAny_callSpecial?_slot (name:=Str.ofString "__getitem__") ht.typeIs PyProof.Rows.slot_tuple_getitem
  (wpAny_call_entry PyProof.Rows.slot_tuple_getitem ht.typeIs entry_tuple_getitem ?_ (args_tuple_getitem _ _)))
 show wpAny _ _ (Builtin.Tuple.tupleItemsOf (.ref t) >>= _) _ _ s;refine wpAny_bind (tupleItemsOf_ ht ?_);refine wpAny_bind (wpAny_typeOf hTs ?_);rw[if_pos (by decide)]
 refine wpAny_bind (hV hs pl pu ?_);have hno:¬((((sIx items.size 0 lo:Nat):Int)==0&&(1:Int)==1&&(sIx items.size items.size hi - sIx items.size 0 lo)==items.size)=true):=by
  intro q;rw[Bool.and_eq_true,Bool.and_eq_true]at q;have q1:((sIx items.size 0 lo:Nat):Int)=0:=eq_of_beq q.1.1;have q2:sIx items.size items.size hi - sIx items.size 0 lo=items.size:=eq_of_beq q.2;exact hw ⟨by omega,by omega⟩
 show wpAny _ _ (if(((sIx items.size 0 lo:Nat):Int)==0&&(1:Int)==1&&(sIx items.size items.size hi - sIx items.size 0 lo)==items.size)=true then _ else _) _ _ s
 rw[if_neg hno,Hd]
 first
  | exact wpAny_bind (m:=Builtin.Tuple.tupleExact _) (wpAny_newObj_type (wpAny_pure ⟨_,rfl,wpAny_pure h⟩) C6)
  | exact wpAny_bind (m:=Builtin.Tuple.tupleExact _) (wpAny_newObj_type (wpAny_bind (wpAny_pure (wpAny_pure ⟨_,rfl,wpAny_pure h⟩))) C6)
  | exact wpAny_bind (wpAny_bind (m:=Builtin.Tuple.tupleExact _) (wpAny_newObj_type (wpAny_pure (wpAny_pure ⟨_,rfl,wpAny_pure h⟩)) C6))
  | exact wpAny_bind (wpAny_bind (m:=Builtin.Tuple.tupleExact _) (wpAny_newObj_type (wpAny_pure ⟨_,rfl,wpAny_pure h⟩) C6))
end
end HT
namespace L2
open PySem PySem.Spec PyProof.Rows
abbrev TO:=St->Hp ->(Option Int->Hp->Prop)->Prop
def PO(X:Cx)(e:Option Expr)(t:TO):Prop :=
 ∀(pins:List (Addr×Obj))(s:Shared)(σ:St)(H:Hp)(Q:Option Int->Hp->Prop),Inv X pins σ H s->t σ H Q ->
  wpAny (model X.prog X.w) X.A (evalPart e X.env) (fun u s'=>∃ o H',Inv X pins σ H' s'/\IsPart u o/\Q o H') X.xe s
def Cu:TO:=fun _ H Q=>Q none H
def MK(t:TE):TO:=fun σ H Q=>t σ H fun x H1=>∃ i,x = .int i/\Q (some i) H1
section
variable{X:Cx}{e:Expr}{te:TE}{lo hi:Option Expr}{tl th:TO}{pos p2:Pos}
theorem KS:PO X none Cu:=by
 intro pins s σ H Q I h;rw[evalPart_none];exact wpAny_pure ⟨none,H,I,.none,h⟩
theorem xk(h:PE X e te):PO X (some e) (MK te):=by
 intro pins s σ H Q I hw;rw[evalPart_some];refine thn (h pins s σ H _ I hw) fun u s1 hPP=>?_
 obtain⟨x,H1,I1,r1,q1⟩:=hPP;obtain⟨i,rfl,q⟩:=q1;obtain⟨t,rfl⟩:=r1;exact⟨some i,H1,I1,.int i t,q⟩
def SlR(X:Cx)(r:V->Option Int->Option Int->Hp->VK->Prop):Prop :=
 ∀(pins:List (Addr×Obj))(s:Shared)(σ:St)(H:Hp)(x:V)(v vl vu:Value)(lo hi:Option Int)(sl:Addr)(Q:VK),Inv X pins σ H s->RelV x v->s.heap.IsSliceOf sl vl vu .none->IsPart vl lo->IsPart vu hi->r x lo hi H Q ->
  ∃ T id,typeLookup (.type T) "__getitem__" = pure (some (.builtin id))/\s.TypeIs v T/\wpAny (model X.prog X.w) X.A (getItem v (.ref sl)) (EP X pins σ Q) X.xe s
theorem SlR.or{r r':V->Option Int->Option Int->Hp->VK->Prop}(h:SlR X r)(h':SlR X r'):SlR X (fun x lo hi H Q=>r x lo hi H Q\/r' x lo hi H Q):=by
 intro pins s σ H x v vl vu lo hi sl Q I rx hs pl pu q;rcases q with q|q
 ·exact h pins s σ H x v vl vu lo hi sl Q I rx hs pl pu q
 ·exact h' pins s σ H x v vl vu lo hi sl Q I rx hs pl pu q
def tSl(r:V->Option Int->Option Int->Hp->VK->Prop)(te:TE)(tl th:TO):TE:=fun σ H Q=>te σ H fun x H1=>tl σ H1 fun l H2=>th σ H2 fun u H3=>r x l u H3 Q
theorem zq{r:V->Option Int->Option Int->Hp->VK->Prop}(hr:SlR X r)(he:PE X e te)(hl:PO X lo tl)(hu:PO X hi th):PE X (.Subscript e (.Slice lo hi none p2) pos) (tSl r te tl th):=by
 intro pins s σ H Q I h;refine Subscript_ (thn (he pins s σ H _ I h) fun v s1 hPP=>?_)
 obtain⟨x,H1,I1,r1,q1⟩:=hPP;refine wpAny_Slice (thn (hl pins s1 σ H1 _ I1 q1) fun vl s2 ⟨l,H2,I2,pl,q2⟩=>thn (hu pins s2 σ H2 _ I2 q2) fun vu s3 hPP=>?_)
 obtain⟨u,H3,I3,pu,q3⟩:=hPP;rw[evalPart_none];refine wpAny_pure ?_;have I4:Inv X pins σ H3 { s3 with heap:=s3.heap.push { cls:=.type "slice",data:=.fields #[vl,vu,.none] } }:=I3.kept (t':=s3.toks) fun b ob q=>Heap.get?_push_of_some _ q
 obtain⟨T,id,hT,ht,hg⟩:=hr pins { s3 with heap:=s3.heap.push { cls:=.type "slice",data:=.fields #[vl,vu,.none] } } σ H3 x v vl vu l u s3.heap.objs.size Q I4 r1 (Heap.IsSliceOf.new ..) pl pu q3
 show wpAny (model X.prog X.w) X.A (subscriptTail e (.Slice lo hi none p2) v (.ref s3.heap.objs.size)) (EP X pins σ Q) X.xe { s3 with heap:=s3.heap.push { cls:=.type "slice",data:=.fields #[vl,vu,.none] } }
 exact tail_any (ops:=[.ref s3.heap.objs.size,v]) ht hT hg (by with_unfolding_all rfl)
def mF(xs:List V)(lo hi:Option Int):List V:=(xs.drop (HT.sIx xs.length 0 lo)).take (HT.sIx xs.length xs.length hi - HT.sIx xs.length 0 lo)
theorem p9(xs:List V)(lo hi:Option Int):(mF xs lo hi).length<=xs.length:=by
 unfold mF;rw[List.length_take,List.length_drop];exact Nat.le_trans (Nat.min_le_right _ _) (Nat.sub_le _ _)
def SE(K:W.Frag):V->Option Int->Option Int->Hp->VK->Prop:=fun x lo hi H Q=>∃ a xs,x = .ref a/\SqT K H a xs /\
 ¬(HT.sIx xs.length 0 lo=0/\HT.sIx xs.length xs.length hi=xs.length)/\∀ p,H p=none->Q (.ref p) (upd H p (.tup (mF xs lo hi)))
theorem NG:SlR X (SE X.K):=by
 intro pins s σ H x v vl vu lo hi sl Q I rx hs pl pu h;obtain⟨a,xs,rfl,hx,hw,q⟩:=h;cases rx;obtain⟨its,r,ht,hz⟩:=I.tuple hx;have hlen:its.toArray.size=xs.length:=by rw[List.size_toArray];exact r.length.symm
 refine⟨"tuple",_,PyProof.Rows.slot_tuple_getitem.lookup,ht.typeIs,?_⟩;refine HT.nC ht hs pl pu (by rw[hlen];exact hw) ?_ (by rw[hlen];exact hz)
 rw[hlen];refine⟨.ref s.heap.objs.size,_,I.laid (t':=s.toks) (o:=.tup (mF xs lo hi)) (fun b ob q=>Heap.get?_push_of_some _ q) (Nat.le_refl _) ?_,rfl,q _ (I.hok.fresh (Nat.le_refl _))⟩
 exact⟨Nat.le_trans (p9 xs lo hi) hz,_,(r.drop (HT.sIx xs.length 0 lo)).take (HT.sIx xs.length xs.length hi - HT.sIx xs.length 0 lo),mL.new _ _⟩
def Qq(K:W.Frag):R2:=fun x y H Q=>∃ a b xs ys,x = .ref a/\y = .ref b/\SqT K H a xs/\SqT K H b ys/\xs ≠ []/\xs.length+ys.length<=sizeLine /\
 (ys = []->Q (.ref a) H)/\(ys ≠ []->∀ p,H p=none->Q (.ref p) (upd H p (.tup (xs++ys))))
theorem Vals.iW{xs:List V}{us:List Value}(r:Vals xs us):us = [] ↔ xs = []:=by
 cases r with
 | nil=>simp
 | cons _ _=>simp
theorem Lg:OpR X (binaryOp .Add) (Qq X.K):=by
 intro pins s σ H x y v u Q I rx ry h;obtain⟨a,b,xs,ys,rfl,rfl,ha,hb,hx,hz,q1,q2⟩:=h;cases rx;cases ry;obtain⟨its,r1,p1,_⟩:=I.tuple ha;obtain⟨eU,r2,p2,_⟩:=I.tuple hb;refine HT.Ms p1 p2 (fun z=>hx (r1.iW.mp z)) (fun z=>⟨.ref a,H,I,rfl,q1 (r2.iW.mp z)⟩) (fun z=>?_) (by rw[<- r1.length,<- r2.length];exact hz)
 refine⟨.ref s.heap.objs.size,_,I.laid (t':=s.toks) (o:=.tup (xs++ys)) (fun b ob q=>Heap.get?_push_of_some _ q) (Nat.le_refl _) ?_,rfl,q2 (fun w=>z (r2.iW.mpr w)) _ (I.hok.fresh (Nat.le_refl _))⟩
 exact⟨by rw[List.length_append];exact hz,_,r1.append r2,mL.new _ _⟩
end
def ixN(n:Nat)(i:Int):Option Nat:=if 0<=i then(if i<n then some i.toNat else none)else if -(n:Int)<=i then some (i+n).toNat else none
def atI{α:Type}(xs:List α)(i:Int):Option α:=(ixN xs.length i).bind fun j=>xs[j]?
theorem C3{n:Nat}{i:Int}{j:Nat}(h:ixN n i=some j):seqIndex? i n=some j/\j<n /\ -(n:Int)<=i/\i<n:=by
 unfold ixN at h;by_cases h0:0<=i
 ·rw[if_pos h0]at h;by_cases h1:i<n
  ·rw[if_pos h1]at h;have e:i.toNat=j:=Option.some.inj h;exact⟨by rw[seqIndex_of h0 h1,e],by omega,by omega,h1⟩
  ·rw[if_neg h1]at h;cases h
 ·rw[if_neg h0]at h;by_cases h1:-(n:Int)<=i
  ·rw[if_pos h1]at h;have e:(i+n).toNat=j:=Option.some.inj h;exact⟨by rw[seqIndex_neg (by omega) h1,e],by omega,h1,by omega⟩
  ·rw[if_neg h1]at h;cases h
theorem yC{α:Type}{xs:List α}{i:Int}{v:α}(h:atI xs i=some v):∃ j,seqIndex? i xs.length=some j/\xs[j]? = some v/\j<xs.length /\ -(xs.length:Int)<=i/\i<xs.length:=by
 unfold atI at h;cases e:ixN xs.length i with
 | none=>rw[e]at h;cases h
 | some j =>
  rw[e]at h;obtain⟨h1,h2,h3,h4⟩:=C3 e;exact⟨j,h1,h,h2,h3,h4⟩
theorem yB{α:Type}{xs:List α}{j:Nat}{v:α}(h:xs[j]? = some v):atI xs (j:Int)=some v:=by
 have hj:j<xs.length:=(List.getElem?_eq_some_iff.mp h).1;have e:ixN xs.length (j:Int)=some j:=by
  unfold ixN;rw[if_pos (by omega),if_pos (by omega)];simp
 unfold atI;rw[e];exact h
def rh(b:Expr):Prop:=∀ o i,subscripted b false o i=operate [o,i] (getItem o i)
def IxR(X:Cx)(r:R2):Prop :=
 ∀(value slice:Expr)(pins:List (Addr×Obj))(s:Shared)(σ:St)(H:Hp)(x y:V)(v u:Value)(Q:VK),Inv X pins σ H s->RelV x v->RelV y u->r x y H Q ->
  subscripted slice false v u=operate [v,u] (getItem v u)->wpAny (model X.prog X.w) X.A (subscriptTail value slice v u) (EP X pins σ Q) X.xe s
def MtR(X:Cx)(id:String)(r:V->List V->Hp->VK->Prop):Prop :=
 ∀(pins:List (Addr×Obj))(s:Shared)(σ:St)(H:Hp)(x:V)(xs:List V)(v:Value)(us:List Value)(Q:VK),Inv X pins σ H s->RelV x v->Vals xs us->r x xs H Q ->
  wpAny (model X.prog X.w) X.A (call (.builtin id) (v::us)) (EP X pins σ Q) X.xe s
section
variable{X:Cx}{a b:Expr}{ta tb:TE}{pos:Pos}
theorem IxR.or{r r':R2}(h:IxR X r)(h':IxR X r'):IxR X (fun x y H Q=>r x y H Q\/r' x y H Q):=by
 intro value slice pins s σ H x y v u Q I rx ry q hs;rcases q with q|q
 ·exact h value slice pins s σ H x y v u Q I rx ry q hs
 ·exact h' value slice pins s σ H x y v u Q I rx ry q hs
theorem pR{r:R2}(hr:IxR X r)(ha:PE X a ta)(hb:PE X b tb)(hs:rh b):PE X (.Subscript a b pos) (tOp r ta tb):=by
 intro pins s σ H Q I h;exact Subscript_ (Py ha hb I h fun v u s2 x y H2 I2 rx ry q=>hr a b pins s2 σ H2 x y v u Q I2 rx ry q (hs _ _))
def Qk(K:W.Frag):R2:=fun x y H Q=>∃ p xs i v,x = .ref p/\y = .int i/\SqL K H p xs/\atI xs i=some v/\Q v H
def Qi(K:W.Frag):R2:=fun x y H Q=>∃ p xs i v,x = .ref p/\y = .int i/\SqT K H p xs/\atI xs i=some v/\Q v H
def Qj:R2:=fun x y H Q=>∃ z i c,x = .str z/\y = .int i/\z.length<=sizeLine/\atI z.cps.toList i=some c/\Q (.str ⟨#[c]⟩) H
theorem kI:IxR X (Qk X.K):=by
 intro value slice pins s σ H x y v u Q I rx ry h hs;obtain⟨p,xs,i,z,rfl,rfl,hq,he,q⟩:=h;cases rx;obtain⟨t,rfl⟩:=ry;obtain⟨its,r,pl,hz⟩:=I.list hq;obtain⟨j,h1,h2,h3,h4,h5⟩:=yC he;obtain⟨w,ew,rw'⟩:=r.get h2;have hl:=r.length;have hn:=mx;have fin:EP X pins σ Q w s:=⟨z,H,I,rw',q⟩;by_cases h0:0<=i
 ·have hj:i.toNat=j:=by
   rw[seqIndex_of h0 h5]at h1;exact Option.some.inj h1
  exact item_listR pl.isList h0 (by omega) (by rw[hj];simpa using ew) fin hs
 ·have hj:(i+(its.toArray.size:Int)).toNat=j:=by
   rw[seqIndex_neg (by omega) h4]at h1
   rw[List.size_toArray,<- hl];exact Option.some.inj h1
  exact subscriptTail_builtinR (x:=w) pl.isList.typeIs slot_list_getitem.lookup
   (wpAny_getItem_list_neg (Q:=fun r s'=>r=w/\EP X pins σ Q r s') pl.isList (by omega) (by rw[List.size_toArray] <;> omega) (by omega) (by rw[hj];simpa using ew) ⟨rfl,fin⟩) hs
theorem O2:IxR X (Qi X.K):=by
 intro value slice pins s σ H x y v u Q I rx ry h hs;obtain⟨p,xs,i,z,rfl,rfl,hq,he,q⟩:=h;cases rx;obtain⟨t,rfl⟩:=ry;obtain⟨its,r,pl,hz⟩:=I.tuple hq;obtain⟨j,h1,h2,h3,h4,h5⟩:=yC he;obtain⟨w,ew,rw'⟩:=r.get h2;have hl:=r.length;have hn:=mx;have fin:EP X pins σ Q w s:=⟨z,H,I,rw',q⟩;exact subscriptTail_builtinR (x:=w) pl.typeIs slot_tuple_getitem.lookup
  (getItem_tuple (j:=j) (Q:=fun r s'=>r=w/\EP X pins σ Q r s') pl (by omega) (by omega) (by rw[List.size_toArray,<- hl];exact h1) (by simpa using ew) ⟨rfl,fin⟩) hs
theorem O3:IxR X Qj:=by
 intro value slice pins s σ H x y v u Q I rx ry h hs;obtain⟨z,i,c,rfl,rfl,hz,he,q⟩:=h;obtain⟨t,rfl⟩:=rx;obtain⟨t',rfl⟩:=ry;obtain⟨j,h1,h2,h3,h4,h5⟩:=yC he;have hl:z.cps.toList.length=z.length:=by simp[Str.length]
 rw[hl]at h1 h4 h5;have hn:=mx;exact tail_any (typeIs_str s z t) slot_str_getitem.lookup (getItem_str (c:=c) (by
  have e1:decide (i < -(2 ^ 63:Int))=false:=decide_eq_false (by omega)
  have e2:decide (i ≥ 2 ^ 63)=false:=decide_eq_false (by omega)
  rw[e1,e2,Bool.or_false]) (by rw[h1];simpa using h2) ⟨.str ⟨#[c]⟩,H,I.tok _,⟨_,rfl⟩,q⟩) hs
def rIx(K:W.Frag):R2:=fun x y H Q=>Qk K x y H Q\/Qi K x y H Q\/Qj x y H Q
theorem BF:IxR X (rIx X.K):=kI.or (O2.or O3)
theorem Bq(its:List Value)(n j:Nat)(u:Value):Obj.mapSeq (·.setIfInBounds j u) { cls:=.type "list",data:=.seq its.toArray n } ={ cls:=.type "list",data:=.seq (its.set j u).toArray n }:=by
 simp[Obj.mapSeq]
theorem Inv.lst{pins:List (Addr×Obj)}{σ:St}{H:Hp}{s:Shared}{p:Addr}{xs:List V}(I:Inv X pins σ H s)(h:H p=some (.lst xs)) :
  ∃(its:List Value)(n:Nat),Vals xs its/\s.heap.get? p=some { cls:=.type "list",data:=.seq its.toArray n }/\xs.length<=sizeLine:=by
 obtain⟨z,its,n,r,e⟩:=I.hok p _ h;exact⟨its,n,r,e,z⟩
theorem Inv.OR{pins:List (Addr×Obj)}{σ:St}{H:Hp}{s:Shared}{p:Addr}{xs ys:List V}{its its':List Value}{n n':Nat}{f:Obj->Obj}(I:Inv X pins σ H s)(h:H p=some (.lst xs))
  (ho:s.heap.get? p=some { cls:=.type "list",data:=.seq its.toArray n }) (hf:f { cls:=.type "list",data:=.seq its.toArray n } ={ cls:=.type "list",data:=.seq its'.toArray n' }) (r:Vals ys its') (hz:ys.length<=sizeLine) (t:Nat) :
  Inv X pins σ (upd H p (.lst ys)) { s with heap:=s.heap.update p f,toks:=t }:=by
 have e:(s.heap.update p f).get? p=some { cls:=.type "list",data:=.seq its'.toArray n' }:=by
  rw[Heap.get?_update_self f ho (by rw[hf] <;> rfl),hf]
 refine I.write (x:=p) (e:=p) (by rw[h];trivial) (.inl rfl) (fun b u hb q=>(Heap.get?_update_other _ _ (Ne.symm hb)).trans q) ⟨_,e⟩ ?_
 exact⟨hz,its',n',r,e⟩
def GA:V->V->V->Hp ->(Hp->Prop)->Prop:=fun o i v H Q=>∃ p xs k j,o = .ref p/\i = .int k/\H p=some (.lst xs)/\ixN xs.length k=some j/\Q (upd H p (.lst (xs.set j v)))
theorem set_list:Sj X GA:=by
 intro pins s σ H o i v ov iv u Q I ro ri rv h;obtain⟨p,xs,k,j,rfl,rfl,hp,hj,q⟩:=h;cases ro;obtain⟨t,rfl⟩:=ri;obtain⟨its,n,r,ho,hz⟩:=I.lst hp;obtain⟨h1,h2,h3,h4⟩:=C3 hj;have hl:=r.length;have hn:=mx;have I':Inv X pins σ (upd H p (.lst (xs.set j v))) { s with heap:=s.heap.update p (Obj.mapSeq (·.setIfInBounds j u)) } :=
  I.OR hp ho (Bq its n j u) (r.set rv j) (by rw[List.length_set];exact hz) s.toks
 by_cases h0:0<=k
 ·have hk:k.toNat=j:=by
   rw[seqIndex_of h0 h4]at h1;exact Option.some.inj h1
  exact W.ki_setAt ho h0 (by omega) (by rw[List.size_toArray,<- hl];exact h4) (by rw[hk];exact⟨_,I',q⟩)
 ·have hk:(k+(its.toArray.size:Int)).toNat=j:=by
   rw[seqIndex_neg (by omega) h3]at h1
   rw[List.size_toArray,<- hl];exact Option.some.inj h1
  exact W.ki_setBack ho (by omega) (by rw[List.size_toArray,<- hl];exact h3) (by omega) (by rw[hk];exact⟨_,I',q⟩)
theorem mU(lo hi:Option Int)(n:Nat):(sliceBounds lo hi none n).1 =((HT.sIx n 0 lo:Nat):Int)/\(sliceBounds lo hi none n).2.1 =((HT.sIx n n hi:Nat):Int)/\(sliceBounds lo hi none n).2.2=1:=by
 refine⟨?_,?_,rfl⟩
 ·cases lo with
  | none=>simp[sliceBounds,HT.sIx]
  | some i =>
   simp only[sliceBounds,HT.sIx,Option.getD_none,show(1:Int) > 0 by decide,if_true]
   by_cases h:i<0
   ·simp only[h,if_true] <;> first|exact HT.Gd _ _ h|omega
   ·simp only[h,if_false] <;> first|exact HT.Gb _ _ h|omega
 ·cases hi with
  | none=>simp[sliceBounds,HT.sIx]
  | some i =>
   simp only[sliceBounds,HT.sIx,Option.getD_none,show(1:Int) > 0 by decide,if_true]
   by_cases h:i<0
   ·simp only[h,if_true] <;> first|exact HT.Gd _ _ h|omega
   ·simp only[h,if_false] <;> first|exact HT.Gb _ _ h|omega
theorem uF(its:List Value)(lo hi:Option Int):slicePick its.toArray lo hi none =((its.drop (HT.sIx its.length 0 lo)).take (HT.sIx its.length its.length hi - HT.sIx its.length 0 lo)).toArray:=by
 obtain⟨h1,h2,h3⟩:=mU lo hi its.toArray.size;unfold slicePick;rw[h1,h2,h3];simp only[sliceRange_one,pick_run,List.size_toArray] <;> rfl
def Qf(K:W.Frag):V->Option Int->Option Int->Hp->VK->Prop:=fun x lo hi H Q=>∃ a xs,x = .ref a/\SqL K H a xs/\∀ p,H p=none->Q (.ref p) (upd H p (.lst (mF xs lo hi)))
theorem Cz:SlR X (Qf X.K):=by
 intro pins s σ H x v vl vu lo hi sl Q I rx hs pl pu h;obtain⟨a,xs,rfl,hx,q⟩:=h;cases rx;obtain⟨its,r,ht,hz⟩:=I.list hx;have hlen:=r.length;refine⟨"list",_,slot_list_getitem.lookup,ht.isList.typeIs,?_⟩;refine wpAny_getItem_list_slice ht.isList hs pl pu .none (by simp) ?_ (by rw[List.size_toArray] <;> omega)
 rw[uF,<- hlen];refine⟨.ref s.heap.objs.size,_,I.laid (t':=s.toks) (o:=.lst (mF xs lo hi)) (fun b ob q=>Heap.get?_push_of_some _ q) (Nat.le_refl _) ?_,rfl,q _ (I.hok.fresh (Nat.le_refl _))⟩
 exact⟨Nat.le_trans (p9 xs lo hi) hz,_,0,(r.drop (HT.sIx xs.length 0 lo)).take (HT.sIx xs.length xs.length hi - HT.sIx xs.length 0 lo),Heap.get?_push_size _ rfl⟩
def gJ:V->Bool
 | .non=>true
 | .bl _=>true
 | .int _=>true
 | .str _=>true
 | _=>false
def eqV:V->V->Bool
 | .non,.non=>true
 | .bl a,.bl b=>a==b
 | .bl a,.int b=>(if a then 1 else 0)==b
 | .int a,.bl b=>a ==(if b then 1 else 0)
 | .int a,.int b=>a==b
 | .str a,.str b=>a==b
 | _,_=>false
theorem tJ{A:Around}{s:Shared}{y x:V}{u v:Value}(ry:RelV y u)(rx:RelV x v)(fy:gJ y=true)(fx:gJ x=true):SeqAt.EqAt A s u v (eqV y x):=by
 cases y with
 | non =>
  cases ry;cases x with
  | non=>cases rx;exact SeqAt.EqAt.same _
  | bl b=>cases rx;exact SeqAt.EqAt.none_bool b
  | int b=>obtain⟨t,rfl⟩:=rx;exact SeqAt.EqAt.none_int b t
  | str b=>obtain⟨t,rfl⟩:=rx;exact SeqAt.EqAt.none_str b t
  | _=>exact absurd (show false=true from fx) Bool.false_ne_true
 | bl a =>
  cases ry;cases x with
  | non=>cases rx;exact SeqAt.EqAt.bool_none a
  | bl b=>cases rx;exact SeqAt.EqAt.bool_bool a b
  | int b=>obtain⟨t,rfl⟩:=rx;exact SeqAt.EqAt.bool_int a b t
  | str b=>obtain⟨t,rfl⟩:=rx;exact SeqAt.EqAt.bool_str a b t
  | _=>exact absurd (show false=true from fx) Bool.false_ne_true
 | int a =>
  obtain⟨t',rfl⟩:=ry;cases x with
  | non=>cases rx;exact SeqAt.EqAt.int_none a t'
  | bl b=>cases rx;exact SeqAt.EqAt.int_bool a t' b
  | int b=>obtain⟨t,rfl⟩:=rx;exact SeqAt.EqAt.int_int a t' b t
  | str b=>obtain⟨t,rfl⟩:=rx;exact SeqAt.EqAt.int_str a t' b t
  | _=>exact absurd (show false=true from fx) Bool.false_ne_true
 | str a =>
  obtain⟨t',rfl⟩:=ry;cases x with
  | non=>cases rx;exact SeqAt.EqAt.str_none a t'
  | bl b=>cases rx;exact SeqAt.EqAt.str_bool a t' b
  | int b=>obtain⟨t,rfl⟩:=rx;exact SeqAt.EqAt.str_int a t' b t
  | str b=>obtain⟨t,rfl⟩:=rx;exact SeqAt.EqAt.str_str a t' b t
  | _=>exact absurd (show false=true from fx) Bool.false_ne_true
 | _=>exact absurd (show false=true from fy) Bool.false_ne_true
def eqU(x:V)(u:Value):Bool:=match u with
 | .none=>eqV .non x
 | .bool b=>eqV (.bl b) x
 | .int i _=>eqV (.int i) x
 | .str z _=>eqV (.str z) x
 | _=>false
theorem IU{x y:V}{u:Value}(r:RelV y u)(f:gJ y=true):eqU x u=eqV y x:=by
 cases y with
 | non=>cases r;rfl
 | bl b=>cases r;rfl
 | int i=>obtain⟨t,rfl⟩:=r;rfl
 | str z=>obtain⟨t,rfl⟩:=r;rfl
 | _=>exact absurd (show false=true from f) Bool.false_ne_true
theorem nQ{x:V}:∀{xs:List V}{us:List Value},Vals xs us->xs.all gJ=true->us.any (eqU x)=xs.any fun y=>eqV y x
 | _,_,.nil,_=>rfl
 | y::xs,u::us,.cons r t,f=>by
  rw[List.all_cons,Bool.and_eq_true]at f;rw[List.any_cons,List.any_cons,IU r f.1,nQ t f.2]
theorem jS{A:Around}{s:Shared}{x:V}{v:Value}(rx:RelV x v)(fx:gJ x=true):∀{xs:List V}{us:List Value},Vals xs us->xs.all gJ=true->∀ u∈us,SeqAt.EqAt A s u v (eqU x u)
 | _,_,.nil,_=>fun u hu=>by cases hu
 | y::xs,u::us,.cons r t,f=>fun u' hu=>by
  rw[List.all_cons,Bool.and_eq_true]at f;rcases List.mem_cons.mp hu with rfl|hu
  ·rw[IU r f.1];exact tJ r rx f.1 fx
  ·exact jS rx fx t f.2 u' hu
def inV(x:V)(xs:List V):Bool:=xs.any fun y=>eqV y x
def rIn(K:W.Frag)(neg:Bool):R2:=fun x y H Q=>∃ p xs,y = .ref p/\(SqL K H p xs\/SqT K H p xs)/\gJ x=true/\xs.all gJ=true/\Q (.bl (if neg then !inV x xs else inV x xs)) H
theorem Ea:OpR X (compareOp .In) (rIn X.K false):=by
 intro pins s σ H x y v u Q I rx ry h;obtain⟨p,xs,rfl,hq,fx,fs,q⟩:=h;cases ry;rcases hq with hq|hq
 ·obtain⟨its,r,pl,hz⟩:=I.list hq;refine SeqAt.in_listAt (eqU x) pl.isList (fun w hw=>jS rx fx r fs w (by simpa using hw)) ⟨.bl _,H,I,rfl,?_⟩
  rw[show its.toArray.any (eqU x)=its.any (eqU x)by simp,nQ r fs]
  exact q
 ·obtain⟨its,r,pl,hz⟩:=I.tuple hq;refine SeqAt.in_tupleAt (eqU x) pl (fun w hw=>jS rx fx r fs w (by simpa using hw)) ⟨.bl _,H,I,rfl,?_⟩
  rw[show its.toArray.any (eqU x)=its.any (eqU x)by simp,nQ r fs]
  exact q
theorem xq:OpR X (compareOp .NotIn) (rIn X.K true):=by
 intro pins s σ H x y v u Q I rx ry h;obtain⟨p,xs,rfl,hq,fx,fs,q⟩:=h;cases ry;rcases hq with hq|hq
 ·obtain⟨its,r,pl,hz⟩:=I.list hq;refine SeqAt.notIn_listAt (eqU x) pl.isList (fun w hw=>jS rx fx r fs w (by simpa using hw)) ⟨.bl _,H,I,rfl,?_⟩
  rw[show its.toArray.any (eqU x)=its.any (eqU x)by simp,nQ r fs]
  exact q
 ·obtain⟨its,r,pl,hz⟩:=I.tuple hq;refine SeqAt.notIn_tupleAt (eqU x) pl (fun w hw=>jS rx fx r fs w (by simpa using hw)) ⟨.bl _,H,I,rfl,?_⟩
  rw[show its.toArray.any (eqU x)=its.any (eqU x)by simp,nQ r fs]
  exact q
theorem jh:c7 X (.builtin "len") (fun xs H Q=>∃ p ys,xs = [.ref p]/\(SqL X.K H p ys\/SqT X.K H p ys)/\Q (.int ys.length) H):=by
 intro pins s σ H xs us Q I r h;obtain⟨p,ys,rfl,hq,q⟩:=h;obtain⟨u,rfl,rx⟩:=vals1 r;cases rx;have hn:=mx;rcases hq with hq|hq
 ·obtain⟨its,r',pl,hz⟩:=I.list hq;have hlen:=r'.length;exact Calls.call_len_list pl.isList (by simp only[List.size_toArray] <;> omega) ⟨.int ys.length,H,I.tok _,⟨s.toks+1,by rw[List.size_toArray,hlen]⟩,q⟩
 ·obtain⟨its,r',pl,hz⟩:=I.tuple hq;have hlen:=r'.length;exact len_tuple pl (by simp only[List.size_toArray] <;> omega) ⟨.int ys.length,H,I.tok _,⟨s.toks+1,by rw[List.size_toArray,hlen]⟩,q⟩
theorem yk:c7 X (.builtin "len") (fun xs H Q=>∃ z,xs = [.str z]/\z.length<=sizeLine/\Q (.int z.length) H):=by
 intro pins s σ H xs us Q I r h;obtain⟨z,rfl,hz,q⟩:=h;obtain⟨u,rfl,t,rfl⟩:=vals1 r;have hn:=mx;exact len_str (by omega) ⟨.int z.length,H,I.tok _,⟨_,rfl⟩,q⟩
theorem c7.or{f:Value}{r r':List V->Hp->VK->Prop}(h:c7 X f r)(h':c7 X f r'):c7 X f (fun xs H Q=>r xs H Q\/r' xs H Q):=by
 intro pins s σ H xs us Q I rs q;rcases q with q|q
 ·exact h pins s σ H xs us Q I rs q
 ·exact h' pins s σ H xs us Q I rs q
theorem vq:c7 X (.type "tuple") (fun xs H Q=>∃ p ys,xs = [.ref p]/\((SqL X.K H p ys/\∀ l,H l=none->Q (.ref l) (upd H l (.tup ys)))\/(SqT X.K H p ys/\Q (.ref p) H))):=by
 intro pins s σ H xs us Q I r h;obtain⟨p,ys,rfl,h⟩:=h;obtain⟨u,rfl,rx⟩:=vals1 r;cases rx;rcases h with⟨hq,q⟩ |⟨hq,q⟩
 ·obtain⟨its,r',pl,hz⟩:=I.list hq;have hlen:=r'.length;refine call_tuple_list pl.isList (fun h' kp=>?_) (by simp only[List.size_toArray] <;> omega)
  have I1:Inv X pins σ H { s with heap:=h' }:=I.kept (t':=s.toks) kp
  have I2:Inv X pins σ (upd H h'.objs.size (.tup ys)) { s with heap:=h'.push { cls:=.type "tuple",data:=.seq its.toArray } } :=
   I1.laid (t':=s.toks) (fun b o e=>Heap.get?_push_of_some _ e) (Nat.le_refl _) (show bK X.prog X.w _ _ _ (.tup ys)from⟨hz,its,r',mL.new _ _⟩)
  exact⟨.ref h'.objs.size,_,I2,rfl,q _ (I1.hok.fresh (Nat.le_refl _))⟩
 ·obtain⟨its,r',pl,hz⟩:=I.tuple hq;exact call_tuple_same pl ⟨.ref p,H,I,rfl,q⟩
def tyV(K:W.Frag)(T:String)(x:V)(H:Hp):Prop:=match x with
 | .str _=>T = "str"
 | .int _=>T = "int"
 | .ref p=>(T = "list" /\ ∃ xs,SqL K H p xs)\/(T = "tuple" /\ ∃ o,K.lookup p=some o/\o.cls = .type "tuple" /\ o.dict=none) \/
   (T = "dict" /\ ((∃ kvs,H p=some (.dK kvs))\/∃ kvs,H p=some (.dT kvs)))\/(T = "set" /\ ∃ S n,H p=some (.set S n))
 | _=>False
theorem FL{pins:List (Addr×Obj)}{σ:St}{H:Hp}{s:Shared}{T:String}{x:V}{v:Value}(I:Inv X pins σ H s)(r:RelV x v)(ty:tyV X.K T x H) :
  s.TypeIs v T/\∀ a,v = .ref a->∃ ob,s.heap.get? a=some ob/\ob.dict=none:=by
 cases x with
 | str z =>
  obtain⟨t,rfl⟩:=r
  cases(show T = "str" from ty)
  exact⟨typeIs_str s z t,fun _ e=>nomatch e⟩
 | int i =>
  obtain⟨t,rfl⟩:=r
  cases(show T = "int" from ty)
  exact⟨typeIs_int s i t,fun _ e=>nomatch e⟩
 | ref p =>
  cases r;rcases ty with⟨rfl,xs,hq⟩ |⟨rfl,o,hk,hc,hd⟩ |⟨rfl,hk⟩ |⟨rfl,S,n,hk⟩
  ·obtain⟨its,_,pl,_⟩:=I.list hq;refine⟨pl.isList.typeIs,fun a e=>?_⟩
   cases e;obtain⟨o,n,e,c,hd,_⟩:=pl;exact⟨o,e,hd⟩
  ·refine⟨⟨o,I.kIn p o hk,hc⟩,fun a e=>?_⟩
   cases e;exact⟨o,I.kIn _ o hk,hd⟩
  ·have z:∃ o,s.heap.get? p=some o/\o.ExactDict:=by
    rcases hk with⟨kvs,hk⟩ |⟨kvs,hk⟩
    ·obtain⟨_,_,_,_,o,_,_,e,ex,_⟩:=I.hok p _ hk;exact⟨o,e,ex⟩
    ·obtain⟨_,_,_,_,o,_,_,e,ex,_⟩:=I.hok p _ hk;exact⟨o,e,ex⟩
   obtain⟨o,e,ex⟩:=z;refine⟨⟨o,e,ex.1⟩,fun a e2=>?_⟩
   cases e2;exact⟨o,e,ex.2.1⟩
  ·obtain⟨o,_,_,_,e,ex,_⟩:=I.hok p _ hk;refine⟨⟨o,e,ex.1⟩,fun a e2=>?_⟩
   cases e2;exact⟨o,e,ex.2.1⟩
 | _=>exact False.elim ty
def J5(K:W.Frag)(T:String)(r:V->List V->Hp->VK->Prop)(to:TE):TE:=fun σ H Q=>to σ H fun x H1=>tyV K T x H1/\r x [] H1 Q
def tBM(K:W.Frag)(T:String)(r:V->List V->Hp->VK->Prop)(to:TE)(t:TA):TE:=fun σ H Q=>to σ H fun x H1=>tyV K T x H1/\t σ H1 fun xs H2=>r x xs H2 Q
variable{o e:Expr}{es:List Expr}{to:TE}{t:TA}{name:Str}{apos bc:Pos}{T id:String}{r:V->List V->Hp->VK->Prop}
theorem so(pa:PlainAttrs T)(slot:Slot T name id)(hty:typeOf (.builtin id)=pure (.type "method_descriptor"))(hm:MtR X id r)(ho:PE X o to)
  (dJ:attributeBase o name X.env (eval o X.env)=eval o X.env:=by rfl) (dI:(apos.endLine==bc.line)=true:=by rfl):PE X (.Call (.Attribute o name apos) [] [] bc) (J5 X.K T r to):=by
 intro pins s σ H Q I h;refine wpAny_Call_method0_late dJ dI (thn (ho pins s σ H _ I h) fun v s1 hPP=>?_)
 obtain⟨x,H1,I1,r1,ty,q1⟩:=hPP;obtain⟨h1,h2⟩:=FL I1 r1 ty;exact⟨T,id,pa,slot,hty,h1,h2,Calls.callWith_builtin rfl (PySem.evalArgs_none (hm pins s1 σ H1 x [] v [] Q I1 r1 .nil q1))⟩
theorem su(pa:PlainAttrs T)(slot:Slot T name id)(hty:typeOf (.builtin id)=pure (.type "method_descriptor"))(hm:MtR X id r)(ho:PE X o to)(ha:PA X (e::es) t)
  (dJ:attributeBase o name X.env (eval o X.env)=eval o X.env:=by rfl)
  (mD:((backTo bc (starEach (e::es) X.env)).all (fun x=>!x.1)&&(backToKw bc (keywordEach [] X.env)).all (fun x=>x.1.isSome)
   && decide ((e::es).length+([]:List Keyword).length+(if([]:List Keyword).isEmpty then 0 else 1)<30))=true:=by rfl)
  (dI:(apos.endLine==bc.line)=true:=by rfl) (hs:starEach (e::es) X.env =(false,eval e X.env)::starEach es X.env:=by rfl) (gx:(backTo bc (starEach es X.env)).any (·.1)=false:=by rfl) :
  PE X (.Call (.Attribute o name apos) (e::es) [] bc) (tBM X.K T r to t):=by
 intro pins s σ H Q I h;refine wpAny_Call_method_late dJ mD dI rfl (thn (ho pins s σ H _ I h) fun v s1 hPP=>?_)
 obtain⟨x,H1,I1,r1,ty,q1⟩:=hPP;obtain⟨h1,h2⟩:=FL I1 r1 ty;refine⟨T,id,pa,slot,hty,h1,h2,?_⟩;have hA:=ha bc pins s1 σ H1 _ I1 q1;rw[hs]at hA ⊢;refine Calls.callWith_builtin (by show(false ||(backTo bc (starEach es X.env)).any (·.1))=false;rw[gx] <;> rfl) (Calls.evalArgs_plain ?_)
 refine thn hA fun us s2 hPP=>?_
 obtain⟨vs,H2,I2,r2,q2⟩:=hPP;exact hm pins s2 σ H2 x vs v us Q I2 r1 r2 q2
end
def MtM(X:Cx)(id:String)(r:V->List V->Hp->VK->Prop):Prop :=
 ∀(pins:List (Addr×Obj))(s:Shared)(σ:St)(H:Hp)(x:V)(xs:List V)(v:Value)(us:List Value)(Q:VK),Inv X pins σ H s->RelV x v->Vals xs us->r x xs H Q ->
  wpAny (model X.prog X.w) X.A (call (.builtin id) (v::us)) (EP X pins σ Q) X.xe s
theorem Vals.one:∀{x:V}{us:List Value},Vals [x] us->∃ u,us = [u]/\RelV x u:=by
 intro x us h;cases h with
 | cons r t=>cases t;exact⟨_,rfl,r⟩
theorem Vals.zero:∀{us:List Value},Vals [] us->us = []
 | _,.nil=>rfl
theorem Vals.dropLast{xs:List V}{us:List Value}(h:Vals xs us):Vals xs.dropLast us.dropLast:=by
 induction h with
 | nil=>exact .nil
 | cons r t ih =>
  cases t with
  | nil=>exact .nil
  | cons q t'=>exact .cons r ih
theorem Vals.reverse{xs:List V}{us:List Value}(h:Vals xs us):Vals xs.reverse us.reverse:=by
 induction h with
 | nil=>exact .nil
 | cons r t ih=>rw[List.reverse_cons,List.reverse_cons];exact Vals.append ih (.cons r .nil)
theorem BW{α:Type}(l:List α):l.eraseIdx (l.length - 1)=l.dropLast:=by
 induction l with
 | nil=>rfl
 | cons a r ih =>
  cases r with
  | nil=>rfl
  | cons b r =>
   have e:(a::b::r).length - 1 =((b::r).length - 1)+1:=by
    rfl
   rw[e,List.eraseIdx_cons_succ,ih]
   all_goals rfl
section
variable{X:Cx}{pins:List (Addr×Obj)}{σ:St}{H:Hp}{s:Shared}{l b:Addr}{xs ys zs:List V}
theorem Inv.OS{its its':List Value}{n:Nat}{f:Array Value->Array Value}{t':Nat}(I:Inv X pins σ H s)(hH:H l=some (.lst xs))
  (e:s.heap.get? l=some { cls:=.type "list",data:=.seq its.toArray n }) (hf:f its.toArray=its'.toArray) (hv:Vals ys its') (hz:ys.length<=sizeLine) :
  Inv X pins σ (upd H l (.lst ys)) { s with heap:=s.heap.update l (Obj.mapSeq f),toks:=t' }:=by
 have q:=PySem.IsL.update e f;rw[hf]at q;refine I.write (x:=l) (e:=l) (by rw[hH];exact trivial) (.inl rfl) (fun b' u hb hu=>(Heap.get?_update_other s.heap (Obj.mapSeq f) (Ne.symm hb)).trans hu) ⟨_,q⟩ ?_
 exact⟨hz,its',_,hv,q⟩
theorem Inv.SO{its:List Value}{t':Nat}(I:Inv X pins σ H s)(hv:Vals ys its)(hz:ys.length<=sizeLine) :
  Inv X pins σ (upd H s.heap.objs.size (.lst ys)) { s with heap:=s.heap.push { cls:=.type "list",data:=.seq its.toArray },toks:=t' } :=
 I.laid (fun _ _ q=>Heap.get?_push_of_some _ q) (Nat.le_refl _) ⟨hz,its,0,hv,Heap.get?_push_size _ rfl⟩
theorem Inv.fresh(I:Inv X pins σ H s):H s.heap.objs.size=none:=I.hok.fresh (Nat.le_refl _)
theorem Inv.Eu(I:Inv X pins σ H s)(hH:H l=some (.lst xs)):xs.length<=sizeLine/\∃(its:List Value)(n:Nat),Vals xs its/\xs.length=its.length/\s.heap.get? l=some { cls:=.type "list",data:=.seq its.toArray n }:=by
 obtain⟨z,its,n,r,e⟩:=I.hok l _ hH;exact⟨z,its,n,r,r.length,e⟩
theorem HN{n:Nat}(h:n<=sizeLine):Builtin.List.listTooLong n=false:=by
 unfold Builtin.List.listTooLong;exact decide_eq_false (by omega)
end
section
variable{X:Cx}
def qQ:V->List V->Hp->VK->Prop:=fun x vs H Q=>∃ l xs y,x = .ref l/\vs = [y]/\H l=some (.lst xs)/\xs.length<sizeLine/\Q .non (upd H l (.lst (xs ++ [y])))
theorem ip:MtM X "list.append" qQ:=by
 intro pins s σ H x vs v us Q I rx rv h;obtain⟨l,xs,y,rfl,rfl,hH,hz,q⟩:=h;cases rx;obtain⟨u,rfl,ru⟩:=rv.one;obtain⟨z,its,n,r,hl,e⟩:=I.Eu hH;refine call_meets F.slot_list_append ⟨_,e,rfl⟩ F.entry_list_append (F.args_list_append_2 _ _) (PySem.list_append l its.toArray n u (by rw[List.size_toArray];omega)) ⟨e,?_⟩
 refine⟨.non,_,I.OS (its':=its ++ [u]) hH e (by simp) (r.append (.cons ru .nil)) ?_,rfl,q⟩
 rw[List.length_append,List.length_singleton];omega
def qP:V->List V->Hp->VK->Prop:=fun x vs H Q=>∃ l b xs zs,x = .ref l/\vs = [.ref b]/\H l=some (.lst xs)/\H b=some (.lst zs)/\xs.length+zs.length<=sizeLine/\Q .non (upd H l (.lst (xs++zs)))
theorem Et:MtM X "list.extend" qP:=by
 intro pins s σ H x vs v us Q I rx rv h;obtain⟨l,b,xs,zs,rfl,rfl,hH,hB,hz,q⟩:=h;cases rx;obtain⟨u,rfl,ru⟩:=rv.one;cases ru;obtain⟨z,its,n,r,hl,e⟩:=I.Eu hH;obtain⟨z2,eU,n2,r2,hl2,e2⟩:=I.Eu hB;have hsz:its.toArray.size+eU.toArray.size<=sizeLine:=by rw[List.size_toArray,List.size_toArray];omega
 have RD:¬(!its.toArray.isEmpty&&Builtin.List.listTooLong (its.toArray.size+eU.toArray.size))=true:=by
  rw[HN hsz,Bool.and_false];exact Bool.false_ne_true
 refine call_meets F.slot_list_extend ⟨_,e,rfl⟩ F.entry_list_extend (F.args_list_extend_2 _ _)
  (AutoSeq1.list_extend_list_list_0 l its.toArray n b eU.toArray n2 RD (by rw[List.size_toArray];omega) (by omega)) ⟨e,e2,?_⟩
 refine⟨.non,_,I.OS (its':=its++eU) hH e (by simp) (r.append r2) ?_,rfl,q⟩
 rw[List.length_append];omega
def NT:V->List V->Hp->VK->Prop:=fun x vs H Q=>∃ l xs y,x = .ref l/\vs = []/\H l=some (.lst xs)/\xs[xs.length - 1]? = some y/\Q y (upd H l (.lst xs.dropLast))
theorem xA:MtM X "list.pop" NT:=by
 intro pins s σ H x vs v us Q I rx rv h;obtain⟨l,xs,y,rfl,rfl,hH,hy,q⟩:=h;cases rx;have hus:=rv.zero;subst hus;obtain⟨z,its,n,r,hl,e⟩:=I.Eu hH;obtain⟨u,hu,ru⟩:=r.get hy;have hy':its.toArray[its.toArray.size - 1]? = some u:=by
  show its.toArray[its.length - 1]? = some u;rw[<- Array.getElem?_toList,<- hl];exact hu
 refine call_meets F.slot_list_pop ⟨_,e,rfl⟩ F.entry_list_pop (F.args_list_pop_1 _) (MeetsSeq.list_pop_last l its.toArray n u hy' (by rw[List.size_toArray];omega)) ⟨e,?_⟩
 refine⟨y,_,I.OS (its':=its.dropLast) hH e ?_ r.dropLast ?_,ru,q⟩
 ·show its.toArray.eraseIdxIfInBounds (its.toArray.size - 1)=its.dropLast.toArray;rw[List.size_toArray,List.eraseIdxIfInBounds_toArray,BW]
 ·rw[List.length_dropLast];omega
def Qr:R2:=fun x y H Q=>∃ l b xs zs,x = .ref l/\y = .ref b/\H l=some (.lst xs)/\H b=some (.lst zs)/\xs.length+zs.length<=sizeLine/\∀ p,H p=none->Q (.ref p) (upd H p (.lst (xs++zs)))
theorem Ox:OpR X (binaryOp .Add) Qr:=by
 intro pins s σ H x y v u Q I rx ry h;obtain⟨l,b,xs,zs,rfl,rfl,hH,hB,hz,q⟩:=h;cases rx;cases ry;obtain⟨z,its,n,r,hl,e⟩:=I.Eu hH;obtain⟨z2,eU,n2,r2,hl2,e2⟩:=I.Eu hB;refine PySem.P.add_list e e2 ?_ (by rw[List.size_toArray,List.size_toArray];omega)
 have ea:its.toArray++eU.toArray =(its++eU).toArray:=by simp
 rw[ea];exact⟨.ref _,_,I.SO (t':=s.toks) (r.append r2) (by rw[List.length_append];omega),rfl,q _ I.fresh⟩
end
end L2
namespace Att
open PySem PySem.W PySem.Calls PyProof.Rows
theorem qH{P:Params}{h:Heap}:∀(ns:List Int)(vs:List Value),WellAll P h vs (ns.map WData.int)->IntsAre vs ns:=by
 intro ns
 induction ns with
 | nil =>
  intro vs w;rw[List.map_nil]at w;cases w;exact .nil
 | cons n ns ih =>
  intro vs w;rw[List.map_cons]at w;cases w with
  | cons a b =>
   cases a;exact .cons _ _ (ih _ b)
theorem DM{l:OpenLaw}{n:Nat}(hn:l.most=some n){P:Params}{h:Heap}{args:List WData}{vals:List Value}
  (LY:l.row.toRowW.claim.pre args=true) (hwl:WellAll P h vals args) :
  ∃ a vs ns,vals = [Value.ref a]/\args = [WData.list (ns.map WData.int)]/\h.get? a=some { cls:=.type "list",data:=.seq vs.toArray }/\IntsAre vs ns/\ns.length<=n:=by
 have hsh:WShape.hasAll [] args [.list .int]=true:=(pre_splitW LY).1;have hc:l.pre.holds [] { args:=args }=true:=(pre_splitW LY).2;obtain⟨d,r,rfl,h1,h2⟩:=hasAllW_cons hsh;obtain rfl:=hasAllW_nil h2;obtain⟨xs,rfl,h3⟩:=hasW_list h1;obtain⟨ns,rfl⟩:=items_int h3;have hlen:ns.length<=n:=by
  unfold OpenLaw.pre at hc;have h4:(WTm.not (.lt (.lit (.int (n:Int))) (.len (.arg 0)))).holds [] { args:=[.list (ns.map .int)] }=true:=by
   have h4:=(holds_andW hc).1;rw[hn]at h4;exact h4
  have h5:=condW_of h4 (w_not (w_lt w_lit (w_len_list (w_arg rfl))));rw[List.length_map]at h5;refine Nat.le_of_not_lt fun q=>?_
  have q':(n:Int)<((ns.length:Nat):Int):=by omega
  first
   | (rw[decide_eq_true q']at h5;exact absurd h5 (by decide))
   | (simp at h5;omega)
 cases hwl with
 | cons w1 w2 =>
  cases w2;cases w1 with
  | list ho Pj=>exact⟨_,_,ns,rfl,rfl,ho,qH ns _ Pj,hlen⟩
theorem DW(l:OpenLaw)(args:List WData):l.row.toRowW.claim.post args (.bool true) args=true :=
 postW_of (r:=l.row.toRowW) (X:=(true==true))
  (show WShape.has [] (.bool true) .bool=true by first|rfl|decide|simp[WShape.has,WShape.arms,WShape.armsAll])
  (show(WTm.eq .res (.lit (.bool true))).value [] { args:=args,res:=some (.bool true),after:=args }=some (.bool (true==true))from w_eq_bool (w_res rfl) w_lit) rfl
theorem AA{l:OpenLaw}{n:Nat}{q:Program}{loose:List Str}{XP:(Str->Option Value)->Heap->Prop}{YP:World->Heap->Prop}{d:DefRec}
  (hn:l.most=some n) (hdf:d.params.defaults = [])
  (call:∀(w:World)(s₀ s₁:Shared)(mg mb:Str->Option Value)(fa:Addr)(o:Obj)(pm cd doc:Value)(a:Addr)(vs:List Value)(ns:List Int),
   Ground q loose [] XP w s₀ mg mb s₁.heap->YP w s₁.heap ->
   s₁.heap.get? fa=some o->o.data = .func (docDef d.name d.params d.body d.scope pm cd doc)->s₁.heap.CodeRec cd d.name->mg d.name=some (.ref fa) ->
   s₁.heap.get? a=some { cls:=.type "list",data:=.seq vs.toArray }->IntsAre vs ns->ns.length<=n->s₁.gens = #[] ->
   codeAny (model l.prog w) callerA (.call (.ref fa) ⟨[.ref a],[]⟩) (fun r s'=>r = .ok (.ret (.bool true))/\OldK s₁.heap s'.heap/\s'.os=s₁.os/\AllBare s'.gens) s₁) :
  WalkO q loose XP YP l.row.toRowW d [] (fun f vs=>PySem.call f vs):=by
 intro w s₀ s₁ mg mb G Y fa o pm cd doc dV kV ho hd hcd hD hmg hg args vals as LY T4 hrd hwl hlo;obtain rfl:dV = .none:=Dflts.none hD hdf;obtain rfl:kV = .none:=Dflts.noKw hD;obtain⟨a,vs,ns,rfl,rfl,EF,hints,hlen⟩:=DM hn LY hwl;refine enter_call (codeAny_mono (call w s₀ s₁ mg mb fa o pm cd doc a vs ns G Y ho (fd_plain hd) hcd hmg EF hints hlen hg) fun r s' hq=>?_)
 obtain⟨rfl,h2,h3,h4⟩:=hq;exact⟨.inl ⟨.bool true,.bool true,[],rfl,fun _=>rfl,.bool true,DW l _,fun _=>⟨List.Pairwise.nil,fun _ hm=>(nomatch hm)⟩⟩,h2,h3,h4⟩
section
variable{prog:Program}{w:World}{A:Around}{E:Value->Shared->Prop}{s:Shared}{K:Frag}
def ledger(h:Heap)(L d:Addr):List (Addr×Obj):=(List.range h.objs.size).filterMap fun a=>if a=L\/a=d then none else(h.get? a).map fun o=>(a,o)
end
end Att
namespace L2
open PySem PySem.Spec PyProof.Rows
theorem vF:∀{vs:List Value}{ns:List Int},IntsAre vs ns->Vals (ns.map V.int) vs
 | _,_,.nil=>.nil
 | _,_,.cons n t h=>.cons ⟨t,rfl⟩ (vF h)
def MD(H:Hp):Prop:=∀ b,H b=none\/∃ o xs,H b=some (.frz o (.lst xs))
theorem Ia{P:Program}{w:World}{K:W.Frag}{mg mb:Str->Option Value}{CX:CXT}{k:Nat}{fa a:Addr}{fd:FuncData}{x:Str}{sp:Sp}{s₁:Shared}{vs:List Value}{ns:List Int}
  (KX:K.In s₁.heap) (hns:s₁.heap.Ns mainGlobals mg) (hb:s₁.heap.Ns builtinsNs mb) (hbb:∀ x:Str,x ≠ "__name__" -> mb x=bootBuiltins x) (Tc:s₁.heap.NoLimit) (hg:s₁.gens = #[])
  (ha:s₁.heap.get? a=some { cls:=.type "list",data:=.seq vs.toArray }) (hi:IntsAre vs ns) (hl:ns.length<=sizeLine) (hr:dO k callerA)
  (F:∀ base:Heap,K.In base->base.Ns mainGlobals mg->bG P w K mg base CX k fa fd [x] sp) (RO:∀(s:Shared)(u:Value),BindsTo s fd ⟨[u],[]⟩ [(x,u)])
  (hsp:∀ H:Hp,MD H->SqL K H a (ns.map V.int)->sp [.ref a] H (fun v _=>v = .bl true) fun _ _ _=>False)
  (hCX:∀ H e s',CX [] H s₁ (fun _ _ _=>False) e s'->False) :
  codeAny (model P w) callerA (.call (.ref fa) ⟨[.ref a],[]⟩) (fun r s'=>r = .ok (.ret (.bool true))/\OldK s₁.heap s'.heap/\s'.os=s₁.os/\AllBare s'.gens) s₁:=by
 have rv:=vF hi;have SQ:=hi.length;have core:∀ H:Hp,MD H->SqL K H a (ns.map V.int)->HOk P w H s₁.heap ->(∀ b,H b≠none->b=a) ->(H a≠none->K.lookup a=none) ->
   codeAny (model P w) callerA (.call (.ref fa) ⟨[.ref a],[]⟩) (fun r s'=>r = .ok (.ret (.bool true))/\OldK s₁.heap s'.heap/\s'.os=s₁.os/\AllBare s'.gens) s₁:=by
  intro H hO hS hok hA hK;have Dp:∀{b:Addr}{o:Obj},s₁.heap.get? b=some o->H b=none ->(xW s₁.heap H).get? b=some o:=fun e n=>IG e n
  have noA:∀{b:Addr}{o:Obj}{es:Array DictEntry}{ep:Nat},s₁.heap.get? b=some o->o.data = .dict es ep->H b=none:=fun{b o es ep} e d=>by
   cases q:H b with
   | none=>rfl
   | some u =>
    have e':b=a:=hA b (by rw[q];simp)
    subst e';rw[ha]at e;cases e;have d':Data.seq vs.toArray _=Data.dict es ep:=d;cases d'
  have nsK:∀{b:Addr}{m:Str->Option Value},s₁.heap.Ns b m ->(xW s₁.heap H).Ns b m:=fun{b m} ⟨o,es,ep,e,d,r⟩=>⟨o,es,ep,Dp e (noA e d),d,r⟩
  have hKb:K.In (xW s₁.heap H):=fun b o e=>Dp (KX b o e) (by
   cases q:H b with
   | none=>rfl
   | some u =>
    have e':b=a:=hA b (by rw[q];simp)
    subst e';rw[hK (by rw[q];simp)]at e;cases e)
  have hM:Mod K mg (xW s₁.heap H):=⟨hKb,nsK hns,⟨mb,nsK hb,hbb⟩,let⟨mc,h1,h2⟩:=Tc;⟨mc,nsK h1,h2⟩⟩
  have e0:Cn P w K mg (xW s₁.heap H) callerA [] s₁ H:=⟨rfl,hM,fun b o e=>Lo e,Nat.le_of_eq (EH _ _),trivial,fun b hb=>absurd (show b∈([]:List Addr)from hb) (by simp),hok,.of_eq hg⟩
  refine codeAny_mono ((F _ hKb (nsK hns)).run callerA [] s₁ H ⟨[.ref a],[]⟩ [.ref a] [.ref a] _ _ hr e0 (RO s₁ (.ref a)) (.cons rfl .nil) (hsp H hO hS)) fun r s' h=>?_
  cases r with
  | error e=>exact(hCX H e s' h).elim
  | ok fl =>
   cases fl with
   | next=>exact False.elim h
   | brk=>exact False.elim h
   | cont=>exact False.elim h
   | ret u =>
    obtain⟨v,H',os,bare,un,S8,r',q⟩:=h;have q':v = .bl true:=q;subst q';obtain rfl:u=Value.bool true:=r';refine⟨rfl,OldK.of_keep fun b o e=>?_,os,bare⟩
    cases q:H b with
    | none=>exact un.keep b o e q (by intro z;exact absurd (show b∈([]:List Addr)from z) (by simp)) (by simp)
    | some u =>
     rcases hO b with z |⟨ob,xs,z⟩
     ·rw[q]at z;cases z
     ·have z2:=un.pj b ob _ z;obtain⟨e1,_⟩:=hok b _ z;obtain⟨e2,_⟩:=S8 b _ z2;rw[e]at e1;cases e1;exact e2
 cases hk:K.lookup a with
 | some o =>
  have e:=KX a o hk;rw[ha]at e;cases e;refine core (fun _=>none) (fun _=>.inl rfl) (.inr ⟨_,vs.toArray,_,hk,rfl,rfl,rfl,by rw[List.size_toArray,SQ];exact hl,by simpa using rv⟩) (fun b u z=>by have z':(none:Option HO)=some u:=z;cases z') (fun b z=>absurd rfl z) fun z=>absurd rfl z
 | none =>
  refine core (fun b=>if b=a then some (.frz { cls:=.type "list",data:=.seq vs.toArray } (.lst (ns.map V.int)))else none) (fun b=>?_) (.inl (.inr ⟨{ cls:=.type "list",data:=.seq vs.toArray },if_pos rfl⟩)) (fun b u z=>?_) (fun b z=>?_) fun _=>hk
  ·by_cases hb:b=a
   ·exact .inr ⟨_,_,if_pos hb⟩
   ·exact .inl (if_neg hb)
  ·by_cases hb:b=a
   ·have z':=(if_pos hb).symm.trans z;cases z';subst hb;exact⟨ha,by rw[List.length_map];exact hl,vs,_,rv,ha⟩
   ·have z':=(if_neg hb).symm.trans z;cases z'
  ·by_cases hb:b=a
   ·exact hb
   ·exact absurd (if_neg hb) z
theorem JV{l:W.OpenLaw}{n k:Nat}{q:Program}{loose:List Str}{XP:(Str->Option Value)->Heap->Prop}{YP:World->Heap->Prop}{d:DefRec}{K:Params->W.Frag}{CX:World->CXT}{sp:World->Sp}{x:Str}
  (hn:l.most=some n) (hn2:n<=sizeLine) (hdf:d.params.defaults = []) (hr:dO k callerA)
  (hY:∀(w:World)(h:Heap),YP w h ->(K w.params).In h)
  (F:∀(w:World)(mg:Str->Option Value)(fa:Addr)(h:Heap),(K w.params).In h->h.Ns mainGlobals mg->mg d.name=some (.ref fa) ->
   ∃ fd:FuncData,(∀(s:Shared)(u:Value),BindsTo s fd ⟨[u],[]⟩ [(x,u)]) /\
    ∀ base:Heap,(K w.params).In base->base.Ns mainGlobals mg->bG l.prog w (K w.params) mg base (CX w) k fa fd [x] (sp w))
  (hsp:∀(w:World)(H:Hp)(a:Addr)(ns:List Int),ns.length<=n->MD H->SqL (K w.params) H a (ns.map V.int)->sp w [.ref a] H (fun v _=>v = .bl true) fun _ _ _=>False)
  (hCX:∀(w:World)(H:Hp)(s:Shared)(e:Value)(s':Shared),CX w [] H s (fun _ _ _=>False) e s'->False) :
  W.WalkO q loose XP YP l.row.toRowW d [] (fun f vs=>PySem.call f vs):=by
 refine Att.AA hn hdf fun w s₀ s₁ mg mb fa o pm cd doc a vs ns G Y ho hd hcd hmg EF hints hlen hg=>?_
 have KX:=hY w _ Y;obtain⟨fd,hb,hF⟩:=F w mg fa _ KX G.T.g hmg;exact Ia KX G.T.g G.T.b G.T.builtins G.T.nolimit hg EF hints (Nat.le_trans hlen hn2) hr hF hb (fun H hO hS=>hsp w H a ns hlen hO hS) fun H e s'=>hCX w H s₁ e s'
def aP(s:Stmt):Arguments:=match s with
 | .FunctionDef _ a _ _ _ _ _ _ _ _=>a
 | _=>{ posonlyargs:=[],args:=[],vararg:=none,kwonlyargs:=[],kw_defaults:=[],kwarg:=none,defaults:=[] }
def aF(s:Stmt):List Stmt:=match s with
 | .FunctionDef _ _ b _ _ _ _ _ _ _=>b
 | _=>[]
def aj(s:Stmt):Scope:=match s with
 | .FunctionDef _ _ _ _ _ _ sc _ _ _=>sc
 | _=>{ kind:=.function,names:=[],isGenerator:=false,isCoroutine:=false }
abbrev CX0:CXT:=fun _ _ _ _ _ _=>False
abbrev E0:XK:=fun _ _ _=>False
theorem nh{X:Cx}:Passes CX0 X E0:=fun _ _ _ _ _ _ _ h=>h.elim
structure Fun(K:W.Frag)(x qual:Str)(st:Stmt)(f:Addr)(fd:FuncData):Prop where
 ex:∃(oc:Value)(od:Option Addr)(kV doc pm:Value)(an:Option Addr)(cdv ct:Value)(osl:Array (Option Value)),
  fd=W.fnOf x qual (aP st) (aF st) (aj st) .none kV doc pm an cdv ct/\K.lookup f=some ⟨oc,od,.func fd,osl⟩/\W.codeIn K cdv qual=true
 kp:W.keepIn K (.ref f)=true
section
variable{P:Program}{w:World}{K:W.Frag}{mg:Str->Option Value}{base:Heap}
theorem Fun.ok{x qual:Str}{st:Stmt}{f:Addr}{fd:FuncData}{N ps:List Str}{k:Nat}{sp:Sp}(F:Fun K x qual st f fd)(S:aX N ps (aj st))(len:∀ vs H Q E,sp vs H Q E->vs.length=ps.length)
  (nB:∀(cdv:Value)(A:Around)(outer:List Env)(s:Shared)(H:Hp)(vs:List V)(Q:VK)(E:XK),dO k (A.deeper (envOfC qual (aj st) s.heap.objs.size f cdv))->sp vs H Q E ->
   ∃ t,PSs (pq CX0 P w K mg base N qual (aj st) f cdv A outer s H E).nox (aF st) t/\t { nx:=fun _ H'=>Q .non H',rt:=Q } (start N vs) H):bG P w K mg base CX0 (k+1) f fd ps sp:=by
 obtain⟨oc,od,kV,doc,pm,an,cdv,ct,osl,rfl,lk,hcd⟩:=F.ex;refine M9 lk hcd S len fun A outer s H vs Q E hr hsp=>?_
 obtain⟨t,h,q⟩:=nB cdv A outer s H vs Q E hr hsp;exact⟨t,h.nox,q⟩
theorem Fun.binds{x qual:Str}{st:Stmt}{f:Addr}{fd:FuncData}{ps:List Str}(F:Fun K x qual st f fd)
  (h:∀(kV doc pm:Value)(an:Option Addr)(cdv ct:Value)(us:List Value),us.length=ps.length->bindArgs (W.fnOf x qual (aP st) (aF st) (aj st) .none kV doc pm an cdv ct) ⟨us,[]⟩=pure (ps.zip us)):Binds K fd ps []:=by
 obtain⟨oc,od,kV,doc,pm,an,cdv,ct,osl,rfl,lk,hcd⟩:=F.ex;exact .all (h kV doc pm an cdv ct)
theorem bu{x qual:Str}{st:Stmt}{f:Addr}{oc:Value}{od an:Option Addr}{osl:Array (Option Value)}{kV doc pm cdv ct:Value}(l:K.lookup f=some ⟨oc,od,.func (W.fnOf x qual (aP st) (aF st) (aj st) .none kV doc pm an cdv ct),osl⟩)
  (c:W.codeIn K cdv qual=true) (k:W.keepIn K (.ref f)=true):Fun K x qual st f (W.fnOf x qual (aP st) (aF st) (aj st) .none kV doc pm an cdv ct):=⟨⟨oc,od,kV,doc,pm,an,cdv,ct,osl,rfl,l,c⟩,k⟩
end
theorem de{A:Around}{k:Nat}(hr:dO k A):A.units+1<cLine:=Nat.lt_of_le_of_lt (Nat.add_le_add_left (by decide:1<=64) _) hr.units
theorem aK{n:Nat}(h:n<=1000):n<sizeLine:=Nat.lt_of_le_of_lt h (by decide)
section
variable{X:Cx}
theorem pv(i:Nat){x:Str}{pos:Pos}(hN:X.N[i]? = some x:=by rfl)(hv:Vis X.env.scope x:=by first|exact Or.inl rfl|exact Or.inr (Or.inl rfl)|exact Or.inr (Or.inr rfl))(hd:(x ==("__debug__":Str))=false:=by decide)
  (hcd:(x ==("__classdict__":Str))=false:=by decide):PE X (.Name x pos) (eZ i):=Hh hN hv hd hcd
end
theorem S0{A B:Prop}(h:B):if false=true then A else B:=by
 rw[if_neg Bool.false_ne_true];exact h
theorem bF{c A B:Prop} [Decidable c] (h1:c->A) (h2:¬ c->B):if c then A else B:=by
 by_cases h:c
 ·rw[if_pos h];exact h1 h
 ·rw[if_neg h];exact h2 h
def mK(H H':Hp):Prop:=∀ b o,H b=some o->H' b=some o
theorem mK.refl(H:Hp):mK H H:=fun _ _ h=>h
theorem mK.free{H H':Hp}(e:mK H H'){l:Addr}(h:H' l=Option.none):H l=Option.none:=by
 cases q:H l with
 | none=>rfl
 | some o =>
  rw[e l o q]at h;cases h
section
variable{κ:Type} [DecidableEq κ]
def fZ(kvs:List (κ×V))(k:κ):Option V:=(kvs.find? fun kv=>decide (kv.1=k)).map (·.2)
def putK(kvs:List (κ×V))(k:κ)(v:V):List (κ×V) :=
 if(kvs.any fun kv=>decide (kv.1=k))=true then kvs.map (fun kv=>if kv.1=k then(kv.1,v)else kv)else kvs ++ [(k,v)]
theorem rD{p:κ×V}{r:List (κ×V)}{k:κ}(e:p.1=k):fZ (p::r) k=some p.2:=by simp[fZ,List.find?_cons,e]
theorem rE{p:κ×V}{r:List (κ×V)}{k:κ}(e:¬ p.1=k):fZ (p::r) k=fZ r k:=by simp[fZ,List.find?_cons,e]
theorem yU(k:κ):∀ kvs:List (κ×V),(kvs.any fun kv=>decide (kv.1=k)) =(fZ kvs k).isSome
 | []=>rfl
 | p::r=>by
  rw[List.any_cons];by_cases e:p.1=k
  ·simp only[rD e,decide_eq_true e,Bool.true_or,Option.isSome_some]
  ·rw[rE e,decide_eq_false e,Bool.false_or];exact yU k r
theorem jU(kvs:List (κ×V))(k:κ)(v:V):(putK kvs k v).length<=kvs.length+1:=by
 unfold putK
 split
 ·rw[List.length_map];omega
 ·rw[List.length_append,List.length_cons,List.length_nil];omega
theorem iE.pe{o:Option V}{u:Option Value}(r:iE o u):o.isSome=u.isSome:=by
 cases o with
 | none=>cases u with
  | none=>rfl
  | some _=>exact(show False from r).elim
 | some _=>cases u with
  | none=>exact(show False from r).elim
  | some _=>rfl
theorem iE.getD{o:Option V}{u:Option Value}{d:V}{d':Value}(r:iE o u)(rd:RelV d d'):RelV (o.getD d) (u.getD d'):=by
 cases o with
 | none=>cases u with
  | none=>exact rd
  | some _=>exact(show False from r).elim
 | some _=>cases u with
  | none=>exact(show False from r).elim
  | some _=>exact r
theorem KV.val{kvs:List (κ×V)}{vs:List (κ×Value)}(r:KV kvs vs)(k:κ):iE (fZ kvs k) (valueAt vs k):=by
 unfold KV at r
 induction r with
 | nil=>exact True.intro
 | @cons p q ps qs h t ih =>
  obtain⟨h1,h2⟩:=h;by_cases e:p.1=k
  ·have e':q.1=k:=h1.symm.trans e;have b:valueAt (q::qs) k=some q.2:=by simp[valueAt,List.find?_cons,e']
   rw[rD e,b];exact h2
  ·have e':¬ q.1=k:=fun z=>e (h1.trans z)
   have b:valueAt (q::qs) k=valueAt qs k:=by simp[valueAt,List.find?_cons,e']
   rw[rE e,b];exact ih
theorem KV.any{kvs:List (κ×V)}{vs:List (κ×Value)}(r:KV kvs vs)(k:κ):(kvs.any fun kv=>decide (kv.1=k))=vs.any fun kv=>decide (kv.1=k):=by
 unfold KV at r
 induction r with
 | nil=>rfl
 | cons h t ih=>rw[List.any_cons,List.any_cons,ih,h.1]
theorem KV.NP{kvs:List (κ×V)}{vs:List (κ×Value)}(r:KV kvs vs)(k:κ){y:V}{u:Value}(ry:RelV y u) :
  KV (kvs.map fun kv=>if kv.1=k then(kv.1,y)else kv) (vs.map fun kv=>if kv.1=k then(kv.1,u)else kv):=by
 unfold KV at r ⊢
 induction r with
 | nil=>exact .nil
 | @cons p q ps qs h t ih =>
  rw[List.map_cons,List.map_cons];refine .cons ?_ ih;obtain⟨h1,h2⟩:=h;by_cases e:p.1=k
  ·rw[if_pos e,if_pos (h1.symm.trans e)];exact⟨h1,ry⟩
  ·rw[if_neg e,if_neg (fun z=>e (h1.trans z))];exact⟨h1,h2⟩
theorem KV.put{kvs:List (κ×V)}{vs:List (κ×Value)}(r:KV kvs vs)(k:κ){y:V}{u:Value}(ry:RelV y u):KV (putK kvs k y) (stored vs k u):=by
 unfold putK stored;rw[r.any k];by_cases e:(vs.any fun kv=>decide (kv.1=k))=true
 ·rw[if_pos e,if_pos e];exact r.NP k ry
 ·rw[if_neg e,if_neg e];exact Paired.snoc r ⟨rfl,ry⟩
theorem KV.length{kvs:List (κ×V)}{vs:List (κ×Value)}(r:KV kvs vs):kvs.length=vs.length:=Paired.length r
end
theorem pY{P:Program}{w:World}{k:Key}{u:Value}(r:RelV (kV k) u):(bH P w).is k u=true:=by
 cases k with
 | inl i=>obtain⟨t,e⟩:=(show ∃ t,u=Value.int i t from r);subst e;exact zF P w i t
 | inr x=>obtain⟨t,e⟩:=(show ∃ t,u=Value.str x t from r);subst e;exact zE P w x t
theorem v7{P:Program}{w:World}:∀{ks:List Key}{us:List Value},Vals (ks.map kV) us->ItemsAre (bH P w) ks us
 | [],_,r=>by rw[List.map_nil]at r;cases r;exact .nil
 | k::ks,_,r=>by
  rw[List.map_cons]at r;cases r with
  | cons h t=>exact .cons (pY h) (v7 t)
abbrev KT(H:Hp):List (List Key×V)->List (List Key×Addr×Value)->Prop:=Paired fun p q=>p.1=q.1/\H q.2.1=some (.tup (p.1.map kV))/\RelV p.2 q.2.2
theorem KT.val{H:Hp}{kvs:List (List Key×V)}{xs:List (List Key×Addr×Value)}(r:KT H kvs xs)(k:List Key):iE (fZ kvs k) ((atKey xs k).map (·.2)):=by
 induction r with
 | nil=>exact True.intro
 | @cons p q ps qs h t ih =>
  obtain⟨h1,_,h2⟩:=h;by_cases e:p.1=k
  ·have e':q.1=k:=h1.symm.trans e;have b:atKey (q::qs) k=some q.2:=by simp[atKey,List.find?_cons,e']
   rw[rD e,b];exact h2
  ·have e':¬ q.1=k:=fun z=>e (h1.trans z)
   have b:atKey (q::qs) k=atKey qs k:=by simp[atKey,List.find?_cons,e']
   rw[rE e,b];exact ih
theorem KT.NP{H:Hp}{kvs:List (List Key×V)}{xs:List (List Key×Addr×Value)}(r:KT H kvs xs)(k:List Key){y:V}{u:Value}(ry:RelV y u) :
  KT H (kvs.map fun kv=>if kv.1=k then(kv.1,y)else kv) (xs.map (putAt k u)):=by
 induction r with
 | nil=>exact .nil
 | @cons p q ps qs h t ih =>
  rw[List.map_cons,List.map_cons];refine .cons ?_ ih;obtain⟨h1,h2,h3⟩:=h;unfold putAt;by_cases e:p.1=k
  ·rw[if_pos e,if_pos (h1.symm.trans e)];exact⟨h1,h2,ry⟩
  ·rw[if_neg e,if_neg (fun z=>e (h1.trans z))];exact⟨h1,h2,h3⟩
theorem KT.put{H:Hp}{kvs:List (List Key×V)}{xs:List (List Key×Addr×Value)}(r:KT H kvs xs)(k:List Key){b:Addr}{y:V}{u:Value}(hb:H b=some (.tup (k.map kV)))(ry:RelV y u) :
  KT H (putK kvs k y) (storedH xs k b u):=by
 have e:(kvs.any fun kv=>decide (kv.1=k)) =(atKey xs k).isSome:=by
  rw[yU,(r.val k).pe,Option.isSome_map]
 unfold putK storedH;rw[e];by_cases q:(atKey xs k).isSome=true
 ·rw[if_pos q,if_pos q];exact r.NP k ry
 ·rw[if_neg q,if_neg q];exact Paired.snoc r ⟨rfl,hb,ry⟩
theorem KT.keeps{H H':Hp}{kvs:List (List Key×V)}{xs:List (List Key×Addr×Value)}(r:KT H kvs xs)(ht:∀ b ys,H b=some (.tup ys)->H' b=some (.tup ys)):KT H' kvs xs :=
 Paired.Br r fun _ _ z=>⟨z.1,ht _ _ z.2.1,z.2.2⟩
section
variable{P:Program}{w:World}{H:Hp}{h:Heap}{a:Addr}
theorem MO{u:HO}(ok:HOk P w H h)(e:Rd H a u):bK P w H h a u:=e.ok ok
theorem p8{kvs:List (Key×V)}(ok:HOk P w H h)(e:Rd H a (.dK kvs)):kvs.length<=sizeLine/\(a==sysModules)=false/\∃ vs,KV kvs vs/\h.DictOf (bH P w) a vs :=
 show bK P w H h a (.dK kvs)from MO ok e
theorem Na{kvs:List (Key×V)}(ok:HOk P w H h)(e:H a=some (.dK kvs)):kvs.length<=sizeLine/\(a==sysModules)=false/\∃ vs,KV kvs vs/\h.DictOf (bH P w) a vs:=p8 ok (.inl e)
theorem sW{ks:List Key}(ok:HOk P w H h)(e:H a=some (.tup (ks.map kV))):(tupleKind (bH P w)).is h ks a:=by
 obtain⟨_,its,r,⟨o,h1,h2,n,h3⟩,_⟩:=(show bK P w H h a (.tup (ks.map kV))from ok a _ e);exact⟨o,its.toArray,n,h1,h2,h3,by simpa using v7 r⟩
theorem wa{kvs:List (List Key×V)}(ok:HOk P w H h)(e:Rd H a (.dT kvs)):kvs.length<=sizeLine/\(a==sysModules)=false /\
  ∃ xs,KT H kvs xs/\h.DictOfH (tupleKind (bH P w)) a xs:=by
 obtain⟨z,y,xs,r,o,es,ep,h1,h2,h3,h4,h5⟩:=(show bK P w H h a (.dT kvs)from MO ok e);refine⟨z,y,xs,r,o,es,ep,h1,h2,h3,h4,fun x hx=>?_,h5⟩
 have all:∀{l:List (List Key×V)}{m:List (List Key×Addr×Value)},KT H l m->∀ x∈m,(tupleKind (bH P w)).is h x.1 x.2.1:=by
  intro l m q
  induction q with
  | nil=>intro x hx;exact nomatch hx
  | @cons p q ps qs hq t ih =>
   intro x hx;rcases List.mem_cons.mp hx with e|hx
   ·subst e;exact sW ok (by rw[<- hq.1];exact hq.2.1)
   ·exact ih x hx
 exact all r x hx
theorem RV{kvs:List (List Key×V)}(ok:HOk P w H h)(e:H a=some (.dT kvs)):kvs.length<=sizeLine/\(a==sysModules)=false /\
  ∃ xs,KT H kvs xs/\h.DictOfH (tupleKind (bH P w)) a xs:=wa ok (.inl e)
end
def km(H:Hp)(a:Addr)(y:V)(r:Option V):Prop :=
 (∃ kvs k,Rd H a (.dK kvs)/\y=kV k/\r=fZ kvs k)\/∃ kvs k b,Rd H a (.dT kvs)/\y = .ref b/\H b=some (.tup (k.map kV))/\r=fZ kvs k
def yO(H:Hp)(a:Addr)(y v:V)(H':Hp):Prop :=
 (∃ kvs k,H a=some (.dK kvs)/\y=kV k/\kvs.length<sizeLine/\H'=upd H a (.dK (putK kvs k v))) \/
 ∃ kvs k b,H a=some (.dT kvs)/\y = .ref b/\H b=some (.tup (k.map kV))/\kvs.length<sizeLine/\H'=upd H a (.dT (putK kvs k v))
theorem km.k{H:Hp}{a:Addr}{kvs:List (Key×V)}{k:Key}(e:H a=some (.dK kvs)):km H a (kV k) (fZ kvs k):=.inl ⟨kvs,k,.inl e,rfl,rfl⟩
theorem yO.k{H:Hp}{a:Addr}{kvs:List (Key×V)}{k:Key}{v:V}(e:H a=some (.dK kvs))(hl:kvs.length<sizeLine):yO H a (kV k) v (upd H a (.dK (putK kvs k v))):=.inl ⟨kvs,k,e,rfl,hl,rfl⟩
section
variable{X:Cx}{pins:List (Addr×Obj)}{σ:St}{H:Hp}{s:Shared}{a:Addr}{y v:V}{u r:Value}{o:Option V}{A:Around}{E:Value->Shared->Prop}
theorem Inv.big(I:Inv X pins σ H s):sysModules<s.heap.objs.size:=by
 have h:mainGlobals<s.heap.objs.size:=(I.mod.glob.keeps I.bk).lt;exact Nat.lt_trans (by decide) h
theorem EX{Q:Value->Shared->Prop}(hu:A.units+1<cLine)(I:Inv X pins σ H s)(g:km H a y (some v))(ry:RelV y u)(h:∀ w' s',Inv X pins σ H s'->RelV v w'->Q w' s') :
  wpAny (model X.prog X.w) A (getItem (.ref a) u) Q E s:=by
 rcases g with⟨kvs,k,e,ey,l⟩ |⟨kvs,k,b,e,ey,eb,l⟩
 ·subst ey;obtain⟨z,hd,vs,rel,dd⟩:=p8 I.hok e;obtain⟨w',hw,rw'⟩:=iE.some_of (v:=v) (o:=valueAt vs k) (by rw[l];exact rel.val k)
  exact wpAny_getItem_of (pY ry) dd.mapOf hw (h w' _ (I.tok _) rw')
 ·subst ey
  cases(show u=Value.ref b from ry)
  obtain⟨z,hd,xs,rel,dd⟩:=wa I.hok e;obtain⟨w',hw,rw'⟩:=iE.some_of (v:=v) (o:=(atKey xs k).map (·.2)) (by rw[l];exact rel.val k)
  obtain⟨p,hp,hp2⟩:=Option.map_eq_some_iff.mp hw;refine wpAny_getItem_heap (tupleKind_room_in1 hu) (sW I.hok eb) dd hp ?_;rw[hp2];exact h w' _ (I.tok _) rw'
theorem Tq{Q:Value->Shared->Prop}(hu:A.units+1<cLine)(I:Inv X pins σ H s)(g:km H a y o)(ry:RelV y u)(h:∀ s',Inv X pins σ H s'->Q (.bool o.isSome) s') :
  wpAny (model X.prog X.w) A (compareOp .In u (.ref a)) Q E s:=by
 rcases g with⟨kvs,k,e,ey,l⟩ |⟨kvs,k,b,e,ey,eb,l⟩
 ·subst ey;obtain⟨z,hd,vs,rel,dd⟩:=p8 I.hok e;refine wpAny_in_of (pY ry) hd dd.mapOf ?_;rw[<- (rel.val k).pe,<- l];exact h _ (I.tok _)
 ·subst ey
  cases(show u=Value.ref b from ry)
  obtain⟨z,hd,xs,rel,dd⟩:=wa I.hok e;refine wpAny_in_heap (tupleKind_room_in1 hu) (sW I.hok eb) hd dd ?_;have q:=(rel.val k).pe;rw[Option.isSome_map]at q;rw[<- q,<- l];exact h _ (I.tok _)
theorem yb{h':Heap}{t':Nat}{ob:HO}(I:Inv X pins σ H s)(mu:Mut (H a))(hs:Heap.SameBut a s.heap h')(he:∃ q,h'.get? a=some q)(new:bK X.prog X.w (upd H a ob) h' a ob) :
  Inv X pins σ (upd H a ob) { s with heap:=h',toks:=t' } :=
 I.write (x:=a) (e:=a) mu (.inl rfl) (fun b q hb z=>(hs.2 b hb).trans z) he new
theorem BX{P:Program}{w:World}{H':Hp}{h':Heap}{kvs:List (Key×V)}{vs:List (Key×Value)}(z:kvs.length<=sizeLine)(hd:(a==sysModules)=false)(rel:KV kvs vs)(dd:h'.DictOf (bH P w) a vs) :
  bK P w H' h' a (.dK kvs):=⟨z,hd,vs,rel,dd⟩
theorem EW{H':Hp}{Q:Unit->Shared->Prop}(hu:A.units+1<cLine)(I:Inv X pins σ H s)(g:yO H a y v H')(ry:RelV y u)(rv:RelV v r)(h:∀ s',Inv X pins σ H' s'->Q () s') :
  wpAny (model X.prog X.w) A (setItem (.ref a) u r) Q E s:=by
 rcases g with⟨kvs,k,e,ey,l,eH⟩ |⟨kvs,k,b,e,ey,eb,l,eH⟩
 ·subst ey eH;obtain⟨z,hd,vs,rel,dd⟩:=Na I.hok e;have hz:vs.length<=sizeLine:=by rw[<- rel.length];exact z
  have hl:(putK kvs k v).length<=sizeLine:=by have:=jU kvs k v;omega
  refine wpAny_setItem_pairs (hsz:=hz) (pY ry) dd fun h' dd' hs=>h _ ?_
  have he:∃ q,h'.get? a=some q:=let⟨q,_,_,hq,_⟩:=dd';⟨q,hq⟩
  exact yb I (by rw[e];exact True.intro) hs he (BX hl hd (rel.put k rv) dd')
 ·subst ey eH
  cases(show u=Value.ref b from ry)
  obtain⟨z,hd,xs,rel,dd⟩:=RV I.hok e;have hz:xs.length<=sizeLine:=by rw[<- Paired.length rel];exact z
  have hl:(putK kvs k v).length<=sizeLine:=by have:=jU kvs k v;omega
  refine wpAny_setItem_heap (hsz:=hz) (tupleKind_room_in1 hu) (sW I.hok eb) dd fun h' dd' hs=>h _ ?_
  obtain⟨q,es,ep,hq,h2,h3,h4,_,h5⟩:=dd';refine yb I (by rw[e];exact True.intro) hs ⟨q,hq⟩ ⟨hl,hd,_,(rel.put k eb rv).keeps fun c ys ec=>?_,q,es,ep,hq,h2,h3,h4,h5⟩
  rw[ag (cv ec e (fun z=>nomatch z))]
  exact ec
end
section
variable{X:Cx}{pins:List (Addr×Obj)}{σ:St}{H:Hp}{s:Shared}{a:Addr}{kvs:List (Key×V)}{k:Key}{u:Value}{A:Around}{E:Value->Shared->Prop}
theorem RW{Q:Value->Shared->Prop}(I:Inv X pins σ H s)(e:Rd H a (.dK kvs))(h:∀ t s',Inv X pins σ H s'->Q (.int kvs.length t) s'):wpAny (model X.prog X.w) A (call (.builtin "len") [.ref a]) Q E s:=by
 obtain⟨z,hd,vs,rel,dd⟩:=p8 I.hok e;refine call_len_dict hd dd (by rw[<- rel.length];rw[sizeLine_eq]at z;omega) ?_
 rw[<- rel.length];exact h _ _ (I.tok _)
end
def Sk(i:Expr):Prop:=∀ ov iv,subscripted i false ov iv=operate [ov,iv] (getItem ov iv)
theorem J7{prog:Program}{w:World}{A:Around}{E:Value->Shared->Prop}{s:Shared}{env:Env}{value slice:Expr}{pos:Pos}{T id:String}{Q:Value->Shared->Prop}
  (hl:typeLookup (.type T) "__getitem__" = pure (some (.builtin id))) (hs:Sk slice)
  (h:wpAny (model prog w) A (eval value env) (fun o s₁=>wpAny (model prog w) A (eval slice env) (fun i s₂=>s₂.TypeIs o T/\wpAny (model prog w) A (getItem o i) Q E s₂) E s₁) E s) :
  wpAny (model prog w) A (eval (.Subscript value slice pos) env) Q E s:=by
 refine Subscript_ (wpAny_mono h (fun o s₁ h₁=>wpAny_mono h₁ (fun i s₂ h₂=>?_) fun _ _ x=>x) fun _ _ x=>x)
 obtain⟨hT,h₂⟩:=h₂;unfold subscriptTail;refine wpAny_bind ?_;rw[getitemInPython_of_ne hT.not_modules];refine wpAny_bind (wpAny_specialOf hT hl ?_);have fin:wpAny (model prog w) A (subscripted slice false o i) (fun r s₃=>wpAny (model prog w) A (letTemporaryGo value o r >>= fun _=>pure r) Q E s₃) E s₂:=by
  rw[hs o i];exact wpAny_operating (wpAny_mono h₂ (fun r s₃ h₃=>wpAny_bind (wpAny_letTemporaryGo (wpAny_pure h₃))) fun _ _ x=>x)
 first
  | exact wpAny_pure (wpAny_bind fin)
  | exact wpAny_bind (wpAny_pure (wpAny_bind fin))
  | exact wpAny_bind fin
theorem Al{X:Cx}{pins:List (Addr×Obj)}{σ:St}{H:Hp}{s:Shared}{a:Addr}{y:V}{o:Option V}(I:Inv X pins σ H s)(g:km H a y o):s.TypeIs (.ref a) "dict":=by
 rcases g with⟨kvs,k,e,_,_⟩ |⟨kvs,k,b,e,_,_,_⟩
 ·obtain⟨_,_,vs,_,dd⟩:=p8 I.hok e;exact dd.typeIs
 ·obtain⟨_,_,xs,_,dd⟩:=wa I.hok e;exact dd.typeIs
def P8(td ty:TE):TE:=fun σ H Q=>td σ H fun x H1=>ty σ H1 fun y H2=>∃ a v,x = .ref a/\km H2 a y (some v)/\Q v H2
def Gr(td ty tv:TE):TS:=fun D σ H=>tv σ H fun v H1=>td σ H1 fun x H2=>ty σ H2 fun y H3=>∃ a H4,x = .ref a/\yO H3 a y v H4/\D.nx σ H4
section
variable{X:Cx}{o i e value:Expr}{pos pos' PX:Pos}{td ty tv:TE}
theorem iU(hu:X.A.units+1<cLine)(ho:PE X o td)(hi:PE X i ty)(hs:Sk i):PE X (.Subscript o i pos) (P8 td ty):=by
 intro pins s σ H Q I h;refine J7 PySem.F.slot_dict_getitem.lookup hs (thn (ho pins s σ H _ I h) fun u s1 ⟨x,H1,I1,rx,q1⟩=>thn (hi pins s1 σ H1 _ I1 q1) fun iv s2 hPP=>?_)
 obtain⟨y,H2,I2,ry,a,v,ex,g,q2⟩:=hPP;subst ex;obtain rfl:u=Value.ref a:=rx;exact⟨Al I2 g,EX hu I2 g ry fun w' s3 I3 rw'=>⟨v,H2,I3,rw',q2⟩⟩
theorem qT(hu:X.A.units+1<cLine)(ho:PE X o td)(hi:PE X i ty)(hv:PE X value tv)(hs:swapsWith value (some (.Subscript o i pos')) pos.line X.env=pure false) :
  PS X (.Assign [.Subscript o i pos'] value pos) (Gr td ty tv):=by
 intro pins s σ H D I h;refine wpAny_Assign_Subscript (thn (hv pins s σ H _ I h) fun r s1 ⟨v,H1,I1,rv,q1⟩=>thn (ho pins s1 σ H1 _ I1 q1) fun u s2 ⟨x,H2,I2,rx,q2⟩=>thn (hi pins s2 σ H2 _ I2 q2) fun iv s3 hPP=>?_) hs
 obtain⟨y,H3,I3,ry,a,H4,ex,g,q3⟩:=hPP;subst ex;obtain rfl:u=Value.ref a:=rx;exact EW hu I3 g ry rv fun s4 I4=>⟨σ,H4,I4,q3⟩
end
theorem Ak{P:Program}{w:World}{H:Hp}(h:Heap)(hb:sysModules<h.objs.size):bK P w H (h.push { cls:=.type "dict",data:=.dict #[] }) h.objs.size (.dK []) :=
 ⟨Nat.zero_le _,beq_eq_false_iff_ne.mpr (Ne.symm (Nat.ne_of_lt hb)),[],.nil,Heap.DictOf.new h⟩
def FQ:TE:=fun _ H Q=>∀ p,H p=none->Q (.ref p) (upd H p (.dK []))
section
variable{X:Cx}{pos:Pos}
theorem Hm:PE X (.Dict [] [] pos) FQ:=fun pins s σ H Q I h =>
 wpAny_Dict_empty ⟨.ref s.heap.objs.size,_,I.laid (a:=s.heap.objs.size) (o:=.dK []) (t':=s.toks) (fun _ _ q=>Heap.get?_push_of_some _ q) (Nat.le_refl _) (Ak s.heap I.big),rfl,h _ (I.hok.fresh (Nat.le_refl _))⟩
end
def AW:List (TE×TE)->St->Hp ->(List (V×V)->Hp->Prop)->Prop
 | [],_,H,Q=>Q [] H
 | (tk,tv)::r,σ,H,Q=>tk σ H fun x H1=>tv σ H1 fun y H2=>AW r σ H2 fun ps H3=>Q ((x,y)::ps) H3
abbrev VV:List (V×V)->List (Value×Value)->Prop:=Paired fun p q=>RelV p.1 q.1/\RelV p.2 q.2
def PPs(X:Cx)(pos:Pos)(keys:List (Option Expr))(values:List Expr)(trs:List (TE×TE)):Prop :=
 ∀(pins:List (Addr×Obj))(s:Shared)(σ:St)(H:Hp)(Q:List (V×V)->Hp->Prop),Inv X pins σ H s->AW trs σ H Q ->
  wpAny (model X.prog X.w) X.A (evalPairs (pairTrees keys values X.env pos)) (fun vs s'=>∃ ps H',Inv X pins σ H' s'/\VV ps vs/\Q ps H') X.xe s
theorem KR{X:Cx}{pos:Pos}:PPs X pos [] [] []:=fun pins s σ H Q I h=>pairTrees_nil_walk ⟨[],H,I,.nil,h⟩
theorem sg{X:Cx}{pos:Pos}{k v:Expr}{ks:List (Option Expr)}{vs:List Expr}{tk tv:TE}{trs:List (TE×TE)}(hk:PE X k tk)(hv:PE X v tv)(hr:PPs X pos ks vs trs) :
  PPs X pos (some k::ks) (v::vs) ((tk,tv)::trs):=fun pins s σ H Q I h =>
 pairTrees_cons_walk (thn (hk pins s σ H _ I h) fun u s1 ⟨x,H1,I1,rx,q1⟩=>thn (hv pins s1 σ H1 _ I1 q1) fun w2 s2 ⟨y,H2,I2,ry,q2⟩ =>
  thn (hr pins s2 σ H2 _ I2 q2) fun ws s3 ⟨ps,H3,I3,rel,q3⟩=>⟨(x,y)::ps,H3,I3,.cons ⟨rx,ry⟩ rel,q3⟩)
def fV(kvs more:List (Key×V)):List (Key×V):=more.foldl (fun acc kv=>putK acc kv.1 kv.2) kvs
theorem KV.merge:∀{more:List (Key×V)}{rs:List (Key×Value)}{kvs:List (Key×V)}{vs:List (Key×Value)},KV more rs->KV kvs vs->KV (fV kvs more) (merged vs rs):=by
 intro more rs kvs vs r;unfold KV at r
 induction r generalizing kvs vs with
 | nil=>intro q;exact q
 | @cons p q ps qs h t ih =>
  intro r0;have e:KV (putK kvs p.1 p.2) (stored vs q.1 q.2):=by
   have:=r0.put p.1 h.2
   rw[<- h.1];exact this
  exact ih e
theorem gZ:∀(more kvs:List (Key×V)),(fV kvs more).length<=kvs.length+more.length
 | [],kvs=>by show kvs.length<=kvs.length+0;omega
 | p::r,kvs=>by
  have h1:=gZ r (putK kvs p.1 p.2);have h2:=jU kvs p.1 p.2;show(fV (putK kvs p.1 p.2) r).length<=_;rw[List.length_cons];omega
theorem t6{P:Program}{w:World}:∀{kvs:List (Key×V)}{ws:List (Value×Value)},VV (kvs.map fun kv=>(kV kv.1,kv.2)) ws->∃ rs,Carries (bH P w) ws rs/\KV kvs rs
 | [],_,r=>by rw[List.map_nil]at r;cases r;exact⟨[],True.intro,.nil⟩
 | p::kvs,_,r=>by
  rw[List.map_cons]at r;cases r with
  | @cons a b as bs h t =>
   obtain⟨rs,c,q⟩:=t6 (P:=P) (w:=w) t;obtain⟨b1,b2⟩:=b;exact⟨(p.1,b2)::rs,⟨pY h.1,rfl,c⟩,.cons ⟨rfl,h.2⟩ q⟩
def P7(trs:List (TE×TE)):TE:=fun σ H Q=>∀ p,H p=none->AW trs σ (upd H p (.dK [])) fun ps H2=>H2 p=some (.dK [])/\∃ kvs:List (Key×V),ps=kvs.map (fun kv=>(kV kv.1,kv.2))/\kvs.length<=15/\Q (.ref p) (upd H2 p (.dK (fV [] kvs)))
theorem Lb{X:Cx}{pos:Pos}{keys:List (Option Expr)}{values:List Expr}{trs:List (TE×TE)}(h:PPs X pos keys values trs)(Pj:keys.all (·.isSome)=true)(hl:keys.length=values.length)(h0:keys ≠ [])
  (h15:keys.length<=15):PE X (.Dict keys values pos) (P7 trs):=by
 intro pins s σ H Q I q;have hn:=I.hok.fresh (Nat.le_refl s.heap.objs.size);have I1:=I.laid (a:=s.heap.objs.size) (o:=.dK []) (h':=s.heap.push { cls:=.type "dict",data:=.dict #[] }) (t':=s.toks) (fun _ _ q=>Heap.get?_push_of_some _ q) (Nat.le_refl _) (Ak s.heap I.big)
 refine wpAny_Dict_walk (knd:=bH X.prog X.w) Pj hl h0 h15 (thn (h pins _ σ _ _ I1 (q _ hn)) fun ws s2 hPP=>?_)
 obtain⟨ps,H2,I2,rel,e,kvs,ep,lk,q2⟩:=hPP;subst ep;obtain⟨rs,c,rk⟩:=t6 (P:=X.prog) (w:=X.w) rel;obtain⟨z,hd,vs0,r0,dd⟩:=Na I2.hok e;cases r0;refine⟨rs,c,dd,fun h' dd' hs=>⟨.ref s.heap.objs.size,_,?_,rfl,q2⟩⟩
 have hz:(fV [] kvs).length<=sizeLine:=by
  have h1:=gZ kvs [];rw[List.length_nil]at h1;rw[sizeLine_eq];omega
 have he:∃ q,h'.get? s.heap.objs.size=some q:=let⟨q,_,_,hq,_⟩:=dd';⟨q,hq⟩
 exact yb I2 (by rw[e];exact True.intro) hs he (BX hz hd (rk.merge .nil) dd')
structure M2(X:Cx)(o:Expr)(m:Str)(apos:Pos)(e f:Expr)(bc:Pos):Prop where
 base:attributeBase o m X.env (eval o X.env)=eval o X.env
 few:((backTo bc (starEach [e,f] X.env)).all (fun x=>!x.1)&&(backToKw bc (keywordEach [] X.env)).all (fun x=>x.1.isSome)
  && decide (([e,f]:List Expr).length+([]:List Keyword).length+(if([]:List Keyword).isEmpty then 0 else 1)<30))=true
 line:(apos.endLine==bc.line)=true
 trees:backTo bc (starEach [e,f] X.env) = [(false,eval e X.env),(false,eval f X.env)]
def IsD(H:Hp)(a:Addr):Prop:=(∃ kvs,Rd H a (.dK kvs))\/∃ kvs,Rd H a (.dT kvs)
theorem O7{X:Cx}{pins:List (Addr×Obj)}{σ:St}{H:Hp}{s:Shared}{a:Addr}(I:Inv X pins σ H s)(d:IsD H a) :
  s.TypeIs (.ref a) "dict" /\ (∀ b,Value.ref a = .ref b->∃ ob,s.heap.get? b=some ob/\ob.dict=none)/\(a==sysModules)=false:=by
 rcases d with⟨kvs,e⟩ |⟨kvs,e⟩
 ·obtain⟨_,hd,vs,_,dd⟩:=p8 I.hok e;refine⟨dd.typeIs,fun b q=>?_,hd⟩
  cases q;obtain⟨ob,_,_,h1,h2,_⟩:=dd;exact⟨ob,h1,h2.2.1⟩
 ·obtain⟨_,hd,xs,_,dd⟩:=wa I.hok e;refine⟨dd.typeIs,fun b q=>?_,hd⟩
  cases q;obtain⟨ob,_,_,h1,h2,_⟩:=dd;exact⟨ob,h1,h2.2.1⟩
section
variable{X:Cx}{pins:List (Addr×Obj)}{σ:St}{H:Hp}{s:Shared}{a:Addr}{y d:V}{u r:Value}{o:Option V}{A:Around}{E:Value->Shared->Prop}
theorem Pr{Q:Value->Shared->Prop}(hu:A.units+1<cLine)(I:Inv X pins σ H s)(g:km H a y o)(ry:RelV y u)(rd:RelV d r)(h:∀ w' s',Inv X pins σ H s'->RelV (o.getD d) w'->Q w' s') :
  wpAny (model X.prog X.w) A (call (.builtin "dict.get") [.ref a,u,r]) Q E s:=by
 rcases g with⟨kvs,k,e,ey,l⟩ |⟨kvs,k,b,e,ey,eb,l⟩
 ·subst ey;obtain⟨z,hd,vs,rel,dd⟩:=p8 I.hok e;refine call_meetsIn PySem.F.slot_dict_get dd.typeIs PySem.F.entry_dict_get (PySem.F.args_dict_get_3 _ _ _) (meets_dict_get_default (bH X.prog X.w) a (pY ry) hd r) ⟨_,dd.mapOf,h _ _ (I.tok _) ?_⟩;rw[l];exact(rel.val k).getD rd
 ·subst ey
  cases(show u=Value.ref b from ry)
  obtain⟨z,hd,xs,rel,dd⟩:=wa I.hok e;refine call_meetsIn PySem.F.slot_dict_get dd.typeIs PySem.F.entry_dict_get (PySem.F.args_dict_get_3 _ _ _) (meetsH_dict_get_default (tupleKind (bH X.prog X.w)) a b hd r) ⟨tupleKind_room_in1 hu,k,xs,sW I.hok eb,dd,h _ _ (I.tok _) ?_⟩;rw[l];exact(rel.val k).getD rd
end
def FR(td ty tx:TE):TE:=fun σ H Q=>td σ H fun x H1=>∃ a,x = .ref a/\IsD H1 a/\ty σ H1 fun y H2=>tx σ H2 fun z H3=>∃ o,km H3 a y o/\Q (o.getD z) H3
section
variable{X:Cx}{o e f:Expr}{apos bc:Pos}{td ty tx:TE}
theorem Hn(hu:X.A.units+1<cLine)(ho:PE X o td)(he:PE X e ty)(hf:PE X f tx)(m:M2 X o "get" apos e f bc):PE X (.Call (.Attribute o "get" apos) [e,f] [] bc) (FR td ty tx):=by
 intro pins s σ H Q I h;refine wpAny_Call_method m.base m.few m.line PySem.F.plainAttrs_dict PySem.F.slot_dict_get PySem.F.type_dict_get (thn (ho pins s σ H _ I h) fun u s1 hPP=>?_)
 obtain⟨x,H1,I1,rx,a,ex,d,q1⟩:=hPP;subst ex;obtain rfl:u=Value.ref a:=rx;obtain⟨t1,t2,_⟩:=O7 I1 d;refine⟨t1,t2,?_⟩;rw[m.trees];refine Calls.callWith_builtin rfl (Calls.evalArgs_plain (Calls.spliced_cons (thn (he pins s1 σ H1 _ I1 q1) fun iv s2 ⟨y,H2,I2,ry,q2⟩ =>
  Calls.spliced_cons (thn (hf pins s2 σ H2 _ I2 q2) fun fv s3 ⟨z,H3,I3,rz,ov,g,q3⟩=>Calls.spliced_nil ?_))))
 exact Pr hu I3 g ry rz fun w' s4 I4 rw'=>⟨_,H3,I4,rw',q3⟩
end
section
variable{X:Cx}
theorem Fc:c7 X (.builtin "len") (fun xs H Q=>∃ a kvs,xs = [V.ref a]/\H a=some (.dK kvs)/\Q (.int kvs.length) H):=by
 intro pins s σ H xs us Q I r h;obtain⟨a,kvs,rfl,ha,q⟩:=h;obtain⟨u,rfl,ru⟩:=vals1 r;cases ru;exact RW I (.inl ha) fun t s' I'=>⟨.int kvs.length,H,I',⟨t,rfl⟩,q⟩
end
end L2
set_option maxHeartbeats 4000000
namespace L2
open PySem PySem.Spec PyProof.Rows
theorem sL{h:Heap}{a:Nat}{o:Obj}(e:h.get? a=some o):@LT.lt Nat _ a h.objs.size:=Heap.lt_size e
theorem Dh{h:Heap}{a:Nat}{v:Option Value}(e:h.IsCell a v):@LT.lt Nat _ a h.objs.size:=e.lt
theorem nr{a b:Nat}(h:a<b):@Ne Addr a b:=Nat.ne_of_lt h
theorem Rk{a b:Nat}(h:b<a):@Ne Addr a b:=Nat.ne_of_gt h
theorem j9{env:Env}{body:Str×NameKind->List (Str×Addr)->Sem (ForInStep (List (Str×Addr)))}
  (hb:∀ n k c,body (n,k) c=if(k==NameKind.free)=true then(cellOf env n >>= fun a=>pure (.yield ((n,a)::c)))else pure (.yield c)) :
  ∀(l:List (Str×NameKind))(cs:List (Str×Addr)),(∀ p∈l,p.2=NameKind.free->∃ c,env.cells.lookup p.1=some c) ->
   ∃ cl,forIn l cs body=pure cl/\(∀ x c,cl.lookup x=some c->env.cells.lookup x=some c\/cs.lookup x=some c)/\(∀ x,(x,NameKind.free)∈l->∃ c,cl.lookup x=some c)/\∀ x c,cs.lookup x=some c->∃ c',cl.lookup x=some c'
 | [],cs,_=>⟨cs,rfl,fun _ _ h=>.inr h,fun _ h=>(nomatch h),fun _ c h=>⟨c,h⟩⟩
 | (n,k)::r,cs,h=>by
  have hr:∀ p∈r,p.2=NameKind.free->∃ c,env.cells.lookup p.1=some c:=fun p hp=>h p (List.mem_cons_of_mem _ hp)
  rw[List.forIn_cons,hb];by_cases hk:(k==NameKind.free)=true
  ·rw[if_pos hk];have hk':k = .free:=by simpa using hk
   obtain⟨c,hc⟩:=h (n,k) List.mem_cons_self hk';have e1:cellOf env n=pure c:=by unfold cellOf;rw[hc]
   rw[e1];obtain⟨cl,e,h1,h2,h3⟩:=j9 hb r ((n,c)::cs) hr;refine⟨cl,e,fun x c' hx=>?_,fun x hx=>?_,fun x c' hx=>?_⟩
   ·rcases h1 x c' hx with z|z
    ·exact .inl z
    ·by_cases e2:(x==n)=true
     ·have e3:x=n:=by simpa using e2
      subst e3;rw[List.lookup_cons,e2]at z;cases z;exact .inl hc
     ·rw[List.lookup_cons,Bool.eq_false_iff.mpr e2]at z;exact .inr z
   ·rcases List.mem_cons.mp hx with z|z
    ·have e2:x=n:=congrArg Prod.fst z;exact h3 x c (by rw[List.lookup_cons,e2,beq_self_eq_true])
    ·exact h2 x z
   ·by_cases e2:(x==n)=true
    ·exact h3 x c (by rw[List.lookup_cons,e2])
    ·exact h3 x c' (by rw[List.lookup_cons,Bool.eq_false_iff.mpr e2];exact hx)
  ·rw[if_neg hk];obtain⟨cl,e,h1,h2,h3⟩:=j9 hb r cs hr;refine⟨cl,e,h1,fun x hx=>?_,h3⟩
   rcases List.mem_cons.mp hx with z|z
   ·cases z;exact absurd rfl hk
   ·exact h2 x z
theorem B0{scope:Scope}{env:Env}(h:∀ p∈scope.names,p.2=NameKind.free->∃ c,env.cells.lookup p.1=some c) :
  ∃ cl:List (Str×Addr),closureFor scope env=pure cl/\(∀ x c,cl.lookup x=some c->env.cells.lookup x=some c)/\∀ x,(x,NameKind.free)∈scope.names->∃ c,cl.lookup x=some c:=by
 obtain⟨cl,e,h1,h2,_⟩:=j9 (env:=env) (body:=fun x c=>if(x.2==NameKind.free)=true then(cellOf env x.1 >>= fun a=>pure (.yield ((x.1,a)::c)))else pure (.yield c)) (fun _ _ _=>rfl) scope.names [] h
 refine⟨cl,?_,fun x c hx=>(h1 x c hx).elim id fun z=>by simp at z,h2⟩
 have e2:closureFor scope env =(forIn scope.names ([]:List (Str×Addr)) (fun x c=>if(x.2==NameKind.free)=true then(cellOf env x.1 >>= fun a=>pure (.yield ((x.1,a)::c)))else pure (.yield c)) >>= fun r=>pure r):=by
  simp only[closureFor]
 rw[e2,e];rfl
theorem gY{env:Env}:∀{names:List (Str×NameKind)}{x:Str}{k:NameKind},
  (names.map fun(n,k)=>if(k==NameKind.free&&env.scope.kind == .function&&env.kindOf n==some .cell)then(n,NameKind.cell)else(n,k)).lookup x=some k ->
   names.lookup x=some k\/(names.lookup x=some .free/\k = .cell)
 | [],_,_,h=>by simp at h
 | (n,k0)::r,x,k,h=>by
  have ih:=@gY env r x k
  replace h:List.lookup x ((if(k0==NameKind.free&&env.scope.kind == .function&&env.kindOf n==some .cell)=true then(n,NameKind.cell)else(n,k0)) ::(r.map fun(n,k)=>if(k==NameKind.free&&env.scope.kind == .function&&env.kindOf n==some .cell)then(n,NameKind.cell)else(n,k)))=some k:=h
  cases hx:x==n with
  | true =>
   by_cases hc:(k0==NameKind.free&&env.scope.kind == .function&&env.kindOf n==some .cell)=true
   ·rw[if_pos hc]at h;simp only[List.lookup_cons,hx]at h;cases h
    have:k0 = .free:=by
     simp only[Bool.and_eq_true]at hc;simpa using hc.1.1
    subst this;exact .inr ⟨by simp only[List.lookup_cons,hx],rfl⟩
   ·rw[if_neg hc]at h;simp only[List.lookup_cons,hx]at h;exact .inl (by simp only[List.lookup_cons,hx];exact h)
  | false =>
   have h':(r.map fun(n,k)=>if(k==NameKind.free&&env.scope.kind == .function&&env.kindOf n==some .cell)then(n,NameKind.cell)else(n,k)).lookup x=some k:=by
    by_cases hc:(k0==NameKind.free&&env.scope.kind == .function&&env.kindOf n==some .cell)=true
    ·rw[if_pos hc]at h;simpa only[List.lookup_cons,hx]using h
    ·rw[if_neg hc]at h;simpa only[List.lookup_cons,hx]using h
   rcases ih h' with z|z
   ·exact .inl (by simp only[List.lookup_cons,hx];exact z)
   ·exact .inr (by simp only[List.lookup_cons,hx];exact z)
theorem m7{env:Env}:∀{names:List (Str×NameKind)}{x:Str},names.lookup x=some .free ->
  (names.map fun(n,k)=>if(k==NameKind.free&&env.scope.kind == .function&&env.kindOf n==some .cell)then(n,NameKind.cell)else(n,k)).lookup x=some .free \/
  (names.map fun(n,k)=>if(k==NameKind.free&&env.scope.kind == .function&&env.kindOf n==some .cell)then(n,NameKind.cell)else(n,k)).lookup x=some .cell
 | [],_,h=>by simp at h
 | (n,k0)::r,x,h=>by
  have ih:=@m7 env r x;show List.lookup x ((if(k0==NameKind.free&&env.scope.kind == .function&&env.kindOf n==some .cell)=true then(n,NameKind.cell)else(n,k0))::_)=_\/List.lookup x ((if(k0==NameKind.free&&env.scope.kind == .function&&env.kindOf n==some .cell)=true then(n,NameKind.cell)else(n,k0))::_)=_
  cases hx:x==n with
  | true =>
   simp only[List.lookup_cons,hx]at h;cases h;by_cases hc:(NameKind.free==NameKind.free&&env.scope.kind == .function&&env.kindOf n==some .cell)=true
   ·rw[if_pos hc];simp only[List.lookup_cons,hx];exact .inr trivial
   ·rw[if_neg hc];simp only[List.lookup_cons,hx];exact .inl trivial
  | false =>
   simp only[List.lookup_cons,hx]at h;by_cases hc:(k0==NameKind.free&&env.scope.kind == .function&&env.kindOf n==some .cell)=true
   ·rw[if_pos hc];simp only[List.lookup_cons,hx];exact ih h
   ·rw[if_neg hc];simp only[List.lookup_cons,hx];exact ih h
inductive nW(X:Cx)(sc:Scope):List Str->List (Option Nat)->Prop
 | nil:nW X sc [] []
 | own{x:Str}{N:List Str}{c:List (Option Nat)}:sc.names.lookup x=some .local->nW X sc N c->nW X sc (x::N) (none::c)
 | got{x:Str}{i:Nat}{N:List Str}{c:List (Option Nat)}:X.N[i]? = some x->sc.names.lookup x=some .free ->(X.env.kindOf x=some .cell\/X.env.kindOf x=some .free)->nW X sc N c->nW X sc (x::N) (some i::c)
def nM(c:List (Option Nat))(σ:St):St:=c.map fun o=>o.bind fun(i:Nat)=>(σ[i]?).join
theorem nW.len{X:Cx}{sc:Scope}{N:List Str}{c:List (Option Nat)}{σ:St}(h:nW X sc N c):(nM c σ).length=N.length:=by
 unfold nM;rw[List.length_map]
 induction h with
 | nil=>rfl
 | own _ _ ih=>simp[ih]
 | got _ _ _ _ ih=>simp[ih]
theorem nW.at{X:Cx}{sc:Scope}{N:List Str}{c:List (Option Nat)}{σ:St}(h:nW X sc N c):∀{j:Nat}{x:Str}{v:V},N[j]? = some x ->(nM c σ)[j]? = some (some v) ->
  ∃ i:Nat,X.N[i]? = some x/\σ[i]? = some (some v)/\sc.names.lookup x=some .free/\(X.env.kindOf x=some .cell\/X.env.kindOf x=some .free):=by
 induction h with
 | nil=>intro j x v h1;simp at h1
 | own _ _ ih =>
  intro j x v h1 h2;cases j with
  | zero=>simp[nM]at h2
  | succ j=>exact ih (by simpa using h1) (by simpa [nM]using h2)
 | @got y i N c g1 g2 g3 _ ih =>
  intro j x v h1 h2;cases j with
  | zero =>
   have e:y=x:=by simpa using h1
   subst e;refine⟨i,g1,?_,g2,g3⟩;have h2':(σ[i]?).join=some v:=by simpa [nM]using h2
   cases q:σ[i]? with
   | none=>rw[q]at h2';cases h2'
   | some o =>
    rw[q]at h2'
    have:o=some v:=h2'
    rw[this]
  | succ j=>exact ih (by simpa using h1) (by simpa [nM]using h2)
def blk(X:Cx)(N':List Str)(sc:Scope)(cl:List (Str×Addr))(C:Addr)(s₂:Shared)(H₂:Hp)(fp:List Addr):Cx :=
 { X with N:=N',s₀:=s₂,H₀:=H₂,env:=compEnvC sc cl C X.env,outer:=X.stack,ex:=fp,fn:=fun _=>false,pn:=[],xe:=fun _ _=>False }
def PTs(X:Cx)(ifs:List Expr)(t:TT):Prop :=
 ∀(pins:List (Addr×Obj))(s:Shared)(σ:St)(H:Hp)(Q:Bool->Hp->Prop),Inv X pins σ H s->t σ H Q ->
  wpAny (model X.prog X.w) X.A (forIn ifs true fun c r=>if r=true then do let ok <- isTrue c X.env (eval c X.env);pure (ForInStep.yield ok)else pure (ForInStep.yield r)) (TP X pins σ Q) X.xe s
def Ct:TT:=fun _ H Q=>Q true H
theorem CM{X:Cx}:PTs X [] Ct:=fun _ _ _ H _ I h=>wpAny_tests_nil ⟨H,I,h⟩
theorem CL{X:Cx}{c:Expr}{t:TT}(h:PT X c t):PTs X [c] t:=fun pins s σ H Q I q=>wpAny_tests_one (h pins s σ H Q I q)
def Ni(g:TG)(tst:TT)(te:TE)(σ0:St)(Q:VK)(J:It)(H1:Hp):Prop :=
 ∃ W:Nat->Nat->List V->St->Hp->Prop,(∃ m,W 0 m [] σ0 H1)/\∀ i m ys σ' H',W i m ys σ' H' ->
  (J.stop i H'/\ys.length<=sizeLine/\∀ D,H' D=none->Q (.ref D) (upd H' D (.lst ys))) \/
  (J.go i H'/\ys.length<sizeLine/\∃ N:List V->St->Hp->Prop,(∀ ys2 σ2 H2,N ys2 σ2 H2->∃ m',m'<m/\W (i+1) m' ys2 σ2 H2)/\∀ x H2,J.yld i H' x H2->g x σ' H2 fun σ2 H3=>tst σ2 H3 fun b H4 =>
   if b=true then te σ2 H4 fun y H5=>N (ys ++ [y]) σ2 H5 else N ys σ2 H4)
def vH(cap:List (Option Nat))(wi:TI)(g:TG)(tst:TT)(te:TE):TE:=fun σ H Q=>wi σ H (Ni g tst te (nM cap σ) Q)
theorem E4{prog:Program}{w:World}{A:Around}{R:Result->Shared->Prop}{s:Shared}{elt target iter:Expr}{ifs:List Expr}{scope:Scope}{pos:Pos}{it acc:Value}{env:Env}(I:Nat->Shared->Prop)
  (turn:∀ n s,I n s->wpAny (model prog w) A (pyNext it) (fun r s₁=>match r with
   | none=>R (.ok .next) s₁
   | some v=>wpAny (model prog w) A (letOwnedTupleGo target it v) (fun _ s₁'=>wpAny (model prog w) A (assign target env v) (fun _ s₂ =>
     wpAny (model prog w) A (forIn ifs true fun c r=>if r=true then do let ok <- isTrue c env (eval c env);pure (ForInStep.yield ok)else pure (ForInStep.yield r)) (fun ok s₃ =>
      if ok=true then wpAny (model prog w) A (eval elt env) (fun x s₄ =>
       wpAny (model prog w) A (call (.builtin "list.append") [acc,x]) (fun _ s₅=>∃ m,m<n/\I m s₅) (fun _ _=>False) s₄) (fun _ _=>False) s₃
      else ∃ m,m<n/\I m s₃) (fun _ _=>False) s₂) (fun _ _=>False) s₁') (fun _ _=>False) s₁) (fun _ _=>False) s)
  (n:Nat) (h:I n s) :
  codeAny (model prog w) A (.compLoop (.ListComp elt [⟨target,iter,ifs,0⟩] scope pos) 0 it acc env) R s:=by
 refine codeAny_loop rfl I (fun n s hI=>?_) n h
 show wpAny _ A ((compTurn (.ListComp elt [⟨target,iter,ifs,0⟩] scope pos) 0 it acc env).onRaise (fun x=>do noteFrame x env;theTreesLotGoes x)) _ _ s
 refine wpAny_noted ?_;rw[compTurn_list];refine wpAny_bind (wpAny_standAt (wpAny_bind (wpAny_mono (turn n s hI) (fun r s₁ h₁=>?_) fun _ _ h'=>h'.elim)))
 cases r with
 | none=>exact wpAny_pure h₁
 | some v =>
  refine wpAny_bind (wpAny_mono h₁ (fun _ s₁' h₁'=>?_) fun _ _ h'=>h'.elim)
  refine wpAny_bind (wpAny_mono h₁' (fun _ s₂ h₂=>wpAny_bind (wpAny_mono h₂ (fun ok s₃ h₃=>?_) fun _ _ h'=>h'.elim)) fun _ _ h'=>h'.elim)
  cases ok with
  | false=>exact wpAny_pure ⟨rfl,h₃⟩
  | true =>
   exact wpAny_bind (wpAny_bind (wpAny_mono h₃ (fun x s₄ h₄=>wpAny_bind (wpAny_mono h₄ (fun _ s₅ h₅=>wpAny_pure (wpAny_pure ⟨rfl,h₅⟩)) fun _ _ h'=>h'.elim)) fun _ _ h'=>h'.elim))
theorem Ao{X:Cx}{pins:List (Addr×Obj)}{σ:St}{H:Hp}{s:Shared}{Q:VK}{tg iter elt:Expr}{ifs:List Expr}{sc:Scope}{p pos:Pos}{N':List Str}{cap:List (Option Nat)}{wi:TI}{g:TG}{tst:TT}{te:TE}{use:Option (Value->Sem Unit)}{Q':Value->Shared->Prop}
  (hc:X.calm=true) (hi:PI X tg iter wi) (iy:sc.kind = .function) (iz:∀ y∈sc.names,y.2 ≠ .cell) (ja:∀ y∈sc.names,y.2 = .local->sc.names.lookup y.1=some .local)
  (jv:∀ y∈sc.names,y.2 = .free->X.env.kindOf y.1=some .cell\/X.env.kindOf y.1=some .free) (vh:nW X sc N' cap)
  (hb:∀ cl C s₂ H₂ fp,PG (blk X N' sc cl C s₂ H₂ fp) tg g/\PTs (blk X N' sc cl C s₂ H₂ fp) ifs tst/\PE (blk X N' sc cl C s₂ H₂ fp) elt te)
  (I:Inv X pins σ H s) (h:vH cap wi g tst te σ H Q)
  (fin:∀ D C m H' s',Inv X pins σ H' s'->vA X pins H' C->s'.heap.Ns C m->Q (.ref D) H'->compPost (model X.prog X.w) X.A X.xe use Q' (.ref D) C (.ok .next) s')
  (hs:∀ x,foldedSetIterable iter X.env x=pure x) :
  wpAny (model X.prog X.w) X.A (comprehension (.ListComp elt [⟨tg,iter,ifs,0⟩] sc pos) sc X.env p (newList []) false (eval iter X.env) use) Q' X.xe s:=by
 obtain⟨cl,RM,Af,RN⟩:=B0 (scope:=sc) (env:=X.env) fun q hq e=>I.ok.has q.1 (jv q hq e)
 refine wpAny_comprehension_free rfl hs RM iy ja (thn (hi pins s σ H _ I h) fun v s1 h1=>thn h1 fun itv s2 h2=>?_)
 obtain⟨it,fp,tn,J,H2,e,I2,T,st2,f2,W,⟨m0,w0⟩,turn⟩:=h2;subst e;refine wpAny_newObj_type (wpAny_newFunctionEnv iz (by intro y hy;simp at hy) (fun h₁ L0 ID=>?_) iy)
 dsimp only at L0 ID ⊢
 generalize hHP:s2.heap.push { cls:=.type "list",dict:=none,data:=.seq ([]:List Value).toArray }=HP at L0 ID ⊢
 have hC:HP.objs.size=s2.heap.objs.size+1:=by rw[<- hHP,Heap.size_push]
 obtain⟨D,hDn⟩:∃ D:Nat,s2.heap.objs.size=D:=⟨_,rfl⟩
 obtain⟨C,hCn⟩:∃ C:Nat,HP.objs.size=C:=⟨_,rfl⟩
 rw[hDn]at hC;rw[hCn]at hC L0 ID ⊢;rw[hDn];have hDC:@Ne Addr D C:=nr (by omega)
 have old:∀ b o,s2.heap.get? b=some o->h₁.get? b=some o:=fun b o e =>
  ID.extBut b o (nr (by have:=sL e;omega)) (Heap.get?_push_of_some _ (hHP▸Heap.get?_push_of_some _ e))
 have iA:h₁.get? D=some { cls:=.type "list",data:=.seq ([]:List Value).toArray 0 } :=
  ID.extBut _ _ hDC (Heap.get?_push_of_some _ (by rw[<- hHP,<- hDn];exact Heap.get?_push_size _ rfl))
 have okB:(blk X N' sc cl C s2 H2 fp).Ok:=by
  refine⟨I.ok.mod,iy,I.ok.glob,I.ok.blt,(by show s2.heap.objs.size<=C;omega),fun x y c h1 h2=>I.ok.inj x y c (Af x c h1) (Af y c h2),fun x hx=>?_,fun x c hx=>(nomatch hx),I.ok.hd,I.ok.frames,.inl rfl,fun b hb=>?_,
   fun b o e=>I2.bs b o e,Nat.le_trans I2.ok.bsz I2.sz,fun b o e hb=>?_,fun b hb=>?_,I2.stack,I2.ko⟩
  ·have hx':sc.names.lookup x=some .free:=by
    rcases hx with hx|hx
    ·rcases gY hx with z|z
     ·exact absurd rfl (iz _ (PySem.mem_of_lookup z))
     ·exact z.1
    ·rcases gY hx with z|z
     ·exact z
     ·exact z.1
   exact RN x (PySem.mem_of_lookup hx')
  ·obtain⟨o,ho,_⟩:=T.obj _ _ st2 b hb;refine⟨?_,fun x c e=>(f2 b hb).2.2.2.2.1 x c (Af x c e)⟩
   show @Ne Addr b C
   have:=sL ho
   exact nr (by omega)
  ·obtain⟨_,_,_,z,_⟩:=f2 b hb;rcases z with z|z
   ·exact I2.ok.Bj b o e z
   ·have:=sL (show X.base.get? b=some o from e)
    have:=I2.ok.bsz
    omega
  ·intro hb';rcases List.mem_cons.mp (I2.oC b hb')with z|z
   ·exact(f2 b hb).2.1 z
   ·exact(f2 b hb).2.2.1 z
 have nD:H2 D=none:=I2.hok.fresh (by rw[hDn];exact Nat.le_refl _)
 have hb0:=hb cl C s2 H2 fp
 generalize hXB:blk X N' sc cl C s2 H2 fp=XB at okB hb0
 have eP:XB.prog=X.prog:=by rw[<- hXB];rfl
 have eW:XB.w=X.w:=by rw[<- hXB];rfl
 have eK:XB.K=X.K:=by rw[<- hXB];rfl
 have eA:XB.A=X.A:=by rw[<- hXB];rfl
 have eE:XB.env=compEnvC sc cl C X.env:=by rw[<- hXB];rfl
 have eX:XB.xe=fun _ _=>False:=by rw[<- hXB];rfl
 have eFs:XB.fs=frs X.stack:=by rw[<- hXB];rfl
 have eEx:XB.ex=fp:=by rw[<- hXB];rfl
 have eS:XB.s₀=s2:=by rw[<- hXB];rfl
 have eH:XB.H₀=H2:=by rw[<- hXB];rfl
 have ePn:XB.pn = []:=by rw[<- hXB];rfl
 have eCa:XB.calm=true:=by rw[<- hXB];exact hc
 have eN:XB.N=N':=by rw[<- hXB];rfl
 have eL:XB.env.locals=C:=by rw[eE];rfl
 have eCl:XB.env.cells=cl:=by rw[eE];rfl
 have Ts:∀(x:Str)(c:Nat),cl.lookup x=some c->c<D:=fun x c e=>by
  obtain⟨v,z⟩:=I2.cell x c (Af x c e)
  have:=Dh z
  omega
 have nfs:∀(b:Nat),D<=b->b ∉ XB.fs:=fun b hb z=>by
  rw[eFs]at z;obtain⟨_,o,ho,_⟩:=I2.stack.mem z
  have:=sL ho
  omega
 have fpD:∀(b:Nat),b∈fp->b<D:=fun b hb=>by
  obtain⟨o,ho,_⟩:=T.obj _ _ st2 b hb
  have:=sL ho
  omega
 have loop:∀ s3:Shared,s3 ={ s2 with heap:=h₁,toks:=s2.toks+([]:List (Str×Value)).length } ->
   codeAny (model X.prog X.w) X.A (.compLoop (.ListComp elt [⟨tg,iter,ifs,0⟩] sc pos) 0 (.ref it) (.ref D) (compEnvC sc cl C X.env)) (compPost (model X.prog X.w) X.A X.xe use Q' (.ref D) C) s3:=by
  rintro s3 rfl
  refine E4 (fun n s'=>∃ i ys σ' H' its k,Inv XB [] σ' H' s'/\tn i s'.heap/\(∀ b∈fp,H' b=none)/\H' D=none/\s'.heap.get? D=some { cls:=.type "list",data:=.seq (its:List Value).toArray k }/\Vals ys its/\W i n ys σ' H') ?_ m0
   ⟨0,[],nM cap σ,H2,[],0,?_,T.keep _ _ _ st2 fun b hb o e=>old b o e,fun b hb=>(f2 b hb).1,nD,iA,.nil,w0⟩
  ·rintro n s4 ⟨i,ys,σ4,H4,its,k,I4,st4,fr4,d4,o4,v4,w4⟩
   have fpk:∀{H':Hp}{pl:List (Addr×Obj)},(∀ b∈fp,H' b=none) ->(∀ q∈pl,q.1 ∉ fp)->∀ b∈fp,vA XB pl H' b:=fun{H' pl} hn hpl b hb=>by
    refine⟨hn b hb,?_,?_,.inl (by rw[eEx];exact hb),fun x c e=>?_,fun q hq=>?_⟩
    ·rw[eL];have:=fpD b hb;exact nr (by omega)
    ·rw[eFs];intro z;rcases List.mem_cons.mp (I2.oC b z)with z|z
     ·exact(f2 b hb).2.1 z
     ·exact(f2 b hb).2.2.1 z
    ·rw[eCl]at e;exact(f2 b hb).2.2.2.2.1 x c (Af x c e)
    ·rw[ePn]at hq;intro z;exact hpl q (by simpa using hq) (z▸hb)
   have pD:∀ q ∈ [(D,({ cls:=.type "list",data:=.seq its.toArray k }:Obj))],q.1 ∉ fp:=fun q hq=>by
    have e:q=_:=List.mem_singleton.mp hq;subst e;intro z
    have:=fpD _ z
    omega
   have I4':Inv XB [(D,{ cls:=.type "list",data:=.seq its.toArray k })] σ4 H4 s4:=I4.ng fun q hq=>by
    have e:q=_:=List.mem_singleton.mp hq;subst e;refine⟨o4,d4,?_,nfs _ (Nat.le_refl _),fun v=>by simp⟩
    rw[eL];exact hDC
   have T7:=I4';rw[<- eA,<- eP,<- eW];rcases turn i n ys σ4 H4 w4 with⟨stop,hz,qn⟩ |⟨go,hz,N,hN,step⟩
   ·rw[<- eP,<- eW,<- eK]at T;refine wpAny_mono (T.done XB rfl rfl rfl eCa i _ s4 σ4 H4 (fun _ _=>False) I4' (fpk fr4 pD) st4 stop) (fun r s5 ⟨hr,I5⟩=>?_) fun _ _ z=>z
    subst hr;rw[eP,eW,eA];obtain⟨o5,n5,_⟩:=I5.pin (D,{ cls:=.type "list",data:=.seq its.toArray k }) (List.mem_append_right _ (List.mem_singleton.mpr rfl));have u5:Un (frs X.stack) fp H2 H4 s2.heap s5.heap:=by
     have z:=I5.base;rw[eFs,eEx,eH,eS]at z;exact z
    have lt2:∀ b o,s2.heap.get? b=some o -> @Ne Addr b D:=fun b o e=>nr (by have:=sL e;omega)
    have ne5:∀ b u,H4 b=some u->b≠D:=fun b u e z=>by rw[z,d4]at e;cases e
    have hk5:HOk X.prog X.w H4 s5.heap:=by
     have z:=I5.hok;rw[eP,eW]at z;exact z
    have To:=fin D C;obtain⟨mC,hNs,_⟩:=id I5.loc;rw[eL]at hNs;have IX:Inv X pins σ (upd H4 D (.lst ys)) s5:=by
     refine I2.Ay (s':=s5) (ch:=fp) ?_ ⟨u5.keep,u5.slot,fun b o e n hx=>?_,u5.there,fun b xs e=>?_,fun b o u e=>?_,fun b ps e=>?_⟩ ?_ I5.bare fun b hb=>⟨(f2 b hb).2.2.2.1,(f2 b hb).2.1,(f2 b hb).2.2.2.2.1,(f2 b hb).2.2.2.2.2⟩
     ·have z:=I5.os;rw[eS]at z;exact z
     ·rw[ag (lt2 b o e)];exact u5.free b o e n hx
     ·have z:=u5.qg b xs e;rw[ag (ne5 b _ z)];exact z
     ·have z:=u5.pj b o u e;rw[ag (ne5 b _ z)];exact z
     ·obtain⟨more,z⟩:=u5.qj b ps e;exact⟨more,by rw[ag (ne5 b _ z)];exact z⟩
     ·intro a o e;by_cases ha:a=D
      ·subst ha;rw[ao]at e;cases e;exact⟨hz,its,k,v4,o5⟩
      ·rw[ag ha]at e;exact(hk5 a o e).dU (fun _ _ _ q=>q) (fun b q=>by rw[ag (ne5 b _ q)];exact q) fun b xs q=>by rw[ag (ne5 b _ q)];exact q
    refine To mC _ s5 IX ?_ hNs (qn D d4);have hCN:H4 C=none:=by
     have z:=I5.free;rw[eL]at z;exact z
    refine⟨by rw[ag (Ne.symm hDC)];exact hCN,?_,?_,.inr ?_,fun x c e=>?_,fun q hq=>?_⟩
    ·have:@LT.lt Nat _ X.env.locals s2.heap.objs.size:=I2.lt
     exact Rk (by omega)
    ·exact I2.Rj (by rw[hDn];omega)
    ·have:=I2.sz;omega
    ·obtain⟨v,z⟩:=I2.cell x c e
     have:=Dh z
     exact nr (by omega)
    ·have:=sL (I2.pin q hq).1
     exact nr (by omega)
   ·have T':=T;rw[<- eP,<- eW,<- eK]at T';refine wpAny_mono (T'.item XB rfl rfl rfl eCa i _ s4 σ4 H4 (fun _ _=>False) I4' (fpk fr4 pD) st4 go) (fun r s5 ⟨u,hr,h5⟩=>?_) fun _ _ z=>z
    subst hr;refine thn h5 fun _ s6 hPP=>?_
    obtain⟨x,H6,I6,r6,y6,st6,fr6⟩:=hPP;have I6':=I6.pinned (fpk fr6 pD) (T.obj _ _ st6);obtain⟨hg0,ht0,he0⟩:=hb0;rw[<- eE];have hgo:=hg0 _ s6 σ4 H6 x u _ I6' r6 (step x H6 y6);rw[eX]at hgo;refine thn hgo fun _ s7 hPP=>?_
    obtain⟨σ7,H7,I7,q7⟩:=hPP;have hto:=ht0 _ s7 σ7 H7 _ I7 q7;rw[eX]at hto;refine thn hto fun b s8 hPP=>?_
    obtain⟨H8,I8,q8⟩:=hPP;have back:∀{σ9:St}{H9:Hp}{s9:Shared},Inv XB ([(D,{ cls:=.type "list",data:=.seq its.toArray k })]++si fp s6.heap) σ9 H9 s9->tn (i+1) s9.heap/\(∀ b∈fp,H9 b=none)/\H9 D=none/\s9.heap.get? D=some { cls:=.type "list",data:=.seq its.toArray k }:=fun{σ9 H9 s9} I9=>by
     have z:=I9.pin (D,{ cls:=.type "list",data:=.seq its.toArray k }) (List.mem_append_right _ (List.mem_append_left _ (List.mem_singleton.mpr rfl)));refine⟨T.keep _ _ _ st6 fun b hb o e=>(I9.pin (b,o) (List.mem_append_right _ (List.mem_append_right _ (gu hb e)))).1,fun b hb=>?_,z.2.1,z.1⟩
     obtain⟨o,e,_⟩:=T.obj _ _ st6 b hb;exact(I9.pin (b,o) (List.mem_append_right _ (List.mem_append_right _ (gu hb e)))).2.1
    cases b with
    | false =>
     rw[if_neg Bool.false_ne_true]at q8 ⊢;obtain⟨m',hm,w8⟩:=hN _ _ _ q8;obtain⟨t1,t2,t3,t4⟩:=back I8;exact⟨m',hm,i+1,ys,σ7,H8,its,k,I8.ng (fun q hq=>nomatch hq),t1,t2,t3,t4,v4,w8⟩
    | true =>
     rw[if_pos rfl]at q8 ⊢;have heo:=he0 _ s8 σ7 H8 _ I8 q8;rw[eX]at heo;refine thn heo fun yv s9 hPP=>?_
     obtain⟨y,H9,I9,r9,n9⟩:=hPP;obtain⟨m',hm,w9⟩:=hN _ _ _ n9;obtain⟨t1,t2,t3,t4⟩:=back I9;have hsz:its.toArray.size<=sizeLine:=by
      have e:=v4.length;have e2:its.toArray.size=its.length:=by simp
      omega
     refine append_at (hsz:=hsz) t4 fun h' hs' hD'=>?_
     ·refine⟨m',hm,i+1,ys ++ [y],σ7,H9,its ++ [yv],k+1,?_,T.keep _ _ _ t1 fun b hb o e=>hs'.extBut b o (nr (fpD b hb)) e,t2,t3,?_,v4.append (.cons r9 .nil),w9⟩
      ·refine(I9.ng (pins':=[]) (fun q hq=>nomatch hq)).turned (t':=s9.toks) (it:=D) (fun b o hb e=>hs'.extBut b o hb e) t3 ?_ (.inr ?_) (fun x c e=>?_) fun q hq=>?_
       ·rw[eL];exact hDC
       ·rw[eS];omega
       ·rw[eCl]at e;exact nr (Ts x c e)
       ·rw[ePn]at hq;exact nomatch hq
      ·rw[hD'];simp
  ·
   refine⟨okB,by rw[eS],I2.bare,by rw[eFs,eEx,eH,eS];exact Un.kept old,⟨_,by rw[eL];exact L0,fun j x v h1 h2 h3=>?_⟩,fun x c e=>?_,?_,fun x c e=>?_,fun q hq=>?_,by rw[eP,eW];exact I2.hok.kept old,by rw[eN];exact vh.len⟩
   ·rw[eN]at h1;obtain⟨i,g1,g2,g3,g4⟩:=vh.at h1 h2;obtain⟨m,hn,hl⟩:=I2.loc;have hv:Vis X.env.scope x:=by
     rcases g4 with z|z
     ·exact .inr (.inl z)
     ·exact .inr (.inr z)
    obtain⟨u,r,l⟩:=hl i x v g1 g2 hv;refine⟨u,r,.inr ⟨?_,?_⟩⟩
    ·rw[eE];exact(m7 g3).symm
    ·rcases l with⟨hk,_⟩ |⟨_,c,e,z⟩
     ·rcases g4 with y|y
      ·rw[y]at hk;cases hk
      ·rw[y]at hk;cases hk
     ·obtain⟨c',e'⟩:=RN x (PySem.mem_of_lookup g3)
      have:=Af x c' e'
      rw[e]at this;cases this;obtain⟨o,ho,hd⟩:=z;exact⟨c,by rw[eCl];exact e',o,old c o ho,hd⟩
   ·rw[eCl]at e;obtain⟨v,o,ho,hd⟩:=I2.cell x c (Af x c e);exact⟨v,o,old c o ho,hd⟩
   ·rw[eL];exact I2.hok.fresh (by rw[hDn];omega)
   ·rw[eCl]at e;exact I2.gy x c (Af x c e)
   ·rw[ePn]at hq;exact nomatch hq
 exact codeAny_compStart_list (loop _ rfl) (T.self X.A 0 _ _ _ (T.keep _ _ _ st2 fun b hb o e=>old b o e) (loop _ rfl))
theorem C8{X:Cx}{sc:Scope}(h:(sc.names.all fun y=>y.2 != .free ||(X.env.kindOf y.1==some .cell||X.env.kindOf y.1==some .free))=true) :
  ∀ y∈sc.names,y.2 = .free->X.env.kindOf y.1=some .cell\/X.env.kindOf y.1=some .free:=fun y hy e=>by
 have z:=List.all_eq_true.mp h y hy;rw[e]at z;simpa using z
theorem CP{X:Cx}{tg iter elt:Expr}{ifs:List Expr}{sc:Scope}{pos:Pos}{N':List Str}{cap:List (Option Nat)}{wi:TI}{g:TG}{tst:TT}{te:TE}
  (hc:X.calm=true) (hi:PI X tg iter wi) (vh:nW X sc N' cap)
  (hb:∀ cl C s₂ H₂ fp,PG (blk X N' sc cl C s₂ H₂ fp) tg g/\PTs (blk X N' sc cl C s₂ H₂ fp) ifs tst/\PE (blk X N' sc cl C s₂ H₂ fp) elt te)
  (iy:sc.kind = .function:=by rfl) (iz:∀ y∈sc.names,y.2 ≠ .cell:=by decide) (ja:∀ y∈sc.names,y.2 = .local->sc.names.lookup y.1=some .local:=by decide)
  (jv:(sc.names.all fun y=>y.2 != .free ||(X.env.kindOf y.1==some .cell||X.env.kindOf y.1==some .free))=true:=by rfl)
  (hs:∀ x,foldedSetIterable iter X.env x=pure x:=by intro _;rfl):PE X (.ListComp elt [⟨tg,iter,ifs,0⟩] sc pos) (vH cap wi g tst te):=by
 intro pins s σ H Q I h;rw[eval_ListComp];refine Ao (use:=none) hc hi iy iz ja (C8 jv) vh hb I h (fun D C m H' s' I' f' hn q=>?_) hs
 refine⟨m,hn,fun h' hs'=>⟨.ref D,H',?_,rfl,q⟩⟩
 exact I'.turned (t':=s'.toks) (it:=C) (fun b o hb e=>hs'.extBut b o hb e) f'.1 f'.2.1.symm.symm f'.2.2.2.1 f'.2.2.2.2.1 f'.2.2.2.2.2
theorem CN{X:Cx}{i:Nat}{y:Str}{tg iter elt:Expr}{ifs:List Expr}{sc:Scope}{pos rJ py:Pos}{N':List Str}{cap:List (Option Nat)}{wi:TI}{g:TG}{tst:TT}{te:TE}
  (hN:X.N.Nodup) (hi':X.N[i]? = some y) (hy:Loc X.env.scope y)
  (hc:X.calm=true) (hi:PI X tg iter wi) (vh:nW X sc N' cap)
  (hb:∀ cl C s₂ H₂ fp,PG (blk X N' sc cl C s₂ H₂ fp) tg g/\PTs (blk X N' sc cl C s₂ H₂ fp) ifs tst/\PE (blk X N' sc cl C s₂ H₂ fp) elt te)
  (hsw:swapsWith (.ListComp elt [⟨tg,iter,ifs,0⟩] sc pos) (some (.Name y py)) rJ.line X.env=pure true:=by rfl)
  (hf:X.fn y=true\/X.env.scope.names.lookup y=some .local:=by first|exact .inl rfl|exact .inr rfl|assumption)
  (iy:sc.kind = .function:=by rfl) (iz:∀ y∈sc.names,y.2 ≠ .cell:=by decide) (ja:∀ y∈sc.names,y.2 = .local->sc.names.lookup y.1=some .local:=by decide)
  (jv:(sc.names.all fun y=>y.2 != .free ||(X.env.kindOf y.1==some .cell||X.env.kindOf y.1==some .free))=true:=by rfl)
  (hs:∀ x,foldedSetIterable iter X.env x=pure x:=by intro _;rfl):PS X (.Assign [.Name y py] (.ListComp elt [⟨tg,iter,ifs,0⟩] sc pos) rJ) (oB (vH cap wi g tst te) (jw i)):=by
 intro pins s σ H Dn I h;rw[exec_Assign_Name_used _ _ _ _ hsw];refine wpAny_bind (wpAny_standAt (wpAny_bind ?_));show wpAny _ X.A (do let _ <- comprehension (.ListComp elt [⟨tg,iter,ifs,0⟩] sc pos) sc X.env _ (newList []) false (eval iter X.env) (some (assign (.Name y py) X.env))) _ _ s
 refine wpAny_bind (wpAny_mono (Ao (use:=some (assign (.Name y py) X.env)) (Q:=fun x H1=>Dn.nx (σ.set i (some x)) H1) (Q':=fun _ s'=>SP X pins Dn .next s') hc hi iy iz ja (C8 jv) vh hb I h (fun D C m H' s' I' f' hn q=>?_) hs)
  (fun _ s' hq=>wpAny_pure (wpAny_pure hq)) fun _ _ e=>e)
 obtain⟨o,es,ep,ho,hd,hr⟩:=id hn;have I2:=I'.pinned (fp:=[C]) (fun b hb=>by rw[List.mem_singleton.mp hb];exact f') fun b hb=>by
  rw[List.mem_singleton.mp hb];exact⟨o,ho,fun v=>by rw[hd];simp⟩
 refine wpAny_assign_Name (hU I2 hN hi' hy (v:=.ref D) rfl (fun s2 I3=>?_) hf)
 have z:=(I3.pin (C,o) (List.mem_append_right _ (List.mem_append_right _ (gu (List.mem_singleton.mpr rfl) ho)))).1;refine⟨m,⟨o,es,ep,z,hd,hr⟩,fun h' hs'=>⟨_,H',?_,q⟩⟩
 exact I3.mS.turned (t':=s2.toks) (it:=C) (fun b o hb e=>hs'.extBut b o hb e) f'.1 f'.2.1 f'.2.2.2.1 f'.2.2.2.2.1 f'.2.2.2.2.2
section
variable{X:Cx}
theorem wc{K:W.Frag}{a:Addr}{xs:List V}{g:TG}{tst:TT}{te:TE}{σ:St}{H:Hp}{Q:VK}(Pv:Nat->List V->St->Hp->Prop)(h0:Pv 0 [] σ H)
  (hl:∀ i ys σ H,i<=xs.length->Pv i ys σ H->SqL K H a xs/\ys.length<sizeLine)
  (hs:∀ i x ys σ H,xs[i]? = some x->Pv i ys σ H->g x σ H fun σ2 H3=>tst σ2 H3 fun b H4=>if b=true then te σ2 H4 fun y H5=>Pv (i+1) (ys ++ [y]) σ2 H5 else Pv (i+1) ys σ2 H4)
  (hd:∀ ys σ H,Pv xs.length ys σ H->∀ D,H D=none->Q (.ref D) (upd H D (.lst ys))) :
  Ni g tst te σ Q (Itl K a) H:=by
 refine⟨fun i m ys σ H=>m=xs.length - i/\i<=xs.length/\Pv i ys σ H,⟨xs.length,by simp,Nat.zero_le _,h0⟩,?_⟩
 rintro i m ys σ H ⟨rfl,hi,p⟩
 obtain⟨q,hz⟩:=hl i ys σ H hi p;by_cases hlt:i<xs.length
 ·refine .inr ⟨⟨xs,xs[i],q,by simp[hlt]⟩,hz,Pv (i+1),fun ys' σ' H' p'=>⟨xs.length - (i+1),by omega,rfl,hlt,p'⟩,fun x H' y=>?_⟩
  obtain⟨e,y⟩:=y;subst e;exact hs i x ys σ _ (y xs q) p
 ·have e:i=xs.length:=by omega
  subst e;exact .inl ⟨⟨xs,q,Nat.le_refl _⟩,Nat.le_of_lt hz,hd ys σ H p⟩
theorem uD{P:Program}{w:World}{K:W.Frag}{tg:Expr}{J:It}{it:Addr}{n:Nat}{Pv:Nat->Value->Prop}{St:Nat->Heap->Prop}
  (W:∀ A:Around,A.handled=none->Walks P w A it [it] [it] n Pv St)
  (EF:∀ i h,St i h->∃(o:Obj)(N:String)(vs:Array Value),h.get? it=some o/\o.cls = .type N/\o.data = .fields vs /\
   ["enumerate","zip","dict_itemiterator","dict_reverseitemiterator","odict_iterator","itertools.zip_longest","itertools.pairwise"].contains N=false)
  (Ry:∀(A:Around)(i:Nat)(s:Shared)(Q:Value->Shared->Prop)(E:Value->Shared->Prop),St i s.heap->Q (.ref it) s->wpAny (model P w) A (pyIter (.ref it)) Q E s)
  (hgo:∀ i H,J.go i H->i<n) (Rv:∀ i H,J.stop i H->i=n) (hy:∀ i H v,i<n->Pv i v->∃ x,RelV x v/\J.yld i H x H):Turn P w K tg J [it] it St where
 mem:=by simp
 obj:=fun i h st b hb=>by
  rw[List.mem_singleton.mp hb];obtain⟨o,N,vs,h1,_,h3,_⟩:=EF i h st;exact⟨o,h1,fun v=>by rw[h3];simp⟩
 keep:=fun i h h' st k=>(W { (callerA:Around)with handled:=none } rfl).frame i h h' st fun b hb o e=>k b hb o e
 item:=by
  intro X e1 e2 e3 hc i pins s σ H E I hf st go;subst e1 e2 e3;refine(W X.A (I.ok.hd hc)).item i s _ _ (hgo i H go) st fun v h' tk hP st' hk=>⟨v,rfl,?_⟩
  obtain⟨x,rx,yx⟩:=hy i H v (hgo i H go) hP;obtain⟨o,N,vs,h1,h2,h3,h4⟩:=EF _ _ st';obtain⟨f1,f2,f3,f4,f5,f6⟩:=hf it (by simp)
  refine C7 (s:={ s with heap:=h',toks:=tk }) h1 h2 h3 h4 ⟨x,H,I.turned (t':=tk) (it:=it) (fun b o hb e=>hk b o (by simpa using hb) e) f1 f2 f4 f5 f6,rx,yx,st',fun b hb=>?_⟩
  rw[List.mem_singleton.mp hb];exact f1
 done:=by
  intro X e1 e2 e3 hc i pins s σ H E I hf st stop;subst e1 e2 e3;have e:=Rv i H stop;subst e;refine(W X.A (I.ok.hd hc)).done s _ _ st fun h' tk hk=>⟨rfl,?_⟩
  obtain⟨f1,f2,f3,f4,f5,f6⟩:=hf it (by simp)
  exact I.turned (t':=tk) (it:=it) (fun b o hb e=>hk b o (by simpa using hb) e) f1 f2 f4 f5 f6
 self:=Ry
def Its(z:Str):It:=⟨fun i _=>i<z.cps.size,fun i H x H'=>H'=H/\∃ c,z.cps[i]? = some c/\x = .str ⟨#[c]⟩,fun i _=>i=z.cps.size⟩
def Rt(tl:TE):TI:=fun σ H R=>tl σ H fun x H1=>∃ z,x = .str z/\R (Its z) H1
theorem DF{P:Program}{w:World}{A:Around}(hh:A.handled=none)(it:Addr)(z:Str)(t:Tok):Walks P w A it [it] [it] z.cps.size (SignAt z) (fun i h=>h.IsStrIter it (strIterType z) z t i):=by
 unfold strIterType
 split
 ·exact Walks.strAscii hh it z t
 ·exact Walks.strWide hh it z t
theorem FX{P:Program}{w:World}{A:Around}{it:Addr}{z:Str}{t:Tok}{i:Nat}{s:Shared}{Q:Value->Shared->Prop}{E:Value->Shared->Prop}(st:s.heap.IsStrIter it (strIterType z) z t i)(q:Q (.ref it) s):wpAny (model P w) A (pyIter (.ref it)) Q E s:=by
 unfold strIterType at st
 split at st
 ·exact wpAny_pyIter_striter_ascii st q
 ·exact wpAny_pyIter_striter_wide st q
theorem FN{P:Program}{w:World}{K:W.Frag}{tg:Expr}(it:Addr)(z:Str)(t:Tok):Turn P w K tg (Its z) [it] it (fun i h=>h.IsStrIter it (strIterType z) z t i) :=
 uD (fun A hh=>DF hh it z t)
  (fun i h st=>by
   obtain⟨o,h1,h2,h3⟩:=st;refine⟨o,_,_,h1,h2,h3,?_⟩;unfold strIterType
   split <;> decide)
  (fun A i s Q E st q=>FX st q) (fun i H h=>h) (fun i H h=>h) fun i H v hi hp=>by
   obtain⟨c,u,h1,rfl⟩:=hp;exact⟨.str ⟨#[c]⟩,⟨_,rfl⟩,rfl,c,h1,rfl⟩
theorem He{tg l:Expr}{tl:TE}(hl:PE X l tl):PI X tg l (Rt tl):=by
 intro pins s σ H R I h;refine thn (hl pins s σ H _ I h) fun v s1 hPP=>?_
 obtain⟨x,H1,I1,r1,q1⟩:=hPP;obtain⟨z,e,q⟩:=q1;subst e;obtain⟨t,rfl⟩:=r1;refine wpAny_pyIter_strU ?_;refine⟨s1.heap.objs.size,[s1.heap.objs.size],_,_,H1,rfl,I1.kept (t':=s1.toks) fun b o e=>Heap.get?_push_of_some _ e,FN _ z t,⟨_,Heap.get?_push_size _ rfl,rfl,rfl⟩,fun b hb=>?_,q⟩
 have e:b=s1.heap.objs.size:=by simpa using hb
 subst e;exact I1.IP (Nat.le_refl _) (I1.hok.fresh (Nat.le_refl _))
def Qe:V->Option Int->Option Int->Hp->VK->Prop:=fun x lo hi H Q=>∃ z,x = .str z/\z.length<=sizeLine/\Q (.str (Txt.slice z lo hi)) H
theorem NH:SlR X Qe:=by
 intro pins s σ H x v vl vu lo hi sl Q I rx hs pl pu h;obtain⟨z,rfl,hz,q⟩:=h;obtain⟨t,rfl⟩:=rx;refine⟨"str",_,PySem.F.slot_str_getitem.lookup,typeIs_str s z t,?_⟩;obtain⟨o,h1,h2,h3⟩:=hs;have fin:∀(y:Str)(t' k:Nat),y=Txt.slice z lo hi->EP X pins σ Q (.str y t') { s with toks:=k }:=fun y t' k e=>by subst e;exact⟨.str _,H,I.tok k,⟨_,rfl⟩,q⟩
 cases pl with
 | none =>
  cases pu with
  | none=>exact wpAny_getItem_str_slice (l:=none) (u:=none) (st:=none) ⟨o,h1,h2,h3⟩ rfl (post_val_or_str ⟨Nat.le_trans (Txt.slice_le z _ _) hz,fun t' k=>fin _ t' k rfl⟩)
  | int j uj=>exact wpAny_getItem_str_slice (l:=none) (u:=some (j,uj)) (st:=none) ⟨o,h1,h2,h3⟩ rfl (post_val_or_str ⟨Nat.le_trans (Txt.slice_le z _ _) hz,fun t' k=>fin _ t' k rfl⟩)
 | int i ui =>
  cases pu with
  | none=>exact wpAny_getItem_str_slice (l:=some (i,ui)) (u:=none) (st:=none) ⟨o,h1,h2,h3⟩ rfl (post_val_or_str ⟨Nat.le_trans (Txt.slice_le z _ _) hz,fun t' k=>fin _ t' k rfl⟩)
  | int j uj=>exact wpAny_getItem_str_slice (l:=some (i,ui)) (u:=some (j,uj)) (st:=none) ⟨o,h1,h2,h3⟩ rfl (post_val_or_str ⟨Nat.le_trans (Txt.slice_le z _ _) hz,fun t' k=>fin _ t' k rfl⟩)
theorem AX{ys:List Str}:∀{us:List Value},Vals (ys.map V.str) us->StrsAre us ys:=by
 induction ys with
 | nil=>intro us r;rw[List.map_nil]at r;cases r;exact .nil
 | cons n ns ih =>
  intro us r;rw[List.map_cons]at r;cases r with
  | cons r1 r2 =>
   obtain⟨t,e⟩:=r1;subst e;exact .cons n t (ih r2)
def rJoin(K:W.Frag):V->List V->Hp->VK->Prop:=fun x xs H Q=>∃ sep l ys,x = .str sep/\xs = [.ref l]/\SqL K H l (ys.map V.str)/\(ys.map (·.length)).sum+ys.length*sep.length<=16777216/\Q (.str (Txt.join sep ys)) H
theorem LB:MtR X "str.join" (rJoin X.K):=by
 intro pins s σ H x xs v us Q I rx rs h;obtain⟨sep,l,ys,rfl,rfl,hl,hw,q⟩:=h;obtain⟨t,rfl⟩:=rx;obtain⟨u,rfl,ru⟩:=Vals.one rs;cases ru;obtain⟨its,r,pl,hz⟩:=I.list hl;exact join_list pl.isList (by simpa using AX r) hw fun t' k=>⟨.str _,H,I.tok k,⟨_,rfl⟩,q⟩
def Gz:V->List V->Hp->VK->Prop:=fun x xs H Q=>∃ z,x = .str z/\xs = []/\z.length<=5592405/\Q (.str (Txt.upper z)) H
theorem HU:MtR X "str.upper" Gz:=by
 intro pins s σ H x xs v us Q I rx rs h;obtain⟨z,rfl,rfl,hz,q⟩:=h;obtain⟨t,rfl⟩:=rx;cases rs;exact SCL.upper hz fun _=>⟨.str _,H,I.tok _,⟨_,rfl⟩,q⟩
theorem JW{bs:List Bool}:∀{us:List Value}{i:Nat}{v:Value},Vals (bs.map V.bl) us->us[i]? = some v->∃ b,bs[i]? = some b/\v = .bool b:=by
 induction bs with
 | nil=>intro us i v r h;rw[List.map_nil]at r;cases r;simp at h
 | cons b bs ih =>
  intro us i v r h;rw[List.map_cons]at r;cases r with
  | cons r1 r2 =>
   cases i with
   | zero =>
    simp only[List.getElem?_cons_zero,Option.some.injEq]at h;subst h;exact⟨b,by simp,r1⟩
   | succ i =>
    obtain⟨c,h1,h2⟩:=ih r2 (by simpa using h)
    exact⟨c,by simpa using h1,h2⟩
theorem all_range(bs:List Bool):(List.range bs.length).all (fun i=>bs.getD i false)=bs.all id:=by
 have e:(List.range bs.length).map (fun i=>bs.getD i false)=bs:=by
  apply List.ext_getElem
  ·simp
  ·intro i h1 h2;simp at h1;simp[h1]
 conv=>rhs;rw[<- e]
 rw[List.all_map];rfl
theorem Jr(hc:X.calm=true):c7 X (.builtin "all") (fun xs H Q=>∃(l:Addr)(bs:List Bool),xs = [.ref l]/\SqL X.K H l (bs.map V.bl)/\Q (.bl (bs.all id)) H):=by
 intro pins s σ H xs us Q I r h;obtain⟨l,bs,rfl,hl,q⟩:=h;obtain⟨u,rfl,ru⟩:=vals1 r;cases ru;obtain⟨its,rv,pl,hz⟩:=I.list hl;have hlt:l<s.heap.objs.size:=by obtain⟨_,e,_⟩:=pl.isList;exact Heap.lt_size e
 have hlen:its.toArray.size=bs.length:=by
  have e:=rv.length;rw[List.length_map]at e;simp[e]
 refine call_all_walk (wpAny_pyIter_list pl.isList ?_);refine⟨s.heap.objs.size,[s.heap.objs.size,l],[s.heap.objs.size],its.toArray.size,_,_,fun i=>bs.getD i false,rfl,Walks.list (show X.A.in1.handled=none from I.ok.hd hc) s.heap.objs.size l (Nat.ne_of_lt hlt) its.toArray,⟨⟨_,Heap.get?_push_size _ rfl,rfl,rfl⟩,pl.isList.push _⟩,?_,fun h' tk hk=>?_⟩
 ·intro i v s' Q' E' hP hq;obtain⟨b,h1,rfl⟩:=JW rv (by simpa using hP)
  have e:bs.getD i false=b:=by simp[List.getD,h1]
  exact wpAny_truthy_bool (e▸hq)
 ·refine⟨.bl _,H,I.kept (t':=tk) (h':=h') fun b o e=>hk b o (by simpa using Nat.ne_of_lt (Heap.lt_size e)) (Heap.get?_push_of_some _ e),rfl,?_⟩
  rw[hlen,all_range];exact q
theorem Jq:c7 X (.builtin "isinstance") (fun xs H Q=>∃ x T t b,xs = [x,.ty T]/\k7 X.K H x t/\W.kitOne X.K t (.type T)=some b/\Q (.bl b) H):=by
 intro pins s σ H xs us Q I r h;obtain⟨x,T,t,b,rfl,ty,e,q⟩:=h;obtain⟨u,w',rfl,ru,rw'⟩:=vals2 r;cases rw';exact ED I ru ty e fun tk=>⟨.bl b,H,I.tok tk,rfl,q⟩
end
section
variable{prog:Program}{w:World}{A:Around}{E:Value->Shared->Prop}{s:Shared}
theorem Ek:typeLookup (.type "list_reverseiterator") "__len__" = pure none:=by rw[typeLookup_type,builtinLookup_eq_fast];kernel_rfl
theorem IF:typeLookup (.type "list_reverseiterator") "__length_hint__" = pure (some (.builtin "list_reverseiterator.__length_hint__")):=by rw[typeLookup_type,builtinLookup_eq_fast];kernel_rfl
theorem BV{R:Result->Shared->Prop}{I:Addr}{fp wr:List Addr}{n:Nat}{P:Nat->Value->Prop}{St:Nat->Heap->Prop}(W:Walks prog w A.in1 I fp wr n P St)(hT:∀ i (s:Shared),St i s.heap->s.TypeIs (.ref I) "list_reverseiterator")(S:Addr)(res:Value)(c₀:Nat)(hst:St 0 s.heap)(hSf:S ∉ fp)(hI:I∈fp)
  (hS:s.heap.get? S=some { cls:=.type "list",data:=.seq #[] c₀ })
  (hR:∀ s' kg c',Moved (S::wr) (fun g g'=>g'=g) s s'->s'.heap.get? S=some { cls:=.type "list",dict:=none,data:=.seq kg c',slots:=#[] }->ItemsOf P kg n->R (.ok (.ret res)) s') (hn:n<=sizeLine) :
  wpAny (model prog w) A.in1 (Builtin.List.listExtendWith (.ref S) (.ref I) res)
   (fun fin s'=>match fin with | .done f=>R (.ok f) s' | .again c'=>c'.quiet=true/\codeAny (model prog w) A c' R s') (fun e s'=>R (.error e) s') s:=by
 have hSI:S≠I:=fun e=>hSf (e▸hI)
 have h1:Builtin.List.listSameRef (.ref S) (.ref I)=false:=by simp[Builtin.List.listSameRef,hSI]
 unfold Builtin.List.listExtendWith;refine wpAny_bind (wpAny_typeOf (hT 0 _ hst) ?_);rw[if_neg (by rw[h1];decide)]
 refine wpAny_bind (W.self 0 _ _ _ hst ?_);refine wpAny_bind (wpAny_holding ?_);unfold Builtin.List.listLengthHint;refine wpAny_bind (wpAny_specialOf (hT 0 _ hst) Ek ?_);show wpAny _ A.in1 (specialOf (Value.ref I) (Str.ofString "__length_hint__") >>= _) _ _ _;refine wpAny_bind (wpAny_specialOf (hT 0 _ hst) IF ?_)
 generalize hid:("list_reverseiterator.__length_hint__":String)=id0
 wp_delta
 rw[show splitId id0=some ("list_reverseiterator","__length_hint__")from by subst hid;decide +kernel]
 subst hid;refine wpAny_bind (wpAny_isInstance (b:=true) (hT 0 _ hst) (by rw[isSubtype_type];kernel_rfl) ?_)
 refine wpAny_pure ?_;rw[if_neg (by decide)]
 exact wpAny_pure ⟨plainId_quiet F.plain_extend_loop _,codeAny_extend_loopS W.toS hn _ hSf _ n 0 _ _ _ rfl (Nat.zero_le _) hst hS (ItemsOf.nil P) fun s' kg c' hm hS' iA=>hR s' kg c' hm hS' iA⟩
theorem Iz{R:Result->Shared->Prop}{I:Addr}{fp wr:List Addr}{n:Nat}{P:Nat->Value->Prop}{St:Nat->Heap->Prop}(W:Walks prog w A.in1 I fp wr n P St)(hT:∀ i (s:Shared),St i s.heap->s.TypeIs (.ref I) "list_reverseiterator")(S:Addr)(hst:St 0 s.heap)(hSf:S ∉ fp)(hI:I∈fp)
  (hS:s.heap.get? S=some { cls:=.type "list",data:=.seq #[] })
  (hR:∀ s' kg c',Moved (S::wr) (fun g g'=>g'=g) s s'->s'.heap.get? S=some { cls:=.type "list",dict:=none,data:=.seq kg c',slots:=#[] }->ItemsOf P kg n->R (.ok (.ret .none)) s') (hn:n<=sizeLine) :
  wpAny (model prog w) A.in1 (Builtin.«list.__init__» ⟨[.ref S,.ref I],[]⟩)
   (fun fin s'=>match fin with | .done f=>R (.ok f) s' | .again c'=>c'.quiet=true/\codeAny (model prog w) A c' R s') (fun e s'=>R (.error e) s') s:=by
 show wpAny _ A.in1 (do let old <- Builtin.List.listItems (.ref S);Builtin.List.listUpdate (.ref S) (fun _=>#[]);letGo old.toList.reverse;Builtin.List.listExtendWith (.ref S) (.ref I) .none) _ _ s
 refine wpAny_bind ?_;unfold Builtin.List.listItems;refine wpAny_bind (wpAny_seqItems hS rfl (wpAny_pure ?_));show wpAny _ A.in1 (updateSeq S (fun _=>#[]) >>= fun _=>letGo (#[]:Array Value).toList.reverse >>= fun _=>Builtin.List.listExtendWith (.ref S) (.ref I) .none) _ _ s
 refine wpAny_bind (wpAny_updateSeq hS rfl ?_);have hS₂:=Heap.get?_update_self (Obj.mapSeq (fun _=>(#[]:Array Value))) hS rfl
 have oth:∀ b o,b≠S->s.heap.get? b=some o ->(s.heap.update S (Obj.mapSeq (fun _=>(#[]:Array Value)))).get? b=some o :=
  fun b o hb e=>(Heap.get?_update_other _ _ (Ne.symm hb)).trans e
 refine wpAny_bind (wpAny_letGo ?_);refine BV (hn:=hn) W hT S .none _ (W.frame 0 s.heap _ hst fun b hb o e=>oth b o (fun h=>hSf (h▸hb)) e) hSf hI hS₂ fun s' kg c' hm hS' iA=>?_
 exact hR s' kg c' (Moved.trans (fun _ _ _ h1 h2=>h2.trans h1) ((Moved.refl (wr:=S::wr) (G:=fun g g'=>g'=g) (fun _=>rfl)).then_heap (Nat.le_refl _) fun b o hb e=>oth b o (fun h=>hb (by rw[h];exact List.mem_cons_self)) e) hm) hS' iA
theorem vt{Q:Value->Shared->Prop}{I:Addr}{fp wr:List Addr}{n:Nat}{P:Nat->Value->Prop}{St:Nat->Heap->Prop}(W:Walks prog w A.in1.in1 I fp wr n P St)(hT:∀ i (s:Shared),St i s.heap->s.TypeIs (.ref I) "list_reverseiterator")(hst:St 0 s.heap)(hfp:∀ b∈fp,b<s.heap.objs.size)(hI:I∈fp)
  (hQ:∀ s' kg c',Moved (s.heap.objs.size::wr) (fun g g'=>g'=g) { s with heap:=s.heap.push { cls:=.type "list",data:=.seq #[] } } s' ->
   s'.heap.get? s.heap.objs.size=some { cls:=.type "list",dict:=none,data:=.seq kg c',slots:=#[] }->ItemsOf P kg n->Q (.ref s.heap.objs.size) s') (hn:n<=sizeLine) :
  wpAny (model prog w) A (call (.type "list") [.ref I]) Q E s:=by
 have hSf:s.heap.objs.size ∉ fp:=fun hm=>Nat.lt_irrefl _ (hfp _ hm)
 refine callType_codes (Q₁:=fun obj s₁=>obj = .ref s.heap.objs.size/\s₁ ={ s with heap:=s.heap.push { cls:=.type "list",data:=.seq #[] } }) F.called_list (F.typeCall_list_1 _) F.entry_list_init
  (code_list_new _ ⟨rfl,rfl⟩) fun obj s₁ h₁=>?_
 obtain⟨rfl,rfl⟩:=h₁;have hS:(s.heap.push { cls:=.type "list",data:=.seq #[] }).get? s.heap.objs.size=some { cls:=.type "list",data:=.seq #[] }:=Heap.get?_push_size _ rfl;refine⟨⟨_,hS,rfl⟩,F.args_list_init_2 _ _,Iz (hn:=hn) W hT _ (W.frame 0 s.heap _ hst fun b _ o e=>Heap.get?_push_of_some _ e) hSf hI hS fun s' kg c' hm hS' iA=>?_⟩
 exact⟨rfl,hQ s' kg c' hm hS' iA⟩
end
def rH(K:W.Frag)(te:TE):TE:=fun σ H Q=>te σ H fun x H1=>∃ l ys,x = .ref l/\SqL K H1 l ys/\∀ q,H1 q=none->Q (.ref q) (upd H1 q (.lst ys.reverse))
theorem FH{its:Array Value}{acc:Array Value}{ys:List V}(r:Vals ys its.toList)(h:ItemsOf (fun i v=>its[its.size - 1 - i]? = some v) acc its.size):Vals ys.reverse acc.toList:=by
 have e:acc.toList=its.toList.reverse:=by
  apply List.ext_getElem?
  intro i;by_cases hi:i<its.size
  ·have h1:i<acc.size:=by rw[h.1];exact hi
   have h2:=h.2 i acc[i] (by simp[h1])
   rw[List.getElem?_reverse (by simpa using hi)]
   simp only[Array.length_toList,Array.getElem?_toList];rw[h2];simp[h1]
  ·have h1:¬ i<acc.size:=by rw[h.1];exact hi
   rw[List.getElem?_eq_none (by simpa using h1),List.getElem?_eq_none (by simpa using hi)]
 rw[e];exact Vals.reverse r
theorem sk{X:Cx}{e:Expr}{te:TE}{p1 p2 gE pos:Pos}(hc:X.calm=true)(hg1:Gl X "list")(hm1:X.mg "list" = none)(hg2:Gl X "reversed")(hm2:X.mg "reversed" = none)(he:PE X e te)
  (hs1:starEach [e] X.env = [(false,eval e X.env)]:=by rfl) (hs2:starEach [.Call (.Name "reversed" p2) [e] [] gE] X.env = [(false,eval (.Call (.Name "reversed" p2) [e] [] gE) X.env)]:=by rfl) :
  PE X (.Call (.Name "list" p1) [.Call (.Name "reversed" p2) [e] [] gE] [] pos) (rH X.K te):=by
 intro pins s σ H Q I h;refine wpAny_Call_Name_kw (iZ I hg1 hm1 boot_list ?_);refine PyProof.Rows.callWith_type1 ?_ hs2 rfl;rw[hs2];show wpAny _ _ (spliced ((false,eval (.Call (.Name "reversed" p2) [e] [] gE) X.env)::backTo pos (starEach [] X.env))) _ _ s;refine Calls.spliced_cons ?_;refine wpAny_Call_Name_kw (iZ I hg2 hm2 boot_reversed ?_);refine PyProof.Rows.callWith_type1 ?_ hs1 rfl;rw[hs1];show wpAny _ _ (spliced ((false,eval e X.env)::backTo gE (starEach [] X.env))) _ _ s;refine Calls.spliced_cons (thn (he pins s σ H _ I h) fun u s1 hPP=>?_)
 obtain⟨x,H1,I1,r1,l,ys,ex,hl,q⟩:=hPP;subst ex;cases r1;refine Calls.spliced_nil ?_;obtain⟨its,rv,pl,hz⟩:=I1.list hl;have hlt:l<s1.heap.objs.size:=by obtain⟨_,e,_⟩:=pl.isList;exact Heap.lt_size e
 refine call_reversed_list pl.isList (Calls.spliced_nil ?_);have W:=Walks.listRev (prog:=X.prog) (w:=X.w) (A:=X.A.in1.in1) (show X.A.in1.in1.handled=none from I.ok.hd hc) s1.heap.objs.size l (Nat.ne_of_lt hlt) its.toArray;refine vt (s:={ s1 with heap:=s1.heap.push (revObj l ((its.toArray.size:Int) - 1)) }) W (fun i s' st=>st.2.1.typeIs) ⟨Nat.zero_le _,⟨_,Heap.get?_push_size _ rfl,rfl,by simp[revObj]⟩,pl.isList.push _⟩ (fun b hb=>?_) (by simp) (fun s' kg c' hm hS' iA=>?_) ?_
 ·show b<(s1.heap.push _).objs.size;rw[Heap.size_push];rcases List.mem_cons.mp hb with z|z
  ·rw[z];exact Nat.lt_succ_self _
  ·rw[List.mem_singleton.mp z];exact Nat.lt_succ_of_lt hlt
 ·rw[Moved.eq_with hm];have kp:∀ b o,s1.heap.get? b=some o->s'.heap.get? b=some o:=fun b o e=>hm.heap b o (fun z=>by
   have hb:@LT.lt Nat _ b s1.heap.objs.size:=Heap.lt_size e;rcases List.mem_cons.mp z with z|z
   ·rw[z]at hb;simp only[Heap.size_push]at hb;omega
   ·rw[List.mem_singleton.mp z]at hb;omega) (Heap.get?_push_of_some _ (Heap.get?_push_of_some _ e))
  have hv:Vals ys.reverse kg.toList:=FH (its:=its.toArray) (by simpa using rv) iA
  have hf:H1 ((s1.heap.push (revObj l ((its.toArray.size:Int) - 1))).objs.size)=none:=I1.hok.fresh (by rw[Heap.size_push];omega)
  refine⟨.ref _,_,I1.laid (t':=s'.toks) (h':=s'.heap) (o:=.lst ys.reverse) kp (by rw[Heap.size_push];omega) ⟨by rw[List.length_reverse];exact hz,kg.toList,c',hv,by simpa using hS'⟩,rfl,q _ hf⟩
 ·have e:=rv.length;rw[List.size_toArray];omega
section
variable{X:Cx}
theorem Hl{x:Str}{y:Addr}{pos:Pos}(hg:Gl X x)(hm:X.mg x=some (.ref y))(hd:(x ==("__debug__":Str))=false:=by decide):PE X (.Name x pos) (tC (.ref y)):=La hg hm rfl hd
def JL(_ j:Int):Prop:=0<j/\j<18446744073709551616
theorem zx:OpR X (binaryOp .FloorDiv) (rI JL fun i j=>.int (i / j)):=opI fun i j _ _ _ _ _ hc q=>by
 obtain⟨h1,h2⟩:=hc;have e:i.fdiv j=i / j:=Int.fdiv_eq_ediv_of_nonneg _ (by omega)
 refine floordiv_int (by omega) (by rw[e];exact q) (.inl (PyProof.noPylong_of_log2 ?_))
 have h3:j.natAbs<2 ^ 64:=by omega
 have h4:j.natAbs≠0:=by omega
 exact Nat.lt_trans ((Nat.log2_lt h4).mpr h3) (by decide)
end
def dk(s n:Int)(l:Addr):List (Key×V):=[(.inr "seed",.int s),(.inr "number",.int n),(.inr "left",.ref l)]
theorem Mf{s n:Int}{l:Addr}:fZ (dk s n l) (.inr "seed":Key)=some (.int s):=by kernel_rfl
theorem ES{s n:Int}{l:Addr}:fZ (dk s n l) (.inr "number":Key)=some (.int n):=by kernel_rfl
theorem Dc{s n:Int}{l:Addr}:fZ (dk s n l) (.inr "left":Key)=some (.ref l):=by kernel_rfl
theorem A8{s n m:Int}{l:Addr}:putK (dk s n l) (.inr "number":Key) (.int m)=dk s m l:=by kernel_rfl
theorem GV{s n m:Int}{l:Addr}:putK (dk s n l) (.inr "seed":Key) (.int m)=dk m n l:=by kernel_rfl
structure c6(H:Hp)(d l:Addr)(s n:Int)(ls:List Int):Prop where
 hd:H d=some (.dK (dk s n l))
 hl:H l=some (.lst (ls.map V.int))
 s0:0<=s
 s1:s<2147483647
 n0:0<=n
 l0:∀ x∈ls,0<=x
def uB(H:Hp)(d l:Addr):Prop:=∃ s n ls,c6 H d l s n ls
def Kp(d l:Addr)(H H':Hp):Prop:=∀ b o,H b=some o->b≠d->b≠l->H' b=some o
theorem Kp.refl{d l:Addr}{H:Hp}:Kp d l H H:=fun _ _ h _ _=>h
theorem c6.ne{H:Hp}{d l:Addr}{s n:Int}{ls:List Int}(D:c6 H d l s n ls):d≠l:=cv D.hd D.hl (by intro z;cases z)
theorem c6.num{H:Hp}{d l:Addr}{s n m:Int}{ls:List Int}(D:c6 H d l s n ls)(h:0<=m):c6 (upd H d (.dK (putK (dk s n l) (.inr "number":Key) (.int m)))) d l s m ls :=
 ⟨by rw[ao,A8],by rw[ag D.ne.symm];exact D.hl,D.s0,D.s1,h,D.l0⟩
theorem c6.SA{H:Hp}{d l:Addr}{s n m:Int}{ls:List Int}(D:c6 H d l s n ls)(h:0<=m)(h2:m<2147483647):c6 (upd H d (.dK (putK (dk s n l) (.inr "seed":Key) (.int m)))) d l m n ls :=
 ⟨by rw[ao,GV],by rw[ag D.ne.symm];exact D.hl,h,h2,D.n0,D.l0⟩
theorem c6.list{H:Hp}{d l:Addr}{s n:Int}{ls ls':List Int}(D:c6 H d l s n ls)(h:∀ x∈ls',0<=x):c6 (upd H l (.lst (ls'.map V.int))) d l s n ls' :=
 ⟨by rw[ag D.ne];exact D.hd,ao,D.s0,D.s1,D.n0,h⟩
theorem Kp.Nm{d l:Addr}{H H1:Hp}{o:HO}(a:Kp d l H H1):Kp d l H (upd H1 d o):=fun c u h h1 h2=>by rw[ag h1];exact a c u h h1 h2
theorem Kp.Sw{d l:Addr}{H H1:Hp}{o:HO}(a:Kp d l H H1):Kp d l H (upd H1 l o):=fun c u h h1 h2=>by rw[ag h2];exact a c u h h1 h2
theorem mK.new{p:Addr}{H H1:Hp}{o:HO}(a:mK H H1)(hp:H1 p=none):mK H (upd H1 p o):=fun c u h=>by
 have z:=a c u h;rw[ag (ar z hp)];exact z
theorem uB.new{d l p:Addr}{H:Hp}{o:HO}(D:uB H d l)(hp:H p=none):uB (upd H p o) d l:=by
 obtain⟨s,n,ls,D⟩:=D;exact⟨s,n,ls,by rw[ag (ar D.hd hp)];exact D.hd,by rw[ag (ar D.hl hp)];exact D.hl,D.s0,D.s1,D.n0,D.l0⟩
def F4:Sp:=fun vs H Q _=>∃(d l:Addr)(m:Int),vs = [.ref d,.int m]/\uB H d l/\0<m/\m<18446744073709551616 /\
 ∀(r:Int)(H':Hp),0<=r->r<m->uB H' d l->Kp d l H H'->Q (.int r) H'
def F6(K:W.Frag):Sp:=fun vs H Q _=>∃(a:Addr)(ns:List Int)(b:Int),vs = [.ref a,.int b]/\SqL K H a (ns.map V.int)/\ns.length<=63/\0<=b/\b<=63 /\
 ∀(d l:Addr)(H':Hp),H d=none->H l=none->uB H' d l->mK H H'->Q (.ref d) H'
theorem DB{c:TT}{tb:TS}{D:Ends}{σ:St}{H:Hp}(I:Nat->St->Hp->Prop){m:Nat}(h0:I m σ H)(xX:∀ m σ H,I m σ H->D.nx σ H)
  (hs:∀ m σ H,I m σ H->D.nx σ H->c σ H fun b H1=>if b=true then ∃ N:St->Hp->Prop,(∀ σ' H',N σ' H'->∃ m',m'<m/\I m' σ' H')/\tb { D with nx:=N,ct:=N,bk:=D.nx } σ H1 else D.nx σ H1):AV c tb D σ H :=
 ⟨I,⟨m,h0⟩,fun m σ H h=>hs m σ H h (xX m σ H h)⟩
theorem c6.IL{H:Hp}{d l:Addr}{s n:Int}{ls:List Int}(D:c6 H d l s n ls):km H d (.str "seed") (some (.int s)):=by
 have z:=km.k (k:=(Sum.inr "seed":Key)) D.hd;rw[Mf]at z;exact z
theorem c6.RR{H:Hp}{d l:Addr}{s n:Int}{ls:List Int}(D:c6 H d l s n ls):km H d (.str "number") (some (.int n)):=by
 have z:=km.k (k:=(Sum.inr "number":Key)) D.hd;rw[ES]at z;exact z
theorem c6.M7{H:Hp}{d l:Addr}{s n:Int}{ls:List Int}(D:c6 H d l s n ls):km H d (.str "left") (some (.ref l)):=by
 have z:=km.k (k:=(Sum.inr "left":Key)) D.hd;rw[Dc]at z;exact z
theorem c6.Q8{H:Hp}{d l:Addr}{s n m:Int}{ls:List Int}(D:c6 H d l s n ls):yO H d (.str "number") (.int m) (upd H d (.dK (putK (dk s n l) (.inr "number":Key) (.int m)))) :=
 yO.k (k:=(Sum.inr "number":Key)) D.hd (aK (by show 3<=1000;decide))
theorem c6.QY{H:Hp}{d l:Addr}{s n m:Int}{ls:List Int}(D:c6 H d l s n ls):yO H d (.str "seed") (.int m) (upd H d (.dK (putK (dk s n l) (.inr "seed":Key) (.int m)))) :=
 yO.k (k:=(Sum.inr "seed":Key)) D.hd (aK (by show 3<=1000;decide))
theorem mod_lt{x m:Int}(h:0<m):0<=x % m/\x % m<m:=⟨Int.emod_nonneg _ (by omega),Int.emod_lt_of_pos _ h⟩
end L2
namespace L2
theorem Ji(ns:List Int)(lo hi:Option Int):∃ cs:List Int,mF (ns.map V.int) lo hi=cs.map V.int/\cs.length<=ns.length:=by
 refine⟨(ns.drop (HT.sIx ns.length 0 lo)).take (HT.sIx ns.length ns.length hi - HT.sIx ns.length 0 lo),?_,?_⟩
 ·unfold mF;rw[List.length_map,<- List.map_drop,<- List.map_take]
 ·rw[List.length_take,List.length_drop];exact Nat.le_trans (Nat.min_le_right _ _) (Nat.sub_le _ _)
theorem int_at{ns:List Int}{i:Nat}{x:V}(h:(ns.map V.int)[i]? = some x):∃ z,x = .int z:=by
 rw[List.getElem?_map]at h;cases e:ns[i]? with
 | none=>rw[e]at h;cases h
 | some z=>rw[e]at h;exact⟨z,(Option.some.inj h).symm⟩
theorem LS{ns:List Int}{i:Nat}{x:V}(h:(ns.map V.int)[i]? = some x):∃ z,x = .int z/\z∈ns:=by
 rw[List.getElem?_map]at h;cases e:ns[i]? with
 | none=>rw[e]at h;cases h
 | some z=>rw[e]at h;exact⟨z,(Option.some.inj h).symm,List.mem_of_getElem? e⟩
end L2
namespace L2
open PySem
theorem JA{α:Type}{xs:List α}{i:Int}(h0:0<=i)(h1:i<xs.length):∃ v,atI xs i=some v/\v∈xs:=by
 obtain⟨n,rfl⟩:∃ n:Nat,i=n:=⟨i.toNat,by omega⟩
 have h2:n<xs.length:=by omega
 refine⟨xs[n],?_,List.getElem_mem h2⟩;unfold atI ixN;rw[if_pos h0,if_pos h1];simp[h2]
theorem aw{n:Nat}(h:n<=10000):n<=sizeLine:=by
 have:(10000:Nat)<=sizeLine:=by decide
 omega
end L2
namespace L2
end L2
namespace L2
open PySem PySem.Spec PyProof.Rows
def strsOf:List Expr->Option (List Str)
 | []=>some []
 | .Constant (.str x) _ _::r=>(strsOf r).map (x :: ·)
 | _=>none
theorem CT{X:Cx}:∀{es:List Expr}{ws:List Str},strsOf es=some ws->PA X es (fun _ H Q=>Q (ws.map V.str) H)
 | [],ws,h=>by
  cases h;exact bE
 | e::es,ws,h=>by
  unfold strsOf at h
  split at h
  ·rename_i h1;cases h1
  ·rename_i x j pos r h1;cases h1;cases e1:strsOf es with
   | none=>rw[e1]at h;cases h
   | some ws' =>
    rw[e1]at h;cases h;exact aQ b6 (CT e1)
  ·cases h
end L2
namespace L2
theorem L7{i:Nat}{x:V}{σ:St}{H:Hp}{A B:St->Hp->Prop}(h:A (σ.set i (some x)) H):jw i x σ H fun σ2 H3=>Ct σ2 H3 fun b H4=>if b=true then A σ2 H4 else B σ2 H4:=by
 show if true=true then A (σ.set i (some x)) H else B (σ.set i (some x)) H
 rw[if_pos rfl];exact h
end L2
namespace L2
end L2
namespace L2
open PySem PySem.Spec PyProof.Rows
section
variable{X:Cx}
def gj(z:Str)(n:Nat):Str:=⟨(List.replicate n z.cps).foldl (· ++ ·) #[]⟩
theorem y8(c:Array Nat):∀(n:Nat)(acc:Array Nat),((List.replicate n c).foldl (· ++ ·) acc).size=acc.size+n*c.size
 | 0,acc=>by simp
 | n+1,acc=>by
  rw[List.replicate_succ,List.foldl_cons,y8 c n,Array.size_append,Nat.add_mul];omega
theorem iu(z:Str)(n:Nat):(gj z n).length=n*z.length:=by
 have h:=y8 z.cps n #[];simpa [gj,Str.length]using h
theorem Bf:OpR X (binaryOp .Mult) (fun x y H Q=>∃ z n,x = .str z/\y = .int n/\0<=n/\n<=1000/\z.length<=1000/\Q (.str (gj z n.toNat)) H):=by
 intro pins s σ H x y v u Q I rx ry h;obtain⟨z,n,rfl,rfl,n0,n1,hz,q⟩:=h;obtain⟨t,rfl⟩:=rx;obtain⟨t',rfl⟩:=ry;have fin:∀(y:Str)(t' k:Nat),y=gj z n.toNat->EP X pins σ Q (.str y t') { s with toks:=k }:=fun y t' k e=>by subst e;exact⟨.str _,H,I.tok k,⟨_,rfl⟩,q⟩
 have hp:((z.length:Int)*n)<=1000000:=by
  have h1:(z.length:Int)*n<=1000*n:=Int.mul_le_mul_of_nonneg_right (by omega) n0
  omega
 refine P.mul_str ?_ (fun h1 _=>?_) (fun h1 _=>?_) ?_
 ·rw[decide_eq_false (by omega),decide_eq_false (by omega)];rfl
 ·have h2:(1000:Int) <=(2 ^ 63 - 1) / n:=by
   rw[Int.le_ediv_iff_mul_le (by omega)]
   omega
  omega
 ·unfold Builtin.Str.tooLong;have h2:z.length*n.toNat<=1000000:=by
   have e:((z.length*n.toNat:Nat):Int) =(z.length:Int)*n:=by rw[Int.natCast_mul,Int.toNat_of_nonneg n0]
   omega
  have:sizeLine=16777216:=sizeLine_eq
  exact decide_eq_false (by omega)
 ·by_cases h1:n<1
  ·rw[if_pos h1];have e:n.toNat=0:=by omega
   exact⟨by decide,fin _ _ _ (by rw[e];rfl)⟩
  ·rw[if_neg h1];by_cases h2:(n==1||z.length==0)=true
   ·rw[if_pos h2];refine fin z t s.toks ?_;have h3:n=1\/z.length=0:=by simpa using h2
    rcases h3 with h3|h3
    ·subst h3;show z =⟨#[]++z.cps⟩;simp
    ·have e1:z.cps = #[]:=by simpa [Str.length]using h3
     have e2:=iu z n.toNat;rw[h3]at e2;have e3:(gj z n.toNat).cps = #[]:=by simpa [Str.length]using e2
     exact Str.ext' (by rw[e1,e3])
   ·rw[if_neg h2];refine⟨?_,fin _ _ _ rfl⟩;have e:=iu z n.toNat;have h3:n.toNat*z.length<=1000000:=by
     have e:((n.toNat*z.length:Nat):Int) =(z.length:Int)*n:=by rw[Int.natCast_mul,Int.toNat_of_nonneg n0,Int.mul_comm]
     omega
    have:sizeLine=16777216:=sizeLine_eq
    show(gj z n.toNat).length<=sizeLine;omega
end
end L2
namespace L2
open PySem
def jT(n:Nat):Nat:=97+n % 26
def cZ(c1 c2:Str)(turn k:Nat):Str:=c1++⟨#[jT (turn+7*k)]⟩++c2++gj "x" (k % 2)++gj "y" (k / 26)
theorem uc(c1 c2:Str)(turn k:Nat):(cZ c1 c2 turn k).cps.toList=c1.cps.toList++jT (turn+7*k) ::(c2.cps.toList++(gj "x" (k % 2)).cps.toList++(gj "y" (k / 26)).cps.toList):=by
 simp[cZ,Str.cps_append]
theorem kK(c1 c2:Str)(turn k:Nat):(cZ c1 c2 turn k).length=c1.length+1+c2.length+k % 2+k / 26:=by
 unfold cZ;rw[Str.length_append,Str.length_append,Str.length_append,Str.length_append,iu,iu,show(⟨#[jT (turn+7*k)]⟩:Str).length=1 from rfl,show(Str.ofString "x").length=1 from by decide +kernel,show(Str.ofString "y").length=1 from by decide +kernel]
 omega
theorem R6{a:List Nat}{x y:Nat}{b c:List Nat}(h:a++x::b=a++y::c):x=y:=by
 have:=List.append_cancel_left h
 exact(List.cons.inj this).1
theorem Ex{turn k j:Nat}(hk:k<52)(hj:j<52)(h:jT (turn+7*k)=jT (turn+7*j)):k % 26=j % 26:=by
 unfold jT at h;omega
theorem CG:(gj "y" 1).cps.toList = [121]:=by decide +kernel
theorem rS(z:Str):(gj z 0).cps.toList = []:=by simp[gj]
theorem wI{c1 c2:Str}{turn k j:Nat}(hk:k<52)(hj:j<52)(hne:k≠j){e f:Str}(he:e=Str.empty\/e = "q")(hf:f=Str.empty\/f = "q"):cZ c1 c2 turn k++e≠cZ c1 c2 turn j++f:=by
 intro h;have hc:(cZ c1 c2 turn k).cps.toList++e.cps.toList =(cZ c1 c2 turn j).cps.toList++f.cps.toList:=by
  have:=congrArg (fun z:Str=>z.cps.toList) h
  simpa [Str.cps_append]using this
 have hl:(cZ c1 c2 turn k).length+e.length =(cZ c1 c2 turn j).length+f.length:=by
  rw[<- Str.length_append,h,Str.length_append]
 rw[uc,uc]at hc;simp only[List.append_assoc,List.cons_append]at hc;have hm:=Ex hk hj (R6 hc);have h1:k % 2=j % 2:=by rw[<- Nat.mod_mod_of_dvd k (by decide:2∣26),hm,Nat.mod_mod_of_dvd j (by decide:2∣26)]
 have hd:(k / 26=0/\j / 26=1)\/(k / 26=1/\j / 26=0):=by omega
 rw[kK,kK]at hl;have l0:Str.empty.length=0:=rfl;have lq:(Str.ofString "q").length=1:=by decide +kernel
 have tail:=(List.cons.inj (List.append_cancel_left hc)).2;rw[h1]at tail;have k9:=List.append_cancel_left (List.append_cancel_left tail);have eq:(Str.ofString "q").cps.toList = [113]:=by decide +kernel
 have ee:Str.empty.cps.toList = []:=rfl;rcases hd with⟨d1,d2⟩ |⟨d1,d2⟩
 ·rw[d1,d2,rS,CG]at k9;rcases he with rfl|rfl
  ·rw[ee]at k9;simp at k9
  ·rw[eq]at k9
   have:=congrArg List.head? k9
   simp at this
 ·rw[d1,d2,rS,CG]at k9;rcases hf with rfl|rfl
  ·rw[ee]at k9;simp at k9
  ·rw[eq]at k9
   have:=congrArg List.head? k9
   simp at this
theorem nodup_range{f:Nat->Str}{n:Nat}(h:∀ i j,i<n->j<n->i≠j->f i≠f j):((List.range n).map f).Nodup:=by
 rw[List.nodup_iff_pairwise_ne,List.pairwise_map];refine List.Pairwise.imp_of_mem ?_ (List.nodup_iff_pairwise_ne.mp List.nodup_range);intro i j hi hj hne;exact h i j (List.mem_range.mp hi) (List.mem_range.mp hj) hne
theorem El{ws:List Str}{i:Nat}{w:Str}(h:ws.Nodup)(hw:w ∉ ws):(ws.set i w).Nodup:=by
 induction ws generalizing i with
 | nil=>simp
 | cons a r ih =>
  obtain⟨h1,h2⟩:=List.nodup_cons.mp h;have hw1:w≠a:=fun z=>hw (by simp[z])
  have hw2:w ∉ r:=fun z=>hw (List.mem_cons_of_mem _ z)
  cases i with
  | zero=>exact List.nodup_cons.mpr ⟨hw2,h2⟩
  | succ i =>
   refine List.nodup_cons.mpr ⟨fun z=>?_,ih h2 hw2⟩
   rcases List.mem_or_eq_of_mem_set z with z|z
   ·exact h1 z
   ·exact hw1 z.symm
end L2
namespace L2
open PySem
theorem LV{w:Str}{ws:List Str}(h:inV (.str w) (ws.map V.str)=false):w ∉ ws:=fun hm=>by
 unfold inV at h;rw[List.any_eq_false]at h;exact h (.str w) (List.mem_map.mpr ⟨w,hm,rfl⟩) (show(w==w)=true from beq_self_eq_true w)
def wordOf(kept:List Str)(c1 c2:Str)(turn k:Nat):Str:=cZ c1 c2 turn k++(if inV (.str (cZ c1 c2 turn k)) (kept.map V.str)=true then("q":Str)else Str.empty)
theorem DA{kept:List Str}{c1 c2:Str}{turn k j:Nat}(hk:k<52)(hj:j<52)(hne:k≠j):wordOf kept c1 c2 turn k≠wordOf kept c1 c2 turn j:=by
 unfold wordOf;refine wI hk hj hne ?_ ?_
 ·split
  ·exact .inr rfl
  ·exact .inl rfl
 ·split
  ·exact .inr rfl
  ·exact .inl rfl
theorem AN{kept:List Str}{c1 c2:Str}{turn k:Nat}(h1:c1.length<=5)(h2:c2.length<=5)(hk:k<52):1 <=(wordOf kept c1 c2 turn k).length/\(wordOf kept c1 c2 turn k).length<=20:=by
 unfold wordOf;rw[Str.length_append,kK];have l0:Str.empty.length=0:=rfl;have lq:(Str.ofString "q").length=1:=by decide +kernel
 split <;> omega
end L2
namespace L2
open PySem PySem.Spec PyProof.Rows
abbrev Mk1:=Str×List Str
abbrev Kd:=Str×List Mk1
def cK(ks:List Kd)(k:Str):List Mk1:=match ks.find? (fun x=>decide (x.1=k))with
 | some x=>x.2
 | none=>[]
theorem CV{ks:List Kd}{k:Str}{i:Nat}{x:Kd}(h:ks[i]? = some x)(hx:x.1=k)(hn:∀(j:Nat)(y:Kd),j<i->ks[j]? = some y->y.1≠k):cK ks k=x.2:=by
 induction ks generalizing i with
 | nil=>simp at h
 | cons a r ih =>
  cases i with
  | zero =>
   simp at h;subst h;simp[cK,hx]
  | succ i =>
   have h0:a.1≠k:=hn 0 a (by omega) (by simp)
   have z:=ih (i:=i) (by simpa using h) fun j y hj hy=>hn (j+1) y (by omega) (by simpa using hy)
   unfold cK at z ⊢;rw[List.find?_cons,decide_eq_false h0];exact z
theorem LC{ks:List Kd}{k:Str}(hn:∀(j:Nat)(y:Kd),ks[j]? = some y->y.1≠k):cK ks k = []:=by
 unfold cK;rw[List.find?_eq_none.mpr];intro x hx;obtain⟨j,hj,rfl⟩:=List.mem_iff_getElem.mp hx
 have:=hn j ks[j] (by simp)
 simpa using this
section
variable{prog:Program}{w:World}{A:Around}{E:Value->Shared->Prop}{s:Shared}
theorem uV{it t:Addr}{i:Nat}{items:Array Value}{x:Value}{Q:Value->Shared->Prop}(hit:s.heap.IsTupleIter it t i)(ht:s.heap.IsTuple t items)(hx:items[i]? = some x)
  (hQ:∀ h',h'.IsTupleIter it t (i+1)->Heap.SameBut it s.heap h'->Q x { s with heap:=h' }):wpAny (model prog w) A (Builtin.SmallTypes.nextOf (.ref it)) Q E s:=by
 obtain⟨o,ho,hc,hd⟩:=id hit;obtain⟨ol,hol,_,nl,hdl⟩:=ht;unfold Builtin.SmallTypes.nextOf;refine wpAny_bind (wpAny_callSpecial?_slot (name:=Str.ofString "__next__") hit.typeIs F.slot_tuple_iterator_next
  (wpAny_call_entry F.slot_tuple_iterator_next hit.typeIs F.entry_tuple_iterator_next ?_ (F.args_tuple_iterator_next_1 _)))
 show wpAny _ _ (field (.ref it) 0 >>= _) _ _ s;refine wpAny_bind (wpAny_field ho hd (x:=.ref t) rfl ?_);show wpAny _ _ (if(Value.ref t==Value.none)=true then _ else _) _ _ s
 rw[if_neg (show ¬((Value.ref t==Value.none)=true)from Bool.false_ne_true)];show wpAny _ _ (field (.ref it) 1 >>= _) _ _ s;refine wpAny_bind (wpAny_field ho hd (x:=.int i 0) rfl ?_);show wpAny _ _ (seqItems? (.ref t) >>= _) _ _ s;refine wpAny_bind (wpAny_seqItems hol hdl ?_);simp only[Int.toNat_natCast,hx];refine wpAny_bind (wpAny_setField ho hd (by simp) (wpAny_pure ⟨x,rfl,wpAny_pure (hQ _ ?_ (Heap.SameBut.update ..))⟩))
 exact⟨_,Heap.get?_update_self _ ho (Obj.isFreed_of_fields (Obj.data_mapFields hd _)),(Obj.cls_mapFields ..).trans hc,by
  rw[Obj.data_mapFields hd];simp[rawInt]⟩
theorem xx{it t:Addr}{i:Nat}{items:Array Value}{Q:Value->Shared->Prop}(hh:A.handled=none)(hit:s.heap.IsTupleIter it t i)(ht:s.heap.IsTuple t items)(hx:items[i]? = none)
  (hE:∀ h' e,Heap.ExtBut it s.heap h' ->(∃ o,h'.get? e=some o/\o.cls = .type "StopIteration")->E (.ref e) { s with heap:=h' }):wpAny (model prog w) A (Builtin.SmallTypes.nextOf (.ref it)) Q E s:=by
 obtain⟨o,ho,hc,hd⟩:=id hit;obtain⟨ol,hol,_,nl,hdl⟩:=ht;unfold Builtin.SmallTypes.nextOf;refine wpAny_bind (wpAny_callSpecial?_slot (name:=Str.ofString "__next__") hit.typeIs F.slot_tuple_iterator_next
  (wpAny_call_entry F.slot_tuple_iterator_next hit.typeIs F.entry_tuple_iterator_next ?_ (F.args_tuple_iterator_next_1 _)))
 show wpAny _ _ (field (.ref it) 0 >>= _) _ _ s;refine wpAny_bind (wpAny_field ho hd (x:=.ref t) rfl ?_);show wpAny _ _ (if(Value.ref t==Value.none)=true then _ else _) _ _ s
 rw[if_neg (show ¬((Value.ref t==Value.none)=true)from Bool.false_ne_true)];show wpAny _ _ (field (.ref it) 1 >>= _) _ _ s;refine wpAny_bind (wpAny_field ho hd (x:=.int i 0) rfl ?_);show wpAny _ _ (seqItems? (.ref t) >>= _) _ _ s;refine wpAny_bind (wpAny_seqItems hol hdl ?_);simp only[Int.toNat_natCast,hx];refine wpAny_bind (wpAny_rule (wpAny_bind (wpAny_setField ho hd (by simp) ?_)))
 show wpAny _ _ (newExc (.type "StopIteration") [] >>= _) _ _ _;refine wpAny_bind ?_;simp only[newExc,newTuple];refine wpAny_bind (wpAny_newObj_type ?_ (by size_fits))
 refine wpAny_bind (m:=firstArgMember _ _) (wpAny_of_eq (a:=Value.none) (by first|rfl |(simp only[firstArgMember];rfl)) ?_)
 refine wpAny_newObj_type ?_ (by size_fits)
 simp only[raiseNew];refine wpAny_bind (wpAny_handled ?_)
 first|rw[show A.in1.handled=none from hh]|rw[hh]
 refine wpAny_bind (wpAny_pure (wpAny_throw ?_));exact hE _ _ (((Heap.SameBut.update ..).extBut.push _).push _) ⟨_,Heap.get?_push_size _ rfl,rfl⟩
def aH(h:Heap)(tp:Bool)(it l:Addr)(k:Nat):Prop:=if tp=true then h.IsTupleIter it l k else h.IsListIter it l k
def aU(h:Heap)(tp:Bool)(l:Addr)(items:Array Value):Prop:=if tp=true then h.IsTuple l items else h.IsList l items
theorem aH.at{h h':Heap}{tp:Bool}{it l:Addr}{k:Nat}(x:aH h tp it l k)(e:∀ o,h.get? it=some o->h'.get? it=some o):aH h' tp it l k:=by
 cases tp with
 | true=>obtain⟨o,ho,r⟩:=(show h.IsTupleIter it l k from x);exact(show h'.IsTupleIter it l k from⟨o,e o ho,r⟩)
 | false=>obtain⟨o,ho,r⟩:=(show h.IsListIter it l k from x);exact(show h'.IsListIter it l k from⟨o,e o ho,r⟩)
theorem aU.at{h h':Heap}{tp:Bool}{l:Addr}{items:Array Value}(x:aU h tp l items)(e:∀ o,h.get? l=some o->h'.get? l=some o):aU h' tp l items:=by
 cases tp with
 | true=>obtain⟨o,ho,r⟩:=(show h.IsTuple l items from x);exact(show h'.IsTuple l items from⟨o,e o ho,r⟩)
 | false=>obtain⟨o,ho,r⟩:=(show h.IsList l items from x);exact(show h'.IsList l items from⟨o,e o ho,r⟩)
theorem aH.obj{h:Heap}{tp:Bool}{it l:Addr}{k:Nat}(x:aH h tp it l k):∃ o,h.get? it=some o/\∀ v,o.data ≠ .cell v:=by
 cases tp with
 | true=>obtain⟨o,ho,_,hd⟩:=(show h.IsTupleIter it l k from x);exact⟨o,ho,fun v=>by rw[hd];simp⟩
 | false=>obtain⟨o,ho,_,hd⟩:=(show h.IsListIter it l k from x);exact⟨o,ho,fun v=>by rw[hd];simp⟩
theorem next_item{tp:Bool}{it l:Addr}{i:Nat}{items:Array Value}{x:Value}{Q:Value->Shared->Prop}(hit:aH s.heap tp it l i)(hl:aU s.heap tp l items)(hx:items[i]? = some x)
  (hQ:∀ h',aH h' tp it l (i+1)->Heap.SameBut it s.heap h'->Q x { s with heap:=h' }):wpAny (model prog w) A (Builtin.SmallTypes.nextOf (.ref it)) Q E s:=by
 cases tp with
 | true=>exact uV hit hl hx hQ
 | false=>exact wpAny_nextOf_list_item hit hl hx hQ
theorem next_end{tp:Bool}{it l:Addr}{i:Nat}{items:Array Value}{Q:Value->Shared->Prop}(hh:A.handled=none)(hit:aH s.heap tp it l i)(hl:aU s.heap tp l items)(hx:items[i]? = none)
  (hE:∀ h' e,Heap.ExtBut it s.heap h' ->(∃ o,h'.get? e=some o/\o.cls = .type "StopIteration")->E (.ref e) { s with heap:=h' }):wpAny (model prog w) A (Builtin.SmallTypes.nextOf (.ref it)) Q E s:=by
 cases tp with
 | true=>exact xx hh hit hl hx hE
 | false=>exact wpAny_nextOf_list_end hh hit hl hx hE
theorem Fh{z TI TO i1 i2 l1 l2:Addr}{t1 t2:Bool}{k1 k2:Nat}{xs ys:Array Value}{x y a b:Value}{Q:Option Value->Shared->Prop}(D:ZipApart z TI TO i1 i2 l1 l2)
  (hz:IsZip s.heap z TI TO .none) (hTI:IsPair s.heap TI (.ref i1) (.ref i2)) (hTO:IsPair s.heap TO a b)
  (h1:aH s.heap t1 i1 l1 k1) (h2:aH s.heap t2 i2 l2 k2) (hl1:aU s.heap t1 l1 xs) (hl2:aU s.heap t2 l2 ys) (hx:xs[k1]? = some x) (hy:ys[k2]? = some y)
  (hQ:∀ h',IsZip h' z TI TO (rawInt s.heap.objs.size)->IsPair h' TO x y->aH h' t1 i1 l1 (k1+1)->aH h' t2 i2 l2 (k2+1)->IsPair h' s.heap.objs.size x y->h'.objs.size=s.heap.objs.size+1 ->
   (∀ c o,c≠z->c≠TO->c≠i1->c≠i2->s.heap.get? c=some o->h'.get? c=some o)->Q (some (.ref s.heap.objs.size)) { s with heap:=h' }) :
  wpAny (model prog w) A (pyNext (.ref z)) Q E s:=by
 have hT:s.TypeIs (.ref z) "zip":=⟨_,hz,rfl⟩;unfold pyNext;refine wpAny_bind (wpAny_attempt (wpAny_callSpecial?_slot (name:=Str.ofString "__next__") hT F.slot_zip_next
  (wpAny_call_entry F.slot_zip_next hT F.entry_zip_next ?_ (F.args_zip_next_1 _))))
 show wpAny _ _ (field (.ref z) 2 >>= _) _ _ _;refine wpAny_bind (wpAny_field hz rfl (x:=.bool false) rfl ?_);show wpAny _ _ (field (.ref z) 3 >>= _) _ _ _;refine wpAny_bind (wpAny_field hz rfl (x:=.ref TI) rfl ?_);refine wpAny_bind (wpAny_seqItems hTI rfl ?_);show wpAny _ _ (Builtin.SmallTypes.ownedTupleIsFree (.ref z) >>= _) _ _ _;refine wpAny_bind ?_;unfold Builtin.SmallTypes.ownedTupleIsFree;refine wpAny_bind (wpAny_field hz rfl (x:=.none) rfl (wpAny_pure ?_));simp only[if_true];refine wpAny_bind (wpAny_rule ?_);refine wpAny_bind (wpAny_field hz rfl (x:=.ref TO) rfl ?_);refine wpAny_bind (wpAny_setField_rec hz (by simp) fun h₁ hz₁ hs₁=>?_)
 replace hz₁:IsZip h₁ z TI TO .ellipsis:=hz₁
 refine wpAny_bind ?_;simp only[List.zipIdx_cons,List.zipIdx_nil,List.forIn_cons,List.forIn_nil];refine wpAny_bind (wpAny_bind (wpAny_onRaise ?_));show wpAny _ _ (Builtin.SmallTypes.nextOf (.ref i1) >>= _) _ _ _;refine wpAny_bind (next_item (h1.at fun o e=>hs₁.extBut _ o D.i1z e) (hl1.at fun o e=>hs₁.extBut _ o D.l1z e) hx fun h₂ h1₂ hs₂=>wpAny_pure ?_)
 have IJ:IsPair h₂ TO a b:=hs₂.extBut _ _ D.TOi1 (hs₁.extBut _ _ D.TOz hTO);refine wpAny_bind (wpAny_seqItems IJ rfl ?_);refine wpAny_bind (wpAny_updateSeq_pair IJ fun h₃ L6 hs₃=>?_)
 replace L6:IsPair h₃ TO x b:=L6
 refine wpAny_bind (wpAny_letGo (wpAny_pure ?_));refine wpAny_bind (wpAny_bind (wpAny_onRaise ?_));show wpAny _ _ (Builtin.SmallTypes.nextOf (.ref i2) >>= _) _ _ _;refine wpAny_bind (next_item (h2.at fun o e=>hs₃.extBut _ o D.TOi2.symm (hs₂.extBut _ o D.i12.symm (hs₁.extBut _ o D.i2z e)))
  (hl2.at fun o e=>hs₃.extBut _ o D.l2TO (hs₂.extBut _ o D.l2i1 (hs₁.extBut _ o D.l2z e))) hy fun h₄ h2₄ hs₄=>wpAny_pure ?_)
 have RP:IsPair h₄ TO x b:=hs₄.extBut _ _ D.TOi2 L6;refine wpAny_bind (wpAny_seqItems RP rfl ?_);refine wpAny_bind (wpAny_updateSeq_pair RP fun h₅ L5 hs₅=>?_)
 replace L5:IsPair h₅ TO x y:=L5
 refine wpAny_bind (wpAny_letGo (wpAny_pure (wpAny_pure ?_)));refine wpAny_bind (wpAny_seqItems L5 rfl ?_);refine wpAny_bind (wpAny_newTuple ?_);have hsz:h₅.objs.size=s.heap.objs.size:=by rw[hs₅.1,hs₄.1,hs₃.1,hs₂.1,hs₁.1]
 have hz₅:IsZip h₅ z TI TO .ellipsis:=hs₅.extBut _ _ D.TOz.symm (hs₄.extBut _ _ D.i2z.symm (hs₃.extBut _ _ D.TOz.symm (hs₂.extBut _ _ D.i1z.symm hz₁)));have hk₅:∀ c o,c≠z->c≠TO->c≠i1->c≠i2->s.heap.get? c=some o->h₅.get? c=some o:=fun c o c1 c2 c3 c4 e =>
  hs₅.extBut _ _ c2 (hs₄.extBut _ _ c4 (hs₃.extBut _ _ c2 (hs₂.extBut _ _ c3 (hs₁.extBut _ _ c1 e))))
 have h1₅:aH h₅ t1 i1 l1 (k1+1):=h1₂.at fun o e=>hs₅.extBut _ o D.TOi1.symm (hs₄.extBut _ o D.i12 (hs₃.extBut _ o D.TOi1.symm e))
 have h2₅:aH h₅ t2 i2 l2 (k2+1):=h2₄.at fun o e=>hs₅.extBut _ o D.TOi2.symm e
 have Ru:z<h₅.objs.size:=Heap.lt_size hz₅;show wpAny _ _ (Builtin.SmallTypes.ownedTupleHandOut (.ref z) (.ref h₅.objs.size) >>= _) _ _ _;refine wpAny_bind ?_;unfold Builtin.SmallTypes.ownedTupleHandOut;have hz₆:IsZip (h₅.push { cls:=.type "tuple",data:=.seq #[x,y] }) z TI TO .ellipsis:=Heap.get?_push_of_some _ hz₅;refine wpAny_bind (wpAny_setField_rec hz₆ (by simp) fun h₇ hz₇ hs₇=>?_)
 replace hz₇:IsZip h₇ z TI TO (rawInt h₅.objs.size):=hz₇
 refine wpAny_setField_rec hz₇ (by simp) fun h₈ hz₈ hs₈=>?_
 replace hz₈:IsZip h₈ z TI TO (rawInt h₅.objs.size):=hz₈
 have up:∀ c o,c≠z->h₅.get? c=some o->h₈.get? c=some o:=fun c o c1 e=>hs₈.extBut _ _ c1 (hs₇.extBut _ _ c1 (Heap.get?_push_of_some _ e))
 have hT₈:IsPair h₈ h₅.objs.size x y:=hs₈.extBut _ _ (Nat.ne_of_gt Ru) (hs₇.extBut _ _ (Nat.ne_of_gt Ru) (Heap.get?_push_size _ rfl));have hz8:h₈.objs.size=h₅.objs.size+1:=by rw[hs₈.1,hs₇.1,Heap.size_push]
 rw[hsz]at hz₈ hT₈ hz8;refine wpAny_pure ⟨_,rfl,wpAny_pure ?_⟩;show Q (some (.ref h₅.objs.size)) _;rw[hsz];exact hQ h₈ hz₈ (up _ _ D.TOz L5) (h1₅.at fun o e=>up _ o D.i1z e) (h2₅.at fun o e=>up _ o D.i2z e) hT₈ hz8 fun c o c1 c2 c3 c4 e=>up c o c1 (hk₅ c o c1 c2 c3 c4 e)
theorem JT{z TI TO i1 i2 l1 l2:Addr}{t1 t2:Bool}{k1 k2:Nat}{xs ys:Array Value}{a b:Value}{Q:Option Value->Shared->Prop}(hh:A.handled=none)(D:ZipApart z TI TO i1 i2 l1 l2)
  (hz:IsZip s.heap z TI TO .none) (hTI:IsPair s.heap TI (.ref i1) (.ref i2)) (hTO:IsPair s.heap TO a b)
  (h1:aH s.heap t1 i1 l1 k1) (h2:aH s.heap t2 i2 l2 k2) (hl1:aU s.heap t1 l1 xs) (hl2:aU s.heap t2 l2 ys) (xX:xs[k1]? = none\/ys[k2]? = none)
  (hQ:∀ h',(∀ c o,c≠z->c≠TO->c≠i1->c≠i2->s.heap.get? c=some o->h'.get? c=some o)->Q none { s with heap:=h' }):wpAny (model prog w) A (pyNext (.ref z)) Q E s:=by
 have hT:s.TypeIs (.ref z) "zip":=⟨_,hz,rfl⟩;have fin:∀ h' e,(∀ c o,c≠z->c≠TO->c≠i1->c≠i2->s.heap.get? c=some o->h'.get? c=some o) ->(∃ o,h'.get? e=some o/\o.cls = .type "StopIteration") ->
   wpAny (model prog w) A (do if <- isInstance (.ref e) (.type "StopIteration")then pure none else throw (.ref e)) Q E { s with heap:=h' }:=fun h' e hk he=>by
  obtain⟨o,ho,hc⟩:=he;refine wpAny_bind (wpAny_isInstance (T:="StopIteration") (b:=true) ⟨o,ho,hc⟩ isSubtype_stop ?_);exact wpAny_pure (hQ _ hk)
 unfold pyNext;refine wpAny_bind (wpAny_attempt (wpAny_callSpecial?_slot (name:=Str.ofString "__next__") hT F.slot_zip_next
  (wpAny_call_entry F.slot_zip_next hT F.entry_zip_next ?_ (F.args_zip_next_1 _))))
 show wpAny _ _ (field (.ref z) 2 >>= _) _ _ _;refine wpAny_bind (wpAny_field hz rfl (x:=.bool false) rfl ?_);show wpAny _ _ (field (.ref z) 3 >>= _) _ _ _;refine wpAny_bind (wpAny_field hz rfl (x:=.ref TI) rfl ?_);refine wpAny_bind (wpAny_seqItems hTI rfl ?_);show wpAny _ _ (Builtin.SmallTypes.ownedTupleIsFree (.ref z) >>= _) _ _ _;refine wpAny_bind ?_;unfold Builtin.SmallTypes.ownedTupleIsFree;refine wpAny_bind (wpAny_field hz rfl (x:=.none) rfl (wpAny_pure ?_));simp only[if_true];refine wpAny_bind (wpAny_rule ?_);refine wpAny_bind (wpAny_field hz rfl (x:=.ref TO) rfl ?_);refine wpAny_bind (wpAny_setField_rec hz (by simp) fun h₁ hz₁ hs₁=>?_)
 replace hz₁:IsZip h₁ z TI TO .ellipsis:=hz₁
 refine wpAny_bind ?_;simp only[List.zipIdx_cons,List.zipIdx_nil,List.forIn_cons,List.forIn_nil];refine wpAny_bind (wpAny_bind (wpAny_onRaise ?_));show wpAny _ _ (Builtin.SmallTypes.nextOf (.ref i1) >>= _) _ _ _;cases hx:xs[k1]? with
 | none =>
  refine wpAny_bind (next_end hh (h1.at fun o e=>hs₁.extBut _ o D.i1z e) (hl1.at fun o e=>hs₁.extBut _ o D.l1z e) hx fun h₂ e hs₂ he=>?_)
  obtain⟨oe,hoe,hce⟩:=he;have hz₂:IsZip h₂ z TI TO .ellipsis:=hs₂ _ _ D.i1z.symm hz₁;have hez:e≠z:=fun x=>by subst x;rw[hz₂]at hoe;cases hoe;simp at hce
  refine wpAny_setField_rec hz₂ (by simp) fun h₃ _ hs₃=>fin h₃ e (fun c o c1 _ c3 _ x=>hs₃.extBut _ _ c1 (hs₂ _ _ c3 (hs₁.extBut _ _ c1 x))) ⟨oe,hs₃.extBut _ _ hez hoe,hce⟩
 | some x =>
  have hy:ys[k2]? = none:=by rcases xX with h|h;rw[hx]at h;cases h;exact h
  refine wpAny_bind (next_item (h1.at fun o e=>hs₁.extBut _ o D.i1z e) (hl1.at fun o e=>hs₁.extBut _ o D.l1z e) hx fun h₂ h1₂ hs₂=>wpAny_pure ?_)
  have IJ:IsPair h₂ TO a b:=hs₂.extBut _ _ D.TOi1 (hs₁.extBut _ _ D.TOz hTO);refine wpAny_bind (wpAny_seqItems IJ rfl ?_);refine wpAny_bind (wpAny_updateSeq_pair IJ fun h₃ L6 hs₃=>?_)
  refine wpAny_bind (wpAny_letGo (wpAny_pure ?_));refine wpAny_bind (wpAny_bind (wpAny_onRaise ?_));show wpAny _ _ (Builtin.SmallTypes.nextOf (.ref i2) >>= _) _ _ _;refine wpAny_bind (next_end hh (h2.at fun o e=>hs₃.extBut _ o D.TOi2.symm (hs₂.extBut _ o D.i12.symm (hs₁.extBut _ o D.i2z e)))
   (hl2.at fun o e=>hs₃.extBut _ o D.l2TO (hs₂.extBut _ o D.l2i1 (hs₁.extBut _ o D.l2z e))) hy fun h₄ e hs₄ he=>?_)
  obtain⟨oe,hoe,hce⟩:=he;have hz₄:IsZip h₄ z TI TO .ellipsis:=hs₄ _ _ D.i2z.symm (hs₃.extBut _ _ D.TOz.symm (hs₂.extBut _ _ D.i1z.symm hz₁));have hez:e≠z:=fun x=>by subst x;rw[hz₄]at hoe;cases hoe;simp at hce
  refine wpAny_setField_rec hz₄ (by simp) fun h₅ _ hs₅=>fin h₅ e (fun c o c1 c2 c3 c4 x=>hs₅.extBut _ _ c1 (hs₄ _ _ c4 (hs₃.extBut _ _ c2 (hs₂.extBut _ _ c3 (hs₁.extBut _ _ c1 x))))) ⟨oe,hs₅.extBut _ _ hez hoe,hce⟩
end
def kindOf(ks:List Kd)(m:Str):V:=match ks.find? (fun x=>decide (m∈x.2.map (·.1)))with
 | some x=>.str x.1
 | none=>.non
theorem LW{w:Str}{ws:List Str}:inV (.str w) (ws.map V.str)=true ↔ w∈ws:=by
 constructor
 ·intro h;by_cases hm:w∈ws
  ·exact hm
  ·exfalso
   unfold inV at h;rw[List.any_eq_true]at h;obtain⟨x,hx,e⟩:=h;obtain⟨z,hz,rfl⟩:=List.mem_map.mp hx
   have:z=w:=eq_of_beq (show(z==w)=true from e)
   exact hm (this▸hz)
 ·intro h;unfold inV;rw[List.any_eq_true];exact⟨.str w,List.mem_map.mpr ⟨w,h,rfl⟩,show(w==w)=true from beq_self_eq_true w⟩
def marks(rs:List Str):List (Key×V):=rs.map fun s=>(.inr s,.bl true)
theorem Em{as:List Str}:∀{bs:List Str},as.Nodup ->(∀ x∈as,x∈bs)->as.length<=bs.length:=by
 induction as with
 | nil=>intro bs _ _;exact Nat.zero_le _
 | cons a as ih =>
  intro bs nd sub;rw[List.nodup_cons]at nd;have ha:a∈bs:=sub a (by simp)
  have z:=ih (bs:=bs.erase a) nd.2 fun x hx=>(List.mem_erase_of_ne (fun(e:x=a)=>nd.1 (by rw[<- e];exact hx))).mpr (sub x (by simp[hx]))
  rw[List.length_erase_of_mem ha]at z
  have:=List.length_pos_of_mem ha
  simp only[List.length_cons];omega
theorem Inv.Cs{X:Cx}{pins:List (Addr×Obj)}{σ:St}{H:Hp}{s:Shared}{h':Heap}{t':Nat}{fp:List Addr}(I:Inv X pins σ H s)(k:∀ b o,b ∉ fp->s.heap.get? b=some o->h'.get? b=some o)(hf:∀ b∈fp,vA X pins H b) :
  Inv X pins σ H { s with heap:=h',toks:=t' }:=by
 have nit:∀ b u,H b=some u->b ∉ fp:=fun b u e z=>by
  have:=(hf b z).1
  rw[e]at this;cases this
 refine I.step (g':=s.gens) (d':=s.drawn) (ch:=fp) (fun b hb=>?_) (fun b o _ _ hc e _=>k b o hc e) (fun b o _ _ hc e _=>⟨o.slots,k b o hc e⟩) (fun _ _ _ _ n=>n)
  (fun b o hc e=>⟨o,k b o hc e⟩) (fun _ _ e=>e) (fun _ _ _ e=>e) (fun b ps e=>⟨#[],by rw[e];simp⟩) (fun m hm=>?_) (fun b u e=>?_) I.bare
 ·obtain⟨f0,f1,f2,f3,f4,f5⟩:=hf b hb;exact⟨f3,f1,f4,f5⟩
 ·obtain⟨o,es,ep,ho,r⟩:=hm;exact⟨o,es,ep,k _ o (fun z=>(hf _ z).2.1 rfl) ho,r⟩
 ·refine(I.hok b u e).dU (fun c v hc q=>k c v ?_ q) (fun _ q=>q) fun _ _ q=>q
  rcases hc with z|z
  ·rw[z];exact nit b u e
  ·exact nit c _ z
def SqB(K:W.Frag)(tp:Bool)(H:Hp)(a:Addr)(xs:List V):Prop:=if tp=true then SqT K H a xs else SqL K H a xs
theorem Inv.Gn{X:Cx}{pins:List (Addr×Obj)}{σ:St}{H:Hp}{s:Shared}{tp:Bool}{a:Addr}{xs:List V}(I:Inv X pins σ H s)(h:SqB X.K tp H a xs):∃ its:List Value,Vals xs its/\aU s.heap tp a its.toArray/\xs.length<=sizeLine:=by
 cases tp with
 | true =>
  obtain⟨its,r,p,z⟩:=I.tuple (show SqT X.K H a xs from h);exact⟨its,r,(show s.heap.IsTuple a its.toArray from p),z⟩
 | false =>
  obtain⟨its,r,p,z⟩:=I.list (show SqL X.K H a xs from h);exact⟨its,r,p.isList,z⟩
theorem Inv.Gm{X:Cx}{pins:List (Addr×Obj)}{σ:St}{H:Hp}{s:Shared}{tp:Bool}{a:Addr}{xs ys:List V}(I:Inv X pins σ H s)(h:SqB X.K tp H a xs)(h2:SqB X.K tp H a ys):xs=ys:=by
 cases tp with
 | true=>exact I.vG (show SqT X.K H a xs from h) (show SqT X.K H a ys from h2)
 | false=>exact I.zJ (show SqL X.K H a xs from h) (show SqL X.K H a ys from h2)
def itc(tp:Bool):String:=if tp=true then "tuple_iterator" else "list_iterator"
theorem jX{prog:Program}{w:World}{A:Around}{E:Value->Shared->Prop}{s:Shared}{tp:Bool}{l:Addr}{xs:Array Value}{Q:Value->Shared->Prop}(h:aU s.heap tp l xs)
  (hQ:Q (.ref s.heap.objs.size) { s with heap:=s.heap.push { cls:=.type (itc tp),data:=.fields #[.ref l,.int 0 0] } }):wpAny (model prog w) A (pyIter (.ref l)) Q E s:=by
 cases tp with
 | true=>exact wpAny_pyIter_tuple (show s.heap.IsTuple l xs from h) hQ
 | false=>exact wpAny_pyIter_list (show s.heap.IsList l xs from h) hQ
abbrev zH1(t1:Bool)(h:Heap)(l1:Addr):Heap:=h.push { cls:=.type (itc t1),data:=.fields #[.ref l1,.int 0 0] }
abbrev zH2(t1 t2:Bool)(h:Heap)(l1 l2:Addr):Heap:=(zH1 t1 h l1).push { cls:=.type (itc t2),data:=.fields #[.ref l2,.int 0 0] }
abbrev zH3(t1 t2:Bool)(h:Heap)(l1 l2:Addr):Heap:=(zH2 t1 t2 h l1 l2).push { cls:=.type "tuple",data:=.seq #[.ref h.objs.size,.ref (zH1 t1 h l1).objs.size] }
abbrev zH4(t1 t2:Bool)(h:Heap)(l1 l2:Addr):Heap:=(zH3 t1 t2 h l1 l2).push { cls:=.type "tuple",data:=.seq #[.none,.none] }
abbrev zH5(t1 t2:Bool)(h:Heap)(l1 l2:Addr):Heap:=(zH4 t1 t2 h l1 l2).push { cls:=.type "zip",data:=.fields #[.none,.bool false,.bool false,.ref (zH2 t1 t2 h l1 l2).objs.size,.ref (zH3 t1 t2 h l1 l2).objs.size] }
theorem uY(t1 t2:Bool)(l1 l2:Addr)(xs ys:Array Value) :
  Meets (Builtin.«zip.__new__» ⟨[.type "zip",.ref l1,.ref l2],[]⟩) (fun _ R s=>aU s.heap t1 l1 xs/\aU s.heap t2 l2 ys /\
   R (.ok (.ret (.ref (zH4 t1 t2 s.heap l1 l2).objs.size))) { s with heap:=zH5 t1 t2 s.heap l1 l2 }) :=
 .of_wp fun prog w A R s h=>by
  obtain⟨hp,g,d,tk,os⟩:=s;obtain⟨hl1,hl2,h⟩:=h;have BQ:=sub_zip;have hL1:aU (Shared.heap ⟨hp,g,d,tk,os⟩) t1 l1 xs:=hl1;have hL2:aU (Shared.heap ⟨hp.push { cls:=.type (itc t1),data:=.fields #[.ref l1,.int 0 0] },g,d,tk,os⟩) t2 l2 ys:=hl2.at fun o e=>Heap.get?_push_of_some _ e
  wp_walk using jX hL1,jX hL2
  exact⟨_,rfl,h⟩
theorem jM{h:Heap}{tp:Bool}{l it:Addr}(e:h.get? it=some { cls:=.type (itc tp),data:=.fields #[.ref l,.int 0 0] }):aH h tp it l 0:=by
 cases tp with
 | true=>exact(show h.IsTupleIter it l 0 from⟨_,e,rfl,rfl⟩)
 | false=>exact(show h.IsListIter it l 0 from⟨_,e,rfl,rfl⟩)
theorem yj{prog:Program}{w:World}{A:Around}{E:Value->Shared->Prop}{s:Shared}{t1 t2:Bool}{l1 l2:Addr}{xs ys:Array Value}{Q:Value->Shared->Prop}(hl1:aU s.heap t1 l1 xs)(hl2:aU s.heap t2 l2 ys)
  (h:∀ h',IsZip h' (s.heap.objs.size+4) (s.heap.objs.size+2) (s.heap.objs.size+3) .none->IsPair h' (s.heap.objs.size+2) (.ref s.heap.objs.size) (.ref (s.heap.objs.size+1)) ->
   IsPair h' (s.heap.objs.size+3) .none .none->aH h' t1 s.heap.objs.size l1 0->aH h' t2 (s.heap.objs.size+1) l2 0 ->
   (∀ c o,s.heap.get? c=some o->h'.get? c=some o)->Q (.ref (s.heap.objs.size+4)) { s with heap:=h' }) :
  wpAny (model prog w) A (call (.type "zip") [.ref l1,.ref l2]) Q E s:=by
 refine callType_new F.called_zip (by decide) (F.typeCall_zip_2 _ _) (F.newCall_zip_2 _ _) (fun obj=>F.args_object_init_3 obj _ _) F.entry_zip_new
  (uY t1 t2 l1 l2 xs ys) ⟨hl1,hl2,?_⟩
 have z1:(zH1 t1 s.heap l1).objs.size=s.heap.objs.size+1:=Heap.size_push ..;have z2:(zH2 t1 t2 s.heap l1 l2).objs.size=s.heap.objs.size+2:=by rw[Heap.size_push,z1]
 have z3:(zH3 t1 t2 s.heap l1 l2).objs.size=s.heap.objs.size+3:=by rw[Heap.size_push,z2]
 have z4:(zH4 t1 t2 s.heap l1 l2).objs.size=s.heap.objs.size+4:=by rw[Heap.size_push,z3]
 have g5:(zH5 t1 t2 s.heap l1 l2).get? (zH4 t1 t2 s.heap l1 l2).objs.size=some _:=Heap.get?_push_size _ rfl;have g4:(zH5 t1 t2 s.heap l1 l2).get? (zH3 t1 t2 s.heap l1 l2).objs.size=some _:=Heap.get?_push_of_some _ (Heap.get?_push_size _ rfl);have g3:(zH5 t1 t2 s.heap l1 l2).get? (zH2 t1 t2 s.heap l1 l2).objs.size=some _:=Heap.get?_push_of_some _ (Heap.get?_push_of_some _ (Heap.get?_push_size _ rfl));have g2:(zH5 t1 t2 s.heap l1 l2).get? (zH1 t1 s.heap l1).objs.size=some _:=Heap.get?_push_of_some _ (Heap.get?_push_of_some _ (Heap.get?_push_of_some _ (Heap.get?_push_size _ rfl)));have g1:(zH5 t1 t2 s.heap l1 l2).get? s.heap.objs.size=some _:=Heap.get?_push_of_some _ (Heap.get?_push_of_some _ (Heap.get?_push_of_some _ (Heap.get?_push_of_some _ (Heap.get?_push_size _ rfl))));show _/\_;rw[z2,z3,z4]at g5;rw[z1,z2]at g3;rw[z3]at g4;rw[z1]at g2;rw[z4];exact⟨⟨_,g5,rfl⟩,h _ g5 g3 g4 (jM g1) (jM g2) fun c o x =>
  Heap.get?_push_of_some _ (Heap.get?_push_of_some _ (Heap.get?_push_of_some _ (Heap.get?_push_of_some _ (Heap.get?_push_of_some _ x))))⟩
theorem aU.obj{h:Heap}{tp:Bool}{l:Addr}{xs:Array Value}(x:aU h tp l xs):∃ o,h.get? l=some o:=by
 cases tp with
 | true=>obtain⟨o,ho,_⟩:=(show h.IsTuple l xs from x);exact⟨o,ho⟩
 | false=>obtain⟨o,ho,_⟩:=(show h.IsList l xs from x);exact⟨o,ho⟩
theorem yR{n l1 l2:Nat}(h1:l1<n)(h2:l2<n):ZipApart (n+4) (n+2) (n+3) n (n+1) l1 l2:=by
 constructor <;>(intro z;refine absurd (show @Eq Nat _ _ from z) ?_;omega)
theorem DO{ws:List Str}{t:Nat}(h:ws.Nodup):(ws.drop t++ws.take t).Nodup :=
 (List.perm_append_comm (l₁:=ws.take t) (l₂:=ws.drop t)).nodup_iff.mp (by rw[List.take_append_drop];exact h)
theorem uB.other{H:Hp}{d l q:Addr}{o:HO}(D:uB H d l)(h1:q≠d)(h2:q≠l):uB (upd H q o) d l:=by
 obtain⟨s,n,ls,D⟩:=D;exact⟨s,n,ls,by rw[ag h1.symm];exact D.hd,by rw[ag h2.symm];exact D.hl,D.s0,D.s1,D.n0,D.l0⟩
def names(ks:List Kd):List Str:=ks.flatMap fun k=>k.2.map (·.1)
theorem take_one{xs:List Str}{i:Nat}{x:Str}(h:xs[i]? = some x):xs.take i ++ [x]=xs.take (i+1):=by rw[List.take_add_one,h];rfl
theorem cJ{X:Cx}{K:W.Frag}{es:List Expr}{k:Nat}{pos:Pos}{t:TGs}{n:Nat}(hK:X.K=K)(hc:X.calm=true)(h:PGs X es t)
  (hn:(assignEach es X.env).length=n:=by rfl) (hst:(assignEach es X.env).findIdx? (·.1)=none:=by rfl):PG X (.Tuple es k pos) (Pk K n t):=hK▸Ot hc h hn hst
abbrev pH(h:Heap)(z TI TO:Addr)(a:Addr)(f:Bool):Prop :=
 h.get? z=some { cls:=.type "zip",dict:=none,data:=.fields #[rawInt a,.bool f,.bool false,.ref TI,.ref TO],slots:=#[] }
section
variable{prog:Program}{w:World}{A:Around}{E:Value->Shared->Prop}{s:Shared}
theorem zC{z TI TO a:Addr}{f:Bool}{oa:Obj}{Q:Bool->Shared->Prop}(hz:pH s.heap z TI TO a f)(ha:s.heap.get? a=some oa)
  (hQ:∀ h',pH h' z TI TO a true->Heap.SameBut z s.heap h'->Q false { s with heap:=h' }):wpAny (model prog w) A (Builtin.SmallTypes.ownedTupleIsFree (.ref z)) Q E s:=by
 unfold Builtin.SmallTypes.ownedTupleIsFree;refine wpAny_bind (wpAny_field hz rfl (x:=rawInt a) rfl ?_);show wpAny _ _ (loadIfAlive ((a:Int).toNat) >>= _) _ _ _;rw[Int.toNat_natCast];refine wpAny_bind (W.kdx_alive ha ?_);simp only[Option.isNone_some,Bool.false_eq_true,if_false];refine wpAny_bind (wpAny_field hz rfl (x:=.bool f) rfl ?_);cases f with
 | true =>
  rw[if_neg (show ¬((Value.bool true != Value.bool true)=true)from Bool.false_ne_true)];exact wpAny_pure (hQ _ hz (Heap.SameBut.refl _ _))
 | false =>
  rw[if_pos (show(Value.bool false != Value.bool true)=true from rfl)];refine wpAny_bind (wpAny_setField_rec hz (by simp) fun h₃ he₃ hs₃=>?_)
  exact wpAny_pure (hQ _ he₃ hs₃)
theorem JS{z TI TO i1 i2 l1 l2 a:Addr}{f:Bool}{oa:Obj}{t1 t2:Bool}{k1 k2:Nat}{xs ys:Array Value}{x y:Value}{Q:Option Value->Shared->Prop}(D:ZipApart z TI TO i1 i2 l1 l2)
  (hz:pH s.heap z TI TO a f) (ha:s.heap.get? a=some oa) (hTI:IsPair s.heap TI (.ref i1) (.ref i2))
  (h1:aH s.heap t1 i1 l1 k1) (h2:aH s.heap t2 i2 l2 k2) (hl1:aU s.heap t1 l1 xs) (hl2:aU s.heap t2 l2 ys) (hx:xs[k1]? = some x) (hy:ys[k2]? = some y)
  (hQ:∀ h',pH h' z TI TO a true->aH h' t1 i1 l1 (k1+1)->aH h' t2 i2 l2 (k2+1)->IsPair h' s.heap.objs.size x y->h'.objs.size=s.heap.objs.size+1 ->
   (∀ c o,c≠z->c≠i1->c≠i2->s.heap.get? c=some o->h'.get? c=some o)->Q (some (.ref s.heap.objs.size)) { s with heap:=h' }) :
  wpAny (model prog w) A (pyNext (.ref z)) Q E s:=by
 have hT:s.TypeIs (.ref z) "zip":=⟨_,hz,rfl⟩;unfold pyNext;refine wpAny_bind (wpAny_attempt (wpAny_callSpecial?_slot (name:=Str.ofString "__next__") hT F.slot_zip_next
  (wpAny_call_entry F.slot_zip_next hT F.entry_zip_next ?_ (F.args_zip_next_1 _))))
 show wpAny _ _ (field (.ref z) 2 >>= _) _ _ _;refine wpAny_bind (wpAny_field hz rfl (x:=.bool false) rfl ?_);show wpAny _ _ (field (.ref z) 3 >>= _) _ _ _;refine wpAny_bind (wpAny_field hz rfl (x:=.ref TI) rfl ?_);refine wpAny_bind (wpAny_seqItems hTI rfl ?_);show wpAny _ _ (Builtin.SmallTypes.ownedTupleIsFree (.ref z) >>= _) _ _ _;refine wpAny_bind (zC hz ha fun h₁ hz₁ hs₁=>?_)
 simp only[Bool.false_eq_true,if_false];rw[<- Array.forIn_toList];simp only[List.forIn_cons,List.forIn_nil];refine wpAny_bind (wpAny_bind (wpAny_bind (wpAny_holding ?_)));show wpAny _ _ (Builtin.SmallTypes.nextOf (.ref i1) >>= _) _ _ _;refine wpAny_bind (next_item (h1.at fun o e=>hs₁.extBut _ o D.i1z e) (hl1.at fun o e=>hs₁.extBut _ o D.l1z e) hx fun h₂ h1₂ hs₂=>wpAny_pure (wpAny_pure ?_))
 refine wpAny_bind (wpAny_bind (wpAny_holding ?_));show wpAny _ _ (Builtin.SmallTypes.nextOf (.ref i2) >>= _) _ _ _;refine wpAny_bind (next_item (h2.at fun o e=>hs₂.extBut _ o D.i12.symm (hs₁.extBut _ o D.i2z e)) (hl2.at fun o e=>hs₂.extBut _ o D.l2i1 (hs₁.extBut _ o D.l2z e)) hy fun h₃ h2₃ hs₃=>wpAny_pure (wpAny_pure ?_))
 refine wpAny_pure ?_;show wpAny _ _ (newTuple [x,y] >>= _) _ _ _;refine wpAny_bind (wpAny_newTuple ?_);have hsz:h₃.objs.size=s.heap.objs.size:=by rw[hs₃.1,hs₂.1,hs₁.1]
 have up:∀ c o,c≠z->c≠i1->c≠i2->s.heap.get? c=some o ->(h₃.push { cls:=.type "tuple",data:=.seq #[x,y] }).get? c=some o:=fun c o c1 c2 c3 e =>
  Heap.get?_push_of_some _ (hs₃.extBut _ _ c3 (hs₂.extBut _ _ c2 (hs₁.extBut _ _ c1 e)))
 refine wpAny_pure ⟨_,rfl,wpAny_pure ?_⟩;show Q (some (.ref h₃.objs.size)) _;rw[hsz];refine hQ _ (Heap.get?_push_of_some _ (hs₃.extBut _ _ D.i2z.symm (hs₂.extBut _ _ D.i1z.symm hz₁))) ?_ ?_ ?_ ?_ up
 ·exact h1₂.at fun o e=>Heap.get?_push_of_some _ (hs₃.extBut _ o D.i12 e)
 ·exact h2₃.at fun o e=>Heap.get?_push_of_some _ e
 ·rw[<- hsz];exact Heap.get?_push_size _ rfl
 ·rw[Heap.size_push,hsz]
theorem yP{z TI TO i1 i2 l1 l2 a:Addr}{f:Bool}{oa:Obj}{t1 t2:Bool}{k1 k2:Nat}{xs ys:Array Value}{Q:Option Value->Shared->Prop}(hh:A.handled=none)(D:ZipApart z TI TO i1 i2 l1 l2)
  (hz:pH s.heap z TI TO a f) (ha:s.heap.get? a=some oa) (hTI:IsPair s.heap TI (.ref i1) (.ref i2))
  (h1:aH s.heap t1 i1 l1 k1) (h2:aH s.heap t2 i2 l2 k2) (hl1:aU s.heap t1 l1 xs) (hl2:aU s.heap t2 l2 ys) (xX:xs[k1]? = none\/ys[k2]? = none)
  (hQ:∀ h',(∀ c o,c≠z->c≠i1->c≠i2->s.heap.get? c=some o->h'.get? c=some o)->Q none { s with heap:=h' }) :
  wpAny (model prog w) A (pyNext (.ref z)) Q E s:=by
 have hT:s.TypeIs (.ref z) "zip":=⟨_,hz,rfl⟩;have fin:∀ h' e,(∀ c o,c≠z->c≠i1->c≠i2->s.heap.get? c=some o->h'.get? c=some o) ->(∃ o,h'.get? e=some o/\o.cls = .type "StopIteration") ->
   wpAny (model prog w) A (do if <- isInstance (.ref e) (.type "StopIteration")then pure none else throw (.ref e)) Q E { s with heap:=h' }:=fun h' e hk he=>by
  obtain⟨o,ho,hc⟩:=he;refine wpAny_bind (wpAny_isInstance (T:="StopIteration") (b:=true) ⟨o,ho,hc⟩ isSubtype_stop ?_);exact wpAny_pure (hQ _ hk)
 unfold pyNext;refine wpAny_bind (wpAny_attempt (wpAny_callSpecial?_slot (name:=Str.ofString "__next__") hT F.slot_zip_next
  (wpAny_call_entry F.slot_zip_next hT F.entry_zip_next ?_ (F.args_zip_next_1 _))))
 show wpAny _ _ (field (.ref z) 2 >>= _) _ _ _;refine wpAny_bind (wpAny_field hz rfl (x:=.bool false) rfl ?_);show wpAny _ _ (field (.ref z) 3 >>= _) _ _ _;refine wpAny_bind (wpAny_field hz rfl (x:=.ref TI) rfl ?_);refine wpAny_bind (wpAny_seqItems hTI rfl ?_);show wpAny _ _ (Builtin.SmallTypes.ownedTupleIsFree (.ref z) >>= _) _ _ _;refine wpAny_bind (zC hz ha fun h₁ hz₁ hs₁=>?_)
 simp only[Bool.false_eq_true,if_false];rw[<- Array.forIn_toList];simp only[List.forIn_cons,List.forIn_nil];refine wpAny_bind (wpAny_bind (wpAny_bind (wpAny_holding ?_)));show wpAny _ _ (Builtin.SmallTypes.nextOf (.ref i1) >>= _) _ _ _;cases hx:xs[k1]? with
 | none =>
  refine wpAny_bind (next_end hh (h1.at fun o e=>hs₁.extBut _ o D.i1z e) (hl1.at fun o e=>hs₁.extBut _ o D.l1z e) hx fun h₂ e hs₂ he=>?_)
  exact fin h₂ e (fun c o c1 c2 _ x=>hs₂ _ _ c2 (hs₁.extBut _ _ c1 x)) he
 | some x =>
  have hy:ys[k2]? = none:=by rcases xX with h|h;rw[hx]at h;cases h;exact h
  refine wpAny_bind (next_item (h1.at fun o e=>hs₁.extBut _ o D.i1z e) (hl1.at fun o e=>hs₁.extBut _ o D.l1z e) hx fun h₂ h1₂ hs₂=>wpAny_pure (wpAny_pure ?_))
  refine wpAny_bind (wpAny_bind (wpAny_holding ?_));show wpAny _ _ (Builtin.SmallTypes.nextOf (.ref i2) >>= _) _ _ _;refine wpAny_bind (next_end hh (h2.at fun o e=>hs₂.extBut _ o D.i12.symm (hs₁.extBut _ o D.i2z e)) (hl2.at fun o e=>hs₂.extBut _ o D.l2i1 (hs₁.extBut _ o D.l2z e)) hy fun h₃ e hs₃ he=>?_)
  exact fin h₃ e (fun c o c1 c2 c3 x=>hs₃ _ _ c3 (hs₂.extBut _ _ c2 (hs₁.extBut _ _ c1 x))) he
end
structure ZSt(h:Heap)(z TI TO i1 i2 l1 l2 S:Addr)(t1 t2:Bool)(i:Nat):Prop where
 ti:IsPair h TI (.ref i1) (.ref i2)
 s1:aH h t1 i1 l1 i
 s2:aH h t2 i2 l2 i
 st:(IsZip h z TI TO .none/\∃ a b,IsPair h TO a b)\/∃(a:Addr)(f:Bool)(oa:Obj),pH h z TI TO a f/\h.get? a=some oa/\a≠z/\a≠S/\a≠i1/\a≠i2
theorem ZSt.keep{h h':Heap}{z TI TO i1 i2 l1 l2 S:Addr}{t1 t2:Bool}{i:Nat}(x:ZSt h z TI TO i1 i2 l1 l2 S t1 t2 i)(k:∀ b o,b≠S->h.get? b=some o->h'.get? b=some o)(hz:z≠S)(hTI:TI≠S)(hTO:TO≠S)(h1:i1≠S)(h2:i2≠S):ZSt h' z TI TO i1 i2 l1 l2 S t1 t2 i :=
 ⟨k _ _ hTI x.ti,x.s1.at fun o e=>k _ o h1 e,x.s2.at fun o e=>k _ o h2 e,by
  rcases x.st with⟨e,a,b,e2⟩ |⟨a,f,oa,e,e2,n1,n2,n3⟩
  ·exact .inl ⟨k _ _ hz e,a,b,k _ _ hTO e2⟩
  ·exact .inr ⟨a,f,oa,k _ _ hz e,k _ _ n2 e2,n1,n2,n3⟩⟩
structure ZG(xs ys:Array Value)(lo:Nat)(h:Heap)(as:List Addr):Prop where
 rise:as.Pairwise (· < ·)
 above:∀ a∈as,lo<=a
 pairs:∀(j:Nat)(a:Addr),as[j]? = some a->∃ x y,xs[j]? = some x/\ys[j]? = some y/\IsPair h a x y
theorem ZG.there{xs ys:Array Value}{lo:Nat}{h:Heap}{as:List Addr}(g:ZG xs ys lo h as){a:Addr}(ha:a∈as):a<h.objs.size:=by
 obtain⟨j,hj⟩:=List.mem_iff_getElem?.mp ha;obtain⟨_,_,_,_,e⟩:=g.pairs j a hj;exact Heap.lt_size e
section
variable{prog:Program}{w:World}{A:Around}{s:Shared}
theorem JN{E:Value->Shared->Prop}{z TI TO i1 i2 l1 l2 S:Addr}{t1 t2:Bool}{k:Nat}{xs ys:Array Value}{x y:Value}{Q:Option Value->Shared->Prop}(D:ZipApart z TI TO i1 i2 l1 l2)
  (st:ZSt s.heap z TI TO i1 i2 l1 l2 S t1 t2 k) (hS:S<s.heap.objs.size) (hl1:aU s.heap t1 l1 xs) (hl2:aU s.heap t2 l2 ys) (hx:xs[k]? = some x) (hy:ys[k]? = some y)
  (hQ:∀ h',ZSt h' z TI TO i1 i2 l1 l2 S t1 t2 (k+1)->IsPair h' s.heap.objs.size x y->h'.objs.size=s.heap.objs.size+1 ->
   (∀ c o,c≠z->c≠TO->c≠i1->c≠i2->s.heap.get? c=some o->h'.get? c=some o)->Q (some (.ref s.heap.objs.size)) { s with heap:=h' }) :
  wpAny (model prog w) A (pyNext (.ref z)) Q E s:=by
 obtain⟨o1,g1,_⟩:=st.s1.obj;obtain⟨o2,g2,_⟩:=st.s2.obj;rcases st.st with⟨hz,a,b,hTO⟩ |⟨a,f,oa,hz,ha,n1,n2,n3,n4⟩
 ·refine Fh D hz st.ti hTO st.s1 st.s2 hl1 hl2 hx hy fun h' hz' T5 e1 e2 hp hsz hk=>hQ h' ⟨hk _ _ D.TIz D.TITO D.TIi1 D.TIi2 st.ti,e1,e2,.inr ⟨s.heap.objs.size,false,_,hz',hp,?_,?_,?_,?_⟩⟩ hp hsz hk
  ·exact Nat.ne_of_gt (Heap.lt_size hz)
  ·exact Nat.ne_of_gt hS
  ·exact Nat.ne_of_gt (Heap.lt_size g1)
  ·exact Nat.ne_of_gt (Heap.lt_size g2)
 ·exact JS D hz ha st.ti st.s1 st.s2 hl1 hl2 hx hy fun h' hz' e1 e2 hp hsz hk=>hQ h' ⟨hk _ _ D.TIz D.TIi1 D.TIi2 st.ti,e1,e2,.inr ⟨a,true,oa,hz',hk a oa n1 n3 n4 ha,n1,n2,n3,n4⟩⟩ hp hsz fun c o c1 _ c3 c4 e=>hk c o c1 c3 c4 e
theorem JO{E:Value->Shared->Prop}{z TI TO i1 i2 l1 l2 S:Addr}{t1 t2:Bool}{k:Nat}{xs ys:Array Value}{Q:Option Value->Shared->Prop}(hh:A.handled=none)(D:ZipApart z TI TO i1 i2 l1 l2)
  (st:ZSt s.heap z TI TO i1 i2 l1 l2 S t1 t2 k) (hl1:aU s.heap t1 l1 xs) (hl2:aU s.heap t2 l2 ys) (xX:xs[k]? = none\/ys[k]? = none)
  (hQ:∀ h',(∀ c o,c≠z->c≠TO->c≠i1->c≠i2->s.heap.get? c=some o->h'.get? c=some o)->Q none { s with heap:=h' }):wpAny (model prog w) A (pyNext (.ref z)) Q E s:=by
 rcases st.st with⟨hz,a,b,hTO⟩ |⟨a,f,oa,hz,ha,n1,n2,n3,n4⟩
 ·exact JT hh D hz st.ti hTO st.s1 st.s2 hl1 hl2 xX hQ
 ·exact yP hh D hz ha st.ti st.s1 st.s2 hl1 hl2 xX fun h' hk=>hQ h' fun c o c1 _ c3 c4 e=>hk c o c1 c3 c4 e
theorem JP{R:Result->Shared->Prop}{S z TI TO i1 i2 l1 l2:Addr}{t1 t2:Bool}{xs ys:Array Value}{n lo:Nat}(hh:A.handled=none)(D:ZipApart z TI TO i1 i2 l1 l2)(hzS:z≠S)(BU:TI≠S)(xY:TO≠S)(h1S:i1≠S)(h2S:i2≠S)(BS:l1≠S)(BR:l2≠S)
  (oS:S<lo) (oz:z<lo) (oTO:TO<lo) (o1:i1<lo) (o2:i2<lo) (en:n=min xs.size ys.size) (hn:n<=sizeLine) (res:Value) {h₁:Heap}
  (hR:∀ h' tk acc c as,(∀ b o,b≠S->b≠z->b≠TO->b≠i1->b≠i2->h₁.get? b=some o->h'.get? b=some o)->h'.get? S=some { cls:=.type "list",dict:=none,data:=.seq acc c,slots:=#[] }->as.length=n->ZG xs ys lo h' as ->
   acc.toList=as.map Value.ref->R (.ok (.ret res)) { s with heap:=h',toks:=tk }) :
  ∀(k i:Nat)(h:Heap)(tk c:Nat)(acc:Array Value)(as:List Addr),n - i=k->i<=n->ZSt h z TI TO i1 i2 l1 l2 S t1 t2 i->aU h t1 l1 xs->aU h t2 l2 ys ->(∀ b o,b≠S->b≠z->b≠TO->b≠i1->b≠i2->h₁.get? b=some o->h.get? b=some o) ->
   h.get? S=some { cls:=.type "list",dict:=none,data:=.seq acc c,slots:=#[] }->acc.toList=as.map Value.ref->as.length=i->ZG xs ys lo h as->lo<=h.objs.size ->
   codeAny (model prog w) A (.builtin "list.extend.loop" ⟨[.ref S,.ref z,res],[]⟩) R { s with heap:=h,toks:=tk }:=by
 have ne:∀{a b:Nat},a<lo->lo<=b->b≠a:=fun h1 h2=>by omega
 intro k
 induction k with
 | zero =>
  intro i h tk c acc as hk hi hst hL1 hL2 IE hS iA hal hG hIs;have hin:i=n:=by omega
  refine codeAny_builtin PySem.F.entry_extend_loop ?_;rw[Around.under_plainId PySem.F.plain_extend_loop _];show wpAny _ A.in1 (pyNext (.ref z) >>= _) _ _ _;refine wpAny_bind (JO (s:={ s with heap:=h,toks:=tk }) (A:=A.in1) hh D hst hL1 hL2 ?_ fun h' he=>?_)
  ·by_cases q:xs.size<=i
   ·exact .inl (Array.getElem?_eq_none q)
   ·exact .inr (Array.getElem?_eq_none (by omega))
  refine wpAny_pure (hR h' tk acc c as (fun b o b1 b2 b3 b4 b5 e=>he b o b2 b3 b4 b5 (IE b o b1 b2 b3 b4 b5 e)) (he S _ hzS.symm xY.symm h1S.symm h2S.symm hS) (by omega) ⟨hG.rise,hG.above,fun j a hj=>?_⟩ iA)
  obtain⟨x,y,e1,e2,e3⟩:=hG.pairs j a hj;have ab:=hG.above a (List.mem_of_getElem? hj);exact⟨x,y,e1,e2,he a _ (ne oz ab) (ne oTO ab) (ne o1 ab) (ne o2 ab) e3⟩
 | succ k ih =>
  intro i h tk c acc as hk hi hst hL1 hL2 IE hS iA hal hG hIs;have hlt:i<n:=by omega
  obtain⟨x,hx⟩:∃ x,xs[i]? = some x:=⟨xs[i]'(by omega),by simp[show i<xs.size by omega]⟩
  obtain⟨y,hy⟩:∃ y,ys[i]? = some y:=⟨ys[i]'(by omega),by simp[show i<ys.size by omega]⟩
  have hsz:acc.size=i:=by rw[<- Array.length_toList,iA,List.length_map,hal]
  refine codeAny_builtin PySem.F.entry_extend_loop ?_;rw[Around.under_plainId PySem.F.plain_extend_loop _];show wpAny _ A.in1 (pyNext (.ref z) >>= _) _ _ _;refine wpAny_bind (JN (s:={ s with heap:=h,toks:=tk }) (S:=S) D hst (Heap.lt_size hS) hL1 hL2 hx hy fun h' O9 ht hz hkp=>?_)
  dsimp only at ht hz hkp ⊢;have hS':=hkp S _ hzS.symm xY.symm h1S.symm h2S.symm hS;have up:∀ b o,b≠S->h'.get? b=some o ->(h'.update S (Obj.mapSeq (·.push (Value.ref h.objs.size)))).get? b=some o:=fun b o hb e=>(Heap.get?_update_other _ _ (Ne.symm hb)).trans e
  have hSl:S<h.objs.size:=Heap.lt_size hS;show wpAny _ A.in1 (updateSeq S (·.push (Value.ref h.objs.size)) >>= _) _ _ _;refine wpAny_bind ?_;refine wpAny_updateSeq hS' rfl (wpAny_pure ⟨plainId_quiet PySem.F.plain_extend_loop _,ih (i+1) _ tk _ (acc.push (Value.ref h.objs.size)) (as ++ [h.objs.size]) (by first |(rw[Nat.sub_succ];exact congrArg Nat.pred ‹_›)|omega) hlt (O9.keep up hzS BU xY h1S h2S)
   (hL1.at fun o e=>up _ o BS (hkp _ o D.l1z D.l1TO D.l1i1 D.l1i2 e)) (hL2.at fun o e=>up _ o BR (hkp _ o D.l2z D.l2TO D.l2i1 D.l2i2 e))
   (fun b o b1 b2 b3 b4 b5 e=>up b o b1 (hkp b o b2 b3 b4 b5 (IE b o b1 b2 b3 b4 b5 e))) (Heap.get?_update_self _ hS' rfl) (by rw[Array.toList_push,iA,List.map_append];rfl) (by rw[List.length_append,hal];rfl) ⟨?_,?_,?_⟩ ?_⟩) (by rw[hsz];omega) (by show(acc.push (Value.ref h.objs.size)).size<=sizeLine+1;rw[Array.size_push,hsz];omega)
  ·refine List.pairwise_append.mpr ⟨hG.rise,List.pairwise_singleton _ _,fun a ha b hb=>?_⟩
   rw[List.mem_singleton.mp hb];exact hG.there ha
  ·intro a ha;rcases List.mem_append.mp ha with ha|ha
   ·exact hG.above a ha
   ·rw[List.mem_singleton.mp ha];exact hIs
  ·intro j b hj;rcases Nat.lt_trichotomy j as.length with h1|h1|h1
   ·rw[List.getElem?_append_left h1]at hj;obtain⟨x',y',e1,e2,e3⟩:=hG.pairs j b hj;have ab:=hG.above b (List.mem_of_getElem? hj);exact⟨x',y',e1,e2,up b _ (ne oS ab) (hkp b _ (ne oz ab) (ne oTO ab) (ne o1 ab) (ne o2 ab) e3)⟩
   ·subst h1;have hb:h.objs.size=b:=by simpa using hj
    subst hb;exact⟨x,y,by rw[hal];exact hx,by rw[hal];exact hy,up _ _ (Nat.ne_of_gt hSl) ht⟩
   ·have RB:(as ++ [h.objs.size])[j]? = none:=List.getElem?_eq_none (by rw[List.length_append,List.length_singleton];omega)
    rw[RB]at hj;cases hj
  ·have e:(h'.update S (Obj.mapSeq (·.push (Value.ref h.objs.size)))).get? h.objs.size=_:=up _ _ (Nat.ne_of_gt hSl) ht
   have:=Heap.lt_size e
   have Ti:lo<=h.objs.size:=hIs;exact Nat.le_trans Ti (Nat.le_of_lt this)
end
theorem AI:typeLookup (.type "zip") "__len__" = pure none:=by rw[typeLookup_type,builtinLookup_eq_fast];kernel_rfl
theorem yQ:typeLookup (.type "zip") "__length_hint__" = pure none:=by rw[typeLookup_type,builtinLookup_eq_fast];kernel_rfl
section
variable{prog:Program}{w:World}{A:Around}{s:Shared}
theorem Dx{R:Result->Shared->Prop}{S z TI TO i1 i2 l1 l2:Addr}{t1 t2:Bool}{xs ys:Array Value}{n:Nat}(hh:A.handled=none)(D:ZipApart z TI TO i1 i2 l1 l2)(hzS:z≠S)(BU:TI≠S)(xY:TO≠S)(h1S:i1≠S)(h2S:i2≠S)(BS:l1≠S)(BR:l2≠S)
  (hz:IsZip s.heap z TI TO .none) {ta tb:Value} (hTO:IsPair s.heap TO ta tb) (hTI:IsPair s.heap TI (.ref i1) (.ref i2)) (hs1:aH s.heap t1 i1 l1 0) (hs2:aH s.heap t2 i2 l2 0) (hL1:aU s.heap t1 l1 xs) (hL2:aU s.heap t2 l2 ys)
  (en:n=min xs.size ys.size) (hn:n<=sizeLine) (res:Value) (c₀:Nat) (hS:s.heap.get? S=some { cls:=.type "list",data:=.seq #[] c₀ })
  (hR:∀ h' tk acc c as,(∀ b o,b≠S->b≠z->b≠TO->b≠i1->b≠i2->s.heap.get? b=some o->h'.get? b=some o)->h'.get? S=some { cls:=.type "list",dict:=none,data:=.seq acc c,slots:=#[] }->as.length=n->ZG xs ys s.heap.objs.size h' as ->
   acc.toList=as.map Value.ref->R (.ok (.ret res)) { s with heap:=h',toks:=tk }) :
  wpAny (model prog w) A.in1 (Builtin.List.listExtendWith (.ref S) (.ref z) res)
   (fun fin s'=>match fin with | .done f=>R (.ok f) s' | .again c'=>c'.quiet=true/\codeAny (model prog w) A c' R s') (fun e s'=>R (.error e) s') s:=by
 have hT:s.TypeIs (.ref z) "zip":=⟨_,hz,rfl⟩;obtain⟨ob1,g1,_⟩:=hs1.obj;obtain⟨ob2,g2,_⟩:=hs2.obj;unfold Builtin.List.listExtendWith;refine wpAny_bind (wpAny_typeOf hT ?_);have e1:Builtin.List.listSameRef (.ref S) (.ref z)=false:=by simp[Builtin.List.listSameRef,hzS.symm]
 have e2:(Value.type "zip" == Value.type "list")=false:=by decide
 have e3:(Value.type "zip" == Value.type "tuple")=false:=by decide
 simp only[e1,e2,e3,Bool.or_false,Bool.false_eq_true,if_false];refine wpAny_bind (wpAny_pyIter_zip hz ?_);refine wpAny_bind (wpAny_holding ?_);unfold Builtin.List.listLengthHint;refine wpAny_bind (wpAny_specialOf hT AI ?_);show wpAny _ A.in1 (specialOf (Value.ref z) (Str.ofString "__length_hint__") >>= _) _ _ _;refine wpAny_bind (wpAny_specialOf hT yQ ?_);refine wpAny_pure ?_;show wpAny _ A.in1 (rule "list.extend.makes-room" >>= fun _=>Builtin.List.listTouch (.ref S) >>= fun _ =>
  again (.builtin "list.extend.loop" ⟨[.ref S,.ref z,res],[]⟩)) _ _ _
 refine wpAny_bind (wpAny_rule ?_);refine wpAny_bind ?_;show wpAny _ A.in1 (updateSeq S (·.push .none) >>= fun _=>updateSeq S (·.pop)) _ _ _
 refine wpAny_bind (wpAny_updateSeq hS rfl ?_);have hS₂:=Heap.get?_update_self (Obj.mapSeq (·.push Value.none)) hS rfl;refine wpAny_updateSeq (hz:=by seq_fits) hS₂ rfl ?_
 have hS₃:=Heap.get?_update_self (Obj.mapSeq (·.pop)) hS₂ rfl;have oth:∀ b o,b≠S->s.heap.get? b=some o ->((s.heap.update S (Obj.mapSeq (·.push Value.none))).update S (Obj.mapSeq (·.pop))).get? b=some o :=
  fun b o hb e=>(Heap.get?_update_other _ _ (Ne.symm hb)).trans ((Heap.get?_update_other _ _ (Ne.symm hb)).trans e)
 have hsz:((s.heap.update S (Obj.mapSeq (·.push Value.none))).update S (Obj.mapSeq (·.pop))).objs.size=s.heap.objs.size:=by
  rw[(Heap.SameBut.update (h:=s.heap.update S (Obj.mapSeq (·.push Value.none))) (a:=S) ..).1,(Heap.SameBut.update (h:=s.heap) (a:=S) ..).1]
 refine wpAny_pure ⟨plainId_quiet F.plain_extend_loop _,JP (s:=s) (h₁:=s.heap) (t1:=t1) (t2:=t2) (xs:=xs) (ys:=ys) (n:=n) (lo:=s.heap.objs.size) hh D hzS BU xY h1S h2S BS BR (Heap.lt_size hS) (Heap.lt_size hz) (Heap.lt_size hTO) (Heap.lt_size g1) (Heap.lt_size g2) en hn res hR n 0 _ _ _ _ [] (by omega) (Nat.zero_le _)
  ⟨oth _ _ BU hTI,hs1.at fun o e=>oth _ o h1S e,hs2.at fun o e=>oth _ o h2S e,.inl ⟨oth _ _ hzS hz,ta,tb,oth _ _ xY hTO⟩⟩ (hL1.at fun o e=>oth _ o BS e) (hL2.at fun o e=>oth _ o BR e) (fun b o b1 _ _ _ _ e=>oth b o b1 e) hS₃ rfl rfl ⟨List.Pairwise.nil,fun _ z=>(nomatch z),fun j a hj=>by simp at hj⟩ (by rw[hsz];exact Nat.le_refl _)⟩
theorem JQ{R:Result->Shared->Prop}{S z TI TO i1 i2 l1 l2:Addr}{t1 t2:Bool}{xs ys:Array Value}{n:Nat}(hh:A.handled=none)(D:ZipApart z TI TO i1 i2 l1 l2)(hzS:z≠S)(BU:TI≠S)(xY:TO≠S)(h1S:i1≠S)(h2S:i2≠S)(BS:l1≠S)(BR:l2≠S)
  (hz:IsZip s.heap z TI TO .none) {ta tb:Value} (hTO:IsPair s.heap TO ta tb) (hTI:IsPair s.heap TI (.ref i1) (.ref i2)) (hs1:aH s.heap t1 i1 l1 0) (hs2:aH s.heap t2 i2 l2 0) (hL1:aU s.heap t1 l1 xs) (hL2:aU s.heap t2 l2 ys)
  (en:n=min xs.size ys.size) (hn:n<=sizeLine) (hS:s.heap.get? S=some { cls:=.type "list",data:=.seq #[] })
  (hR:∀ h' tk acc c as,(∀ b o,b≠S->b≠z->b≠TO->b≠i1->b≠i2->s.heap.get? b=some o->h'.get? b=some o)->h'.get? S=some { cls:=.type "list",dict:=none,data:=.seq acc c,slots:=#[] }->as.length=n->ZG xs ys s.heap.objs.size h' as ->
   acc.toList=as.map Value.ref->R (.ok (.ret .none)) { s with heap:=h',toks:=tk }) :
  wpAny (model prog w) A.in1 (Builtin.«list.__init__» ⟨[.ref S,.ref z],[]⟩)
   (fun fin s'=>match fin with | .done f=>R (.ok f) s' | .again c'=>c'.quiet=true/\codeAny (model prog w) A c' R s') (fun e s'=>R (.error e) s') s:=by
 show wpAny _ _ (do let old <- Builtin.List.listItems (.ref S);Builtin.List.listUpdate (.ref S) (fun _=>#[]);letGo old.toList.reverse;Builtin.List.listExtendWith (.ref S) (.ref z) .none) _ _ s
 refine wpAny_bind ?_;unfold Builtin.List.listItems;refine wpAny_bind (wpAny_seqItems hS rfl (wpAny_pure ?_));show wpAny _ _ (updateSeq S (fun _=>#[]) >>= fun _=>letGo (#[]:Array Value).toList.reverse >>= fun _=>Builtin.List.listExtendWith (.ref S) (.ref z) .none) _ _ s
 refine wpAny_bind (wpAny_updateSeq hS rfl ?_);have hS₂:=Heap.get?_update_self (Obj.mapSeq (fun _=>(#[]:Array Value))) hS rfl
 have oth:∀ b o,b≠S->s.heap.get? b=some o ->(s.heap.update S (Obj.mapSeq (fun _=>(#[]:Array Value)))).get? b=some o :=
  fun b o hb e=>(Heap.get?_update_other _ _ (Ne.symm hb)).trans e
 have hsz:(s.heap.update S (Obj.mapSeq (fun _=>(#[]:Array Value)))).objs.size=s.heap.objs.size:=(Heap.SameBut.update (h:=s.heap) (a:=S) ..).1
 refine wpAny_bind (wpAny_letGo ?_);refine Dx (xs:=xs) (ys:=ys) (n:=n) hh D hzS BU xY h1S h2S BS BR (oth _ _ hzS hz) (oth _ _ xY hTO) (oth _ _ BU hTI) (hs1.at fun o e=>oth _ o h1S e) (hs2.at fun o e=>oth _ o h2S e) (hL1.at fun o e=>oth _ o BS e) (hL2.at fun o e=>oth _ o BR e) en hn .none _ hS₂ (fun h' tk acc c as hk hS' hl hG iA=>?_)
 dsimp only at hG;rw[hsz]at hG;exact hR h' tk acc c as (fun b o b1 b2 b3 b4 b5 e=>hk b o b1 b2 b3 b4 b5 (oth b o b1 e)) hS' hl hG iA
theorem JR{E:Value->Shared->Prop}{Q:Value->Shared->Prop}{z TI TO i1 i2 l1 l2:Addr}{t1 t2:Bool}{xs ys:Array Value}{n:Nat}(hh:A.handled=none)(D:ZipApart z TI TO i1 i2 l1 l2)
  (hz:IsZip s.heap z TI TO .none) {ta tb:Value} (hTO:IsPair s.heap TO ta tb) (hTI:IsPair s.heap TI (.ref i1) (.ref i2)) (hs1:aH s.heap t1 i1 l1 0) (hs2:aH s.heap t2 i2 l2 0) (hL1:aU s.heap t1 l1 xs) (hL2:aU s.heap t2 l2 ys)
  (en:n=min xs.size ys.size) (hn:n<=sizeLine)
  (hQ:∀ h' tk acc c as,(∀ b o,b≠z->b≠TO->b≠i1->b≠i2->s.heap.get? b=some o->h'.get? b=some o)->h'.get? s.heap.objs.size=some { cls:=.type "list",dict:=none,data:=.seq acc c,slots:=#[] }->as.length=n->ZG xs ys (s.heap.objs.size+1) h' as ->
   acc.toList=as.map Value.ref->Q (.ref s.heap.objs.size) { s with heap:=h',toks:=tk }) :
  wpAny (model prog w) A (call (.type "list") [.ref z]) Q E s:=by
 refine callType_codes (Q₁:=fun obj s₁=>obj = .ref s.heap.objs.size/\s₁ ={ s with heap:=s.heap.push { cls:=.type "list",data:=.seq #[] } }) PySem.F.called_list (PySem.F.typeCall_list_1 _) PySem.F.entry_list_init
  (code_list_new _ ⟨rfl,rfl⟩) fun obj s₁ h₁=>?_
 obtain⟨rfl,rfl⟩:=h₁;have hS:(s.heap.push { cls:=.type "list",data:=.seq #[] }).get? s.heap.objs.size=some { cls:=.type "list",data:=.seq #[] }:=Heap.get?_push_size _ rfl;obtain⟨ob1,g1,_⟩:=hs1.obj;obtain⟨ob2,g2,_⟩:=hs2.obj;obtain⟨ob3,g3⟩:=hL1.obj;obtain⟨ob4,g4⟩:=hL2.obj;have up:∀ b o,s.heap.get? b=some o ->(s.heap.push { cls:=.type "list",data:=.seq #[] }).get? b=some o:=fun b o e=>Heap.get?_push_of_some _ e
 refine⟨⟨_,hS,rfl⟩,PySem.F.args_list_init_2 _ _,JQ (A:=A.in1) (xs:=xs) (ys:=ys) (n:=n) hh D (Nat.ne_of_lt (Heap.lt_size hz)) (Nat.ne_of_lt (Heap.lt_size hTI)) (Nat.ne_of_lt (Heap.lt_size hTO)) (Nat.ne_of_lt (Heap.lt_size g1)) (Nat.ne_of_lt (Heap.lt_size g2)) (Nat.ne_of_lt (Heap.lt_size g3)) (Nat.ne_of_lt (Heap.lt_size g4))
  (up _ _ hz) (up _ _ hTO) (up _ _ hTI) (hs1.at fun o e=>up _ o e) (hs2.at fun o e=>up _ o e) (hL1.at fun o e=>up _ o e) (hL2.at fun o e=>up _ o e) en hn hS (fun h' tk acc c as hk hS' hl hG iA=>?_)⟩
 dsimp only at hG;rw[Heap.size_push]at hG;exact⟨rfl,hQ h' tk acc c as (fun b o b2 b3 b4 b5 e=>hk b o (Nat.ne_of_lt (Heap.lt_size e)) b2 b3 b4 b5 (up b o e)) hS' hl hG iA⟩
end
def tU(h:Heap)(m:Nat):Heap:={ h with objs:=h.objs.extract 0 m }
theorem nH{h:Heap}{m b:Nat}(hb:b<m):(tU h m).get? b=h.get? b:=by
 unfold tU Heap.get?;have e:(h.objs.extract 0 m)[b]? = h.objs[b]?:=by
  rw[Array.getElem?_extract];by_cases q:b<h.objs.size
  ·rw[if_pos (by have:b<m:=hb;omega),Nat.zero_add]
  ·rw[if_neg (by omega),Array.getElem?_eq_none (by omega)]
 simp only[e]
theorem tT{h:Heap}{m:Nat}(hm:m<=h.objs.size):(tU h m).objs.size=m:=by
 unfold tU;rw[Array.size_extract];omega
theorem Mm{h:Heap}{m:Nat}{b:Addr}{u:Obj}(hm:m<=h.objs.size)(e:(tU h m).get? b=some u):h.get? b=some u:=by
 have:=Heap.lt_size e
 rw[tT hm]at this;rw[<- nH this];exact e
def lV(H:Hp):List (Addr×HO)->Hp
 | []=>H
 | p::r=>lV (upd H p.1 p.2) r
theorem ou:∀{os:List (Addr×HO)}{H:Hp}{c:Addr},c ∉ os.map (·.1)->lV H os c=H c
 | [],_,_,_=>rfl
 | p::r,H,c,h=>by
  show lV (upd H p.1 p.2) r c=H c;rw[ou (fun z=>h (List.mem_cons_of_mem _ z)),ag fun z=>h (by rw[z];exact List.mem_cons_self)]
theorem ow:∀{os:List (Addr×HO)}{H:Hp}{p:Addr×HO},(os.map (·.1)).Nodup->p∈os->lV H os p.1=some p.2
 | q::r,H,p,hn,hp=>by
  have h':=List.nodup_cons.mp hn;show lV (upd H q.1 q.2) r p.1=some p.2;rcases List.mem_cons.mp hp with rfl|hp
  ·rw[ou h'.1,ao]
  ·exact ow h'.2 hp
theorem yT:∀ as:List Addr,Vals (as.map V.ref) (as.map Value.ref)
 | []=>.nil
 | a::r=>.cons rfl (yT r)
theorem Inv.H0{X:Cx}{pins:List (Addr×Obj)}{σ:St}{s:Shared}{h':Heap}:∀{os:List (Addr×HO)}{H:Hp}{m:Nat},Inv X pins σ H { s with heap:=tU h' m }->m<=h'.objs.size ->(os.map (·.1)).Pairwise (· < ·) ->(∀ p∈os,m<=p.1/\p.1<h'.objs.size) ->
  (∀ p∈os,∀(H2:Hp)(hh:Heap),hh.get? p.1=h'.get? p.1->bK X.prog X.w H2 hh p.1 p.2)->Inv X pins σ (lV H os) { s with heap:=h' }
 | [],H,m,I,hm,_,_,_=>I.kept (t':=s.toks) fun b u e=>Mm hm e
 | p::r,H,m,I,hm,hp,hb,ho=>by
  have hp':=List.pairwise_cons.mp hp;obtain⟨b1,b2⟩:=hb p List.mem_cons_self;have b2':p.1+1<=h'.objs.size:=b2;have I2:Inv X pins σ (upd H p.1 p.2) { s with heap:=tU h' (p.1+1) }:=by
   refine I.laid (t':=s.toks) (h':=tU h' (p.1+1)) (fun b u e=>?_) ?_ (ho p List.mem_cons_self _ _ (nH (Nat.lt_succ_self _)))
   ·have lt:=Heap.lt_size e;have lt:b<(tU h' m).objs.size:=lt;rw[tT hm]at lt;have lt2:b<p.1+1:=Nat.lt_of_lt_of_le lt (Nat.le_trans b1 (Nat.le_succ _));rw[nH lt2,<- nH lt];exact e
   ·show(tU h' m).objs.size<=p.1;rw[tT hm];exact b1
  show Inv X pins σ (lV (upd H p.1 p.2) r) _;exact Inv.H0 (os:=r) (H:=upd H p.1 p.2) I2 b2' hp'.2 (fun q hq=>⟨hp'.1 q.1 (List.mem_map.mpr ⟨q,hq,rfl⟩),(hb q (List.mem_cons_of_mem _ hq)).2⟩) fun q hq=>ho q (List.mem_cons_of_mem _ hq)
def rG(K:W.Frag)(tl:TA):TE:=fun σ H R=>tl σ H fun vs H1=>∃ l1 l2 xs ys,vs = [.ref l1,.ref l2]/\SqT K H1 l1 xs/\SqT K H1 l2 ys/\∀(H2:Hp)(L:Addr)(ps:List Addr),H1 L=none->ps.length=min xs.length ys.length->ps.Nodup ->(∀ p∈ps,H1 p=none/\p≠L) ->(∀ c,c ∉ ps->c≠L->H2 c=H1 c)->H2 L=some (.lst (ps.map V.ref)) ->(∀(j:Nat) p x y,ps[j]? = some p->xs[j]? = some x->ys[j]? = some y->H2 p=some (.tup [x,y]))->R (.ref L) H2
section
variable{X:Cx}{a b:Expr}{tl:TA}{pos p gE p2:Pos}
theorem Bc(hg:Gl X "list")(hm:X.mg "list" = none)(hg2:Gl X "zip")(hm2:X.mg "zip" = none)(ha:PA X [a,b] tl)(hs:starEach [a,b] X.env = [(false,eval a X.env),(false,eval b X.env)])(hs2:starEach [b] X.env = [(false,eval b X.env)])
  (hs3:starEach [.Call (.Name "zip" p2) [a,b] [] gE] X.env =(false,eval (.Call (.Name "zip" p2) [a,b] [] gE) X.env)::starEach [] X.env) (hc:X.calm=true) :
  PE X (.Call (.Name "list" p) [.Call (.Name "zip" p2) [a,b] [] gE] [] pos) (rG X.K tl):=by
 intro pins s σ H R I h;refine Call_ (iZ I hg hm (by kernel_rfl) (PyProof.Rows.callWith_type1 (T:="list") ?_ hs3 (by rfl)))
 rw[hs3];refine Calls.spliced_cons ?_;refine Call_ (iZ I hg2 hm2 (by kernel_rfl) (PyProof.Rows.callWith_type1 (T:="zip") (thn (ha gE pins s σ H _ I h) fun us s1 ⟨vs,H1,I1,r1,q1⟩=>?_) (by rw[hs,hs2]) (by rw[hs2];rfl)))
 obtain⟨l1,l2,xs,ys,e,q2,q3,q⟩:=q1;subst e;obtain⟨u1,u2,rfl,ru1,ru2⟩:=vals2 r1;cases ru1;cases ru2;obtain⟨SY,rv1,o1,z1⟩:=I1.Gn (tp:=true) q2;obtain⟨eU,rv2,o2,z2⟩:=I1.Gn (tp:=true) q3;obtain⟨ob1,e1⟩:=o1.obj;obtain⟨ob2,e2⟩:=o2.obj;have g1:l1<s1.heap.objs.size:=Heap.lt_size e1;have g2:l2<s1.heap.objs.size:=Heap.lt_size e2;refine yj o1 o2 fun h1 hz hTI hTO hi1 hi2 hk=>?_
 refine Calls.spliced_nil ?_;have nz:s1.heap.objs.size+4<h1.objs.size:=Heap.lt_size hz;have rl1:=rv1.length;have rl2:=rv2.length;refine JR (t1:=true) (t2:=true) (xs:=SY.toArray) (ys:=eU.toArray) (n:=min xs.length ys.length) (I1.ok.hd hc) (yR g1 g2) hz hTO hTI hi1 hi2 (o1.at fun o e=>hk _ o e) (o2.at fun o e=>hk _ o e) (by simp[rl1,rl2]) (by omega) fun h' tk acc c as hk' hS hl hG iA=>?_
 have fr:∀ b u,s1.heap.get? b=some u->h'.get? b=some u:=fun b u e=>by
  have lt:b<s1.heap.objs.size:=Heap.lt_size e;have ne:∀ m:Nat,s1.heap.objs.size<=m->b≠m:=fun m hm z=>absurd (z▸lt:m<s1.heap.objs.size) (by omega)
  exact hk' b u (ne _ (by omega)) (ne _ (by omega)) (ne _ (Nat.le_refl _)) (ne _ (by omega)) (hk b u e)
 have I2:Inv X pins σ H1 { s1 with heap:=tU h' s1.heap.objs.size,toks:=tk }:=I1.kept (t':=tk) fun b u e=>by rw[nH (Heap.lt_size e)];exact fr b u e
 have lS:h1.objs.size<h'.objs.size:=Heap.lt_size hS;have keys:(((h1.objs.size,HO.lst (as.map V.ref)) ::(as.zip (xs.zip ys)).map fun p=>(p.1,HO.tup [p.2.1,p.2.2])).map (·.1))=h1.objs.size::as:=by
  rw[List.map_cons,List.map_map]
  congr 1
  have:((fun x:Addr×HO=>x.1) ∘ fun p:Addr×V×V=>(p.1,HO.tup [p.2.1,p.2.2]))=Prod.fst:=rfl
  rw[this,List.map_fst_zip (by rw[List.length_zip];omega)]
 have pw:(h1.objs.size::as).Pairwise (· < ·):=List.pairwise_cons.mpr ⟨fun a ha=>hG.above a ha,hG.rise⟩
 have at':∀(j:Nat)(p:Addr×V×V),(as.zip (xs.zip ys))[j]? = some p->as[j]? = some p.1/\xs[j]? = some p.2.1/\ys[j]? = some p.2.2:=fun j p hp=>by
  have h1:=List.getElem?_zip_eq_some.mp hp;have h2:=List.getElem?_zip_eq_some.mp h1.2;exact⟨h1.1,h2.1,h2.2⟩
 have I3:=Inv.H0 (X:=X) (s:={ s1 with toks:=tk }) (m:=s1.heap.objs.size) (h':=h') (os:=(h1.objs.size,HO.lst (as.map V.ref)) ::(as.zip (xs.zip ys)).map fun p=>(p.1,HO.tup [p.2.1,p.2.2])) I2 (by omega) (by rw[keys];exact pw) (fun p hp=>?_) (fun p hp H2 hh e=>?_)
 ·have nd:(h1.objs.size::as).Nodup:=pw.imp fun h=>Nat.ne_of_lt h
  have nd':=List.nodup_cons.mp nd;refine⟨.ref h1.objs.size,_,I3,rfl,q _ h1.objs.size as (I1.hok.fresh (by omega)) hl nd'.2 (fun p hp=>⟨I1.hok.fresh ?_,fun z=>nd'.1 (z▸hp)⟩) (fun c c1 c2=>?_) ?_ (fun j p x y hp hx hy=>?_)⟩
  ·have:=hG.above p hp
   exact Nat.le_trans (show s1.heap.objs.size<=h1.objs.size+1 by omega) this
  ·exact ou (by rw[keys];exact fun z=>(List.mem_cons.mp z).elim c2 c1)
  ·exact ow (p:=(h1.objs.size,HO.lst (as.map V.ref))) (by rw[keys];exact nd) List.mem_cons_self
  ·have hz:(as.zip (xs.zip ys))[j]? = some (p,x,y):=List.getElem?_zip_eq_some.mpr ⟨hp,List.getElem?_zip_eq_some.mpr ⟨hx,hy⟩⟩;exact ow (p:=(p,HO.tup [x,y])) (by rw[keys];exact nd) (List.mem_cons_of_mem _ (List.mem_map.mpr ⟨_,List.mem_of_getElem? hz,rfl⟩))
 ·have:p.1∈h1.objs.size::as:=by rw[<- keys];exact List.mem_map.mpr ⟨p,hp,rfl⟩
  rcases List.mem_cons.mp this with z|z
  ·rw[z];exact⟨by omega,lS⟩
  ·have ab:=hG.above p.1 z;exact⟨Nat.le_trans (show s1.heap.objs.size<=h1.objs.size+1 by omega) ab,hG.there z⟩
 ·rcases List.mem_cons.mp hp with rfl|hp
  ·refine⟨by rw[List.length_map];omega,acc.toList,c,by rw[iA];exact yT as,?_⟩
   rw[e];exact hS
  ·obtain⟨t,ht,rfl⟩:=List.mem_map.mp hp;obtain⟨j,hj⟩:=List.getElem?_of_mem ht;obtain⟨a1,a2,a3⟩:=at' j t hj;obtain⟨x,y,x1,y1,pr⟩:=hG.pairs j t.1 a1;obtain⟨u1,w1,r1⟩:=rv1.get a2;obtain⟨u2,w2,r2⟩:=rv2.get a3;rw[List.getElem?_toArray,w1]at x1;cases x1;rw[List.getElem?_toArray,w2]at y1;cases y1;have pr':hh.get? t.1=_:=e.trans pr;exact⟨by show 2<=sizeLine;decide,[x,y],.cons r1 (.cons r2 .nil),⟨⟨_,pr',rfl,_,rfl⟩,_,pr',rfl⟩⟩
end
section
variable{prog:Program}{w:World}{A:Around}{E:Value->Shared->Prop}{s:Shared}
theorem EN{e it l:Addr}{tp:Bool}{i:Nat}{items:Array Value}{x old:Value}{Q:Option Value->Shared->Prop}
  (he:IsEnum s.heap e it i old) (hit:aH s.heap tp it l i) (hl:aU s.heap tp l items) (hx:items[i]? = some x) (hne:e≠it)
  (hQ:∀ h',IsEnumOut h' e it ((i:Int)+1) x s.heap.objs.size->aH h' tp it l (i+1)->h'.get? s.heap.objs.size=some { cls:=.type "tuple",data:=.seq #[.int i s.toks,x] }->h'.objs.size=s.heap.objs.size+1 ->
   (∀ b o,b≠e->b≠it->s.heap.get? b=some o->h'.get? b=some o)->Q (some (.ref s.heap.objs.size)) { s with heap:=h',toks:=s.toks+1 }):wpAny (model prog w) A (pyNext (.ref e)) Q E s:=by
 have hT:s.TypeIs (.ref e) "enumerate":=⟨_,he,rfl⟩;obtain⟨hp,g,d,tk,os⟩:=s;unfold pyNext;refine wpAny_bind (wpAny_attempt (wpAny_callSpecial?_slot (name:=Str.ofString "__next__") hT F.slot_enumerate_next (wpAny_call_entry F.slot_enumerate_next hT F.entry_enumerate_next ?_ (F.args_enumerate_next_1 _))));show wpAny _ _ (field (.ref e) 2 >>= _) _ _ _;refine wpAny_bind (wpAny_field he rfl (x:=.ref it) rfl ?_);refine wpAny_bind (next_item hit hl hx fun h1 Te hs1=>?_)
 have he1:IsEnum h1 e it i old:=(hs1.2 e hne).trans he;show wpAny _ _ (field (.ref e) 3 >>= _) _ _ ⟨h1,g,d,tk,os⟩;refine wpAny_bind (wpAny_field he1 rfl (x:=rawInt i) rfl ?_);show wpAny _ _ (field (.ref e) 4 >>= _) _ _ ⟨h1,g,d,tk,os⟩;refine wpAny_bind (wpAny_field he1 rfl (x:=.none) rfl ?_);show wpAny _ _ (mkInt i >>= _) _ _ ⟨h1,g,d,tk,os⟩;refine wpAny_bind (wpAny_mkInt ?_);show wpAny _ _ (setField (.ref e) 3 (rawInt ((i:Int)+1)) >>= _) _ _ ⟨h1,g,d,tk+1,os⟩;refine wpAny_bind (wpAny_setField_rec he1 (by simp) fun h2 he2 hs2=>?_)
 replace hs2:Heap.SameBut e h1 h2:=hs2
 replace he2:IsEnum h2 e it ((i:Int)+1) old:=he2
 show wpAny _ _ (setField (.ref e) 4 .none >>= _) _ _ ⟨h2,g,d,tk+1,os⟩;refine wpAny_bind (wpAny_setField_rec he2 (by simp) fun h3 he3 hs3=>?_)
 replace hs3:Heap.SameBut e h2 h3:=hs3
 replace he3:IsEnum h3 e it ((i:Int)+1) old:=he3
 show wpAny _ _ (newTuple [.int i tk,x] >>= _) _ _ ⟨h3,g,d,tk+1,os⟩;refine wpAny_bind (wpAny_newTuple ?_);have he4:IsEnum (h3.push { cls:=.type "tuple",data:=.seq #[.int i tk,x] }) e it ((i:Int)+1) old:=Heap.get?_push_of_some _ he3;have hsz:h3.objs.size=hp.objs.size:=by rw[hs3.1,hs2.1,hs1.1]
 have hel:e<hp.objs.size:=Heap.lt_size he;have ht4:(h3.push { cls:=.type "tuple",data:=.seq #[.int i tk,x] }).get? hp.objs.size=some { cls:=.type "tuple",data:=.seq #[.int i tk,x] }:=by rw[<- hsz];exact Heap.get?_push_size _ rfl
 have hz4:(h3.push { cls:=.type "tuple",data:=.seq #[.int i tk,x] }).objs.size=hp.objs.size+1:=by rw[Heap.size_push,hsz]
 have hk4:∀ b o,b≠e->b≠it->hp.get? b=some o ->(h3.push { cls:=.type "tuple",data:=.seq #[.int i tk,x] }).get? b=some o:=fun b o hbe hbi hb=>Heap.get?_push_of_some _ (hs3.extBut b o hbe (hs2.extBut b o hbe (hs1.extBut b o hbi hb)))
 have RG:aH (h3.push { cls:=.type "tuple",data:=.seq #[.int i tk,x] }) tp it l (i+1):=Te.at fun o eo=>Heap.get?_push_of_some _ (hs3.extBut _ o hne.symm (hs2.extBut _ o hne.symm eo))
 generalize h3.push { cls:=.type "tuple",data:=.seq #[.int i tk,x] }=h4 at he4 ht4 hz4 hk4 RG
 show wpAny _ _ (Builtin.SmallTypes.ownedTupleIsFree (.ref e) >>= _) _ _ ⟨h4,g,d,tk+1,os⟩;rw[hsz];refine wpAny_bind ?_;unfold Builtin.SmallTypes.ownedTupleIsFree;refine wpAny_bind (wpAny_field he4 rfl (x:=.none) rfl (wpAny_pure ?_));simp only[if_true];refine wpAny_bind (wpAny_rule ?_);refine wpAny_bind (wpAny_field he4 rfl (x:=old) rfl ?_);refine wpAny_bind (wpAny_setField_rec he4 (by simp) fun h5 he5 hs5=>?_)
 replace hs5:Heap.SameBut e h4 h5:=hs5
 replace he5:IsEnum h5 e it ((i:Int)+1) x:=he5
 show wpAny _ _ (Builtin.SmallTypes.ownedTupleHandOut (.ref e) (.ref hp.objs.size) >>= _) _ _ ⟨h5,g,d,tk+1,os⟩;refine wpAny_bind ?_;unfold Builtin.SmallTypes.ownedTupleHandOut;refine wpAny_bind (wpAny_setField_rec he5 (by simp) fun h6 he6 hs6=>?_)
 replace hs6:Heap.SameBut e h5 h6:=hs6
 replace he6:IsEnumOut h6 e it ((i:Int)+1) x hp.objs.size:=he6
 refine wpAny_setField_rec he6 (by simp) fun h7 he7 hs7=>?_
 replace hs7:Heap.SameBut e h6 h7:=hs7
 replace he7:IsEnumOut h7 e it ((i:Int)+1) x hp.objs.size:=he7
 have up:∀ c o,c≠e->h4.get? c=some o->h7.get? c=some o:=fun c o hc z=>hs7.extBut _ _ hc (hs6.extBut _ _ hc (hs5.extBut _ _ hc z))
 refine wpAny_bind (wpAny_letGo (wpAny_pure ⟨_,rfl,wpAny_pure (hQ h7 he7 (RG.at fun o eo=>up _ o hne.symm eo) (up _ _ (Nat.ne_of_gt hel) ht4) ?_ fun b o hbe hbi hb=>up b o hbe (hk4 b o hbe hbi hb))⟩))
 rw[hs7.1,hs6.1,hs5.1,hz4]
theorem IV{e it l:Addr}{tp:Bool}{i:Nat}{items:Array Value}{old:Value}{Q:Option Value->Shared->Prop}(hh:A.handled=none)
  (he:IsEnum s.heap e it i old) (hit:aH s.heap tp it l i) (hl:aU s.heap tp l items) (hx:items[i]? = none) (hQ:∀ h',Heap.ExtBut it s.heap h'->Q none { s with heap:=h' }):wpAny (model prog w) A (pyNext (.ref e)) Q E s:=by
 have hT:s.TypeIs (.ref e) "enumerate":=⟨_,he,rfl⟩;unfold pyNext;refine wpAny_bind (wpAny_attempt (wpAny_callSpecial?_slot (name:=Str.ofString "__next__") hT F.slot_enumerate_next (wpAny_call_entry F.slot_enumerate_next hT F.entry_enumerate_next ?_ (F.args_enumerate_next_1 _))));show wpAny _ _ (field (.ref e) 2 >>= _) _ _ _;refine wpAny_bind (wpAny_field he rfl (x:=.ref it) rfl ?_);refine wpAny_bind (next_end hh hit hl hx fun h' x he' hx'=>?_)
 obtain⟨o,ho,hc⟩:=hx';refine wpAny_bind (wpAny_isInstance (T:="StopIteration") (b:=true) ⟨o,ho,hc⟩ isSubtype_stop ?_);exact wpAny_pure (hQ _ he')
abbrev eH1(tp:Bool)(h:Heap)(l:Addr):Heap:=h.push { cls:=.type (itc tp),data:=.fields #[.ref l,.int 0 0] }
abbrev eH2(tp:Bool)(h:Heap)(l:Addr):Heap:=(eH1 tp h l).push { cls:=.type "enumerate",data:=.fields #[.none,.bool false,.ref h.objs.size,rawInt 0,.none,.none] }
theorem sI(tp:Bool)(l:Addr)(xs:Array Value) :
  Meets (Builtin.«enumerate.__new__» ⟨[.type "enumerate",.ref l],[]⟩) (fun _ R s=>aU s.heap tp l xs/\R (.ok (.ret (.ref (eH1 tp s.heap l).objs.size))) { s with heap:=eH2 tp s.heap l }) :=
 .of_wp fun prog w A R s h=>by
  obtain⟨hp,g,d,tk,os⟩:=s;obtain⟨hl,h⟩:=h;have BQ:=sub_enumerate;have hL:aU (Shared.heap ⟨hp,g,d,tk,os⟩) tp l xs:=hl
  wp_walk
  refine wpAny_stack_any fun st=>wpAny_pure ?_
  split
  ·rename_i c _ _ _ _ _
   cases(c==Value.type "enumerate")
   ·wp_walk using jX hL
    exact⟨_,rfl,h⟩
   ·wp_walk using jX hL
    exact⟨_,rfl,h⟩
  ·wp_walk using jX hL
   exact⟨_,rfl,h⟩
theorem vv{tp:Bool}{l:Addr}{xs:Array Value}{Q:Value->Shared->Prop}(hl:aU s.heap tp l xs)
  (h:∀ h',IsEnum h' (s.heap.objs.size+1) s.heap.objs.size 0 .none->aH h' tp s.heap.objs.size l 0 ->(∀ b o,s.heap.get? b=some o->h'.get? b=some o)->Q (.ref (s.heap.objs.size+1)) { s with heap:=h' }) :
  wpAny (model prog w) A (call (.type "enumerate") [.ref l]) Q E s:=by
 refine callType_new F.called_enumerate (by decide) (F.typeCall_enumerate_1 _) (F.newCall_enumerate_1 _) (fun obj=>F.args_object_init_2 obj _) F.entry_enumerate_new (sI tp l xs) ⟨hl,?_⟩
 have z1:(eH1 tp s.heap l).objs.size=s.heap.objs.size+1:=Heap.size_push ..;have g2:(eH2 tp s.heap l).get? (eH1 tp s.heap l).objs.size=some _:=Heap.get?_push_size _ rfl;have g1:(eH2 tp s.heap l).get? s.heap.objs.size=some _:=Heap.get?_push_of_some _ (Heap.get?_push_size _ rfl);show _/\_;rw[z1]at g2 ⊢;exact⟨⟨_,g2,rfl⟩,h _ g2 (jM g1) fun c o x=>Heap.get?_push_of_some _ (Heap.get?_push_of_some _ x)⟩
end
def Ite(K:W.Frag)(tp:Bool)(l:Addr):It :=
 ⟨fun i H=>∃ xs x,SqB K tp H l xs/\xs[i]? = some x,
   fun i H v H'=>∃(p:Addr)(x:V),H p=none/\v = .ref p/\H'=upd H p (.tup [.int i,x])/\∀ xs,SqB K tp H l xs->xs[i]? = some x,
   fun i H=>∃ xs,SqB K tp H l xs/\xs.length<=i⟩
theorem DD{P:Program}{w:World}{K:W.Frag}{elts:List Expr}{x1}{pos:Pos}{tp:Bool}(e it l:Addr)(hne:e≠it) :
  Turn P w K (.Tuple elts x1 pos) (Ite K tp l) [e,it] e (fun i h=>(∃ old,IsEnum h e it i old)/\aH h tp it l i) where
 mem:=by simp
 obj:=by
  rintro i h ⟨⟨old,h1⟩,h2⟩ c hc
  simp only[List.mem_cons,List.not_mem_nil,or_false]at hc;rcases hc with rfl|rfl
  ·exact⟨_,h1,fun v e=>by cases e⟩
  ·exact h2.obj
 keep:=by
  rintro i h h' ⟨⟨old,h1⟩,h2⟩ k
  exact⟨⟨old,k e (by simp) _ h1⟩,h2.at fun o z=>k it (by simp) o z⟩
 item:=by
  intro X hP hw hK hc i pins s σ H E I hf st hg;subst hP hw hK;obtain⟨⟨old,h1⟩,h2⟩:=st;obtain⟨xs,x,q1,e1⟩:=hg;obtain⟨its,rv,o1,z1⟩:=I.Gn q1;obtain⟨u1,hu1,ru1⟩:=rv.get e1;refine EN h1 h2 o1 (x:=u1) (by simpa using hu1) hne fun h' ho' hi' hT' TY hk'=>⟨_,rfl,?_⟩
  refine wpAny_letOwnedTupleGo_enum ho' fun h'' Tf S5=>?_
  have hn:=I.hok.fresh (Nat.le_refl s.heap.objs.size);have le:e<s.heap.objs.size:=Heap.lt_size h1;obtain⟨oi,goi,_⟩:=h2.obj;have li:it<s.heap.objs.size:=Heap.lt_size goi;have SU:∀ b ∈ [e,it],b≠s.heap.objs.size:=fun b hb=>by
   simp only[List.mem_cons,List.not_mem_nil,or_false]at hb;rcases hb with rfl|rfl
   ·exact Nat.ne_of_lt le
   ·exact Nat.ne_of_lt li
  have up:∀ c o,c≠e->h'.get? c=some o->h''.get? c=some o:=fun c o hc z=>S5.extBut _ _ hc z
  have I1:Inv X pins σ (upd H s.heap.objs.size (.tup [.int i,x])) { s with heap:=s.heap.push { cls:=.type "tuple",data:=.seq #[.int i s.toks,u1] },toks:=s.toks+1 } :=
   I.laid (t':=s.toks+1) (fun b u z=>Heap.get?_push_of_some _ z) (Nat.le_refl _) ⟨by show 2<=sizeLine;decide,[.int i s.toks,u1],.cons ⟨_,rfl⟩ (.cons ru1 .nil),⟨⟨_,Heap.get?_push_size _ rfl,rfl,_,rfl⟩,_,Heap.get?_push_size _ rfl,rfl⟩⟩
  have hf':∀ b ∈ [e,it],vA X pins (upd H s.heap.objs.size (.tup [.int i,x])) b:=fun b hb=>by
   obtain⟨f0,r⟩:=hf b hb;exact⟨by rw[ag (SU b hb)];exact f0,r⟩
  have I2:Inv X pins σ (upd H s.heap.objs.size (.tup [.int i,x])) { s with heap:=h'',toks:=s.toks+1 }:=by
   refine I1.Cs (h':=h'') (t':=s.toks+1) (fun b o hb z=>?_) hf'
   simp only[List.mem_cons,List.not_mem_nil,or_false,not_or]at hb;obtain⟨b1,b2⟩:=hb;rcases Heap.get?_push_cases z with⟨rfl,rfl⟩|z'
   ·exact up _ _ b1 hT'
   ·exact up _ _ b1 (hk' b o b1 b2 z')
  refine⟨.ref s.heap.objs.size,upd H s.heap.objs.size (.tup [.int i,x]),I2,rfl,⟨_,x,hn,rfl,rfl,fun zs hz=>by rw[I.Gm hz q1];exact e1⟩,?_,fun b hb=>(hf' b hb).1⟩
  exact⟨⟨_,by simpa using Tf⟩,hi'.at fun o z=>up _ _ hne.symm z⟩
 done:=by
  intro X hP hw hK hc i pins s σ H E I hf st hg;subst hP hw hK;obtain⟨⟨old,h1⟩,h2⟩:=st;obtain⟨xs,q1,xX⟩:=hg;obtain⟨its,rv,o1,z1⟩:=I.Gn q1;have g1:=rv.length;refine IV (I.ok.hd hc) h1 h2 o1 (by simp;omega) fun h' k=>⟨rfl,I.Cs (t':=s.toks) (fun b o hb z=>?_) hf⟩
  simp only[List.mem_cons,List.not_mem_nil,or_false,not_or]at hb;exact k b o hb.2 z
 self:=fun _ _ _ _ _ st h=>let⟨⟨_,z⟩,_⟩:=st;wpAny_pyIter_enum z h
def IC(K:W.Frag)(tp:Bool)(ta:TA):TI:=fun σ H R=>ta σ H fun vs H1=>∃ l,vs = [.ref l]/\(∃ xs,SqB K tp H1 l xs)/\R (Ite K tp l) H1
theorem K0{X:Cx}{elts:List Expr}{x1}{pos':Pos}{a:Expr}{ta:TA}{p pos:Pos}{tp:Bool}(hg:Gl X "enumerate")(hm:X.mg "enumerate" = none)(Ag:bootBuiltins "enumerate" = some (.type "enumerate"))(ha:PA X [a] ta)(hs:starEach [a] X.env = [(false,eval a X.env)]:=by rfl) :
  PI X (.Tuple elts x1 pos') (.Call (.Name "enumerate" p) [a] [] pos) (IC X.K tp ta):=by
 intro pins s σ H R I h;refine Call_ (iZ I hg hm Ag (PyProof.Rows.callWith_type1 (thn (ha pos pins s σ H _ I h) fun us s1 ⟨vs,H1,I1,r1,q1⟩=>?_) hs rfl))
 obtain⟨l,e,⟨xs,q2⟩,q⟩:=q1;subst e;obtain⟨u1,rfl,ru1⟩:=vals1 r1;cases ru1;obtain⟨its,rv,o1,z1⟩:=I1.Gn q2;refine vv o1 fun h' he hi hk=>wpAny_pyIter_enum he ?_
 refine⟨_,[s1.heap.objs.size+1,s1.heap.objs.size],_,_,H1,rfl,I1.kept (t':=s1.toks) hk,DD _ _ l (fun z=>absurd (show @Eq Nat _ _ from z) (by omega)),⟨⟨_,he⟩,hi⟩,fun c hc=>?_,q⟩
 have hc':s1.heap.objs.size<=c:=by
  simp only[List.mem_cons,List.not_mem_nil,or_false]at hc;rcases hc with rfl|rfl <;> first|exact Nat.le_add_right _ _|exact Nat.le_refl _
 exact I1.IP hc' (I1.hok.fresh hc')
end L2
namespace PySem
open Sem (wp)
end PySem
namespace L2
open PySem PySem.Spec PyProof.Rows
end L2
namespace PySem
open Sem (wp)
end PySem
namespace PySem
open Sem (wp)
open Builtin Builtin.ObjectAttr
inductive d6(h:Heap)(S:List Str)(bmB:List Value):List Value->Prop
 | base:d6 h S bmB bmB
 | own{A:Addr}{c0:Value}{dd:Option Addr}{cd:ClassData}{sl:Array (Option Value)}{mA:Str->Option Value}{tl:List Value} :
   h.get? A=some { cls:=c0,dict:=dd,data:=.cls cd,slots:=sl }->h.Ns cd.ns mA ->(∀ n∈S,mA n=none)->d6 h S bmB tl->d6 h S bmB (.ref A::tl)
theorem d6.tail{h:Heap}{S:List Str}{bmB tl:List Value}(hS:("__init__":Str)∈S)(T:d6 h S bmB tl):OwnTail h bmB tl:=by
 induction T with
 | base=>exact .base
 | own hA hN hn _ ih=>exact .own hA hN (hn _ hS) ih
theorem d6.hasType{h:Heap}{S:List Str}{bmB tl:List Value}(T:d6 h S bmB tl){X:String}{b:Bool}(hb:bmB.contains (.type X)=b):tl.contains (.type X)=b:=by
 induction T with
 | base=>exact hb
 | own _ _ _ _ ih=>rw[List.contains_cons,ih];rfl
section
variable{M:Model}{prog:Program}{w:World}{A:Around}{E:Value->Shared->Prop}{h:Heap}{g:Array GenState}{d:Drawn}{t:Nat}{os:OsState}
variable{nm q:Str}{C N x:Addr}{bs bm bmB:List Value}{sn:List Str}{sub:List Value}{ab ph:Bool}{col:Option Bool}{dd:Option Addr}{k0 k1 k2 k3 k5:Option Value}{B newId sa owner:String}
 {mN mA:Str->Option Value} {name:Str} {v:Value} {S:List Str}
theorem AE{y:Option Value}{Q:Option Value->Shared->Prop}(hs:name∈S)(T:d6 h S bmB bm)(Ac:lookupAlong bmB name=pure y)(hq:Q y ⟨h,g,d,t,os⟩):wpAny M A (lookupAlong bm name) Q E ⟨h,g,d,t,os⟩:=by
 induction T with
 | base=>rw[Ac];exact wpAny_pure hq
 | own hA hN hn _ ih =>
  rw[lookupAlong_cons];refine wpAny_bind (wpAny_classOwn_cls hA hN ?_);rw[hn _ hs];exact ih
theorem iX{y:Option Value}{Q:Option Value->Shared->Prop}(hs:name∈S)(hC:h.get? C=some (excClassObj nm q C N bs bm ph sn sub ab col dd k0 k1 k2 k3 k5 newId))(hn:h.Ns N mN)(T:d6 h S bmB bm)(hbm:mroOf (.type B)=pure bmB)
  (hB:typeLookup (.type B) name=pure y) (hq:Q (match mN name with|some v=>some v|none=>y) ⟨h,g,d,t,os⟩):wpAny M A (typeLookup (.ref C) name) Q E ⟨h,g,d,t,os⟩:=by
 have Ac:lookupAlong bmB name=pure y:=by rw[typeLookup_eq,hbm]at hB;exact hB
 rw[typeLookup_eq];refine wpAny_bind (wpAny_mroOf_exc hC ?_);rw[lookupAlong_cons];refine wpAny_bind (wpAny_classOwn_exc hC hn ?_);cases hv:mN name with
 | some v=>rw[hv]at hq;exact wpAny_pure hq
 | none=>rw[hv]at hq;exact AE hs T Ac hq
end
end PySem
namespace PySem
open Sem (wp)
open Builtin Builtin.ObjectAttr
section
variable{prog:Program}{w:World}{A:Around}{E:Value->Shared->Prop}{h:Heap}{g:Array GenState}{d:Drawn}{t:Nat}{os:OsState}
variable{nm q:Str}{C N x:Addr}{bs bm bmB:List Value}{sn:List Str}{sub:List Value}{ab ph:Bool}{col:Option Bool}{dd:Option Addr}{k0 k1 k2 k3 k5:Option Value}{B newId:String}
 {mN mA:Str->Option Value} {name:Str} {v:Value} {S:List Str} {o:Obj}
theorem E7{M:Model}{MY:Value}{Q:Unit->Shared->Prop}(FB:ExcAttrBase B bmB)(T:d6 h S bmB bm)(hC:h.get? C=some (excClassObj nm q C N bs bm ph sn sub ab col dd k0 k1 k2 k3 k5 newId))
  (hx:h.get? x=some o) (hc:o.cls = .ref C) (hq:Q () ⟨h,g,d,t,os⟩):wpAny M A (checkBuiltinCall "BaseException.__getattribute__" ⟨[.ref x,MY],[]⟩) Q E ⟨h,g,d,t,os⟩:=by
 have e1:builtinKind "BaseException.__getattribute__" = some .slot:=by decide +kernel
 have e2:splitId "BaseException.__getattribute__" = some ("BaseException","__getattribute__"):=by decide +kernel
 have e3:(Value.ref C::bm).contains (.type "BaseException")=true:=by rw[List.contains_cons,T.hasType FB.hasBase,Bool.or_true]
 have ha:=F.args_bexc_ga (.ref x) MY;simp only[checkBuiltinCall,e1,e2];refine wpAny_bind ?_;unfold isInstance
 repeat (first |(with_reducible refine wpAny_loadPart_at hx ?_;rw[hc]) |(with_reducible refine wpAny_isSubtype_exc hC ?_;rw[e3])|wp_step)
 exact hq
theorem B1{R:Result->Shared->Prop}(hob:bmB.contains (.type "object")=true)(T:d6 h S bmB bm)(hC:h.get? C=some (excClassObj nm q C N bs bm ph sn sub ab col dd k0 k1 k2 k3 k5 newId))
  (hx:h.get? x=some o) (hc:o.cls = .ref C) (hq:R (.ok (.ret (.ref C))) ⟨h,g,d,t,os⟩) :
  codeAny (model prog w) A (.call (.builtin "getset_descriptor.__get__") ⟨[.builtin "object.__class__",.ref x,.ref C],[]⟩) R ⟨h,g,d,t,os⟩:=by
 have hT5:(⟨h,g,d,t,os⟩:Shared).TypeIs (.builtin "object.__class__") "getset_descriptor":=F.typeOf_object_class;have e3:(Value.ref C::bm).contains (.type (".".intercalate ("object.__class__".cutAt '.').dropLast))=true:=by
  rw[F.owner_object_class,List.contains_cons,T.hasType hob,Bool.or_true]
 refine codeAny_call_builtin F.slot_gs_get.plain F.entry_gs_get (F.slot_gs_get.check _ _ _ _ _ _ _ _ hT5 (F.args_gs_get _ _ _) ?_)
 repeat (any_goals (first|assumption |(with_reducible refine wpAny_loadPart_at hx ?_;rw[hc]) |(with_reducible refine wpAny_isSubtype_exc hC ?_;rw[e3])|wp_step))
 refine⟨Code.quiet_builtin _ (by decide +kernel),codeAny_builtin F.entry_object_class ?_⟩
 repeat (any_goals (first|assumption |(with_reducible refine wpAny_loadPart_at hx ?_;rw[hc])|wp_step))
theorem Ap{tk:Tok}{Q:Fin->Shared->Prop}(hlk:typeLookup (.type B) "__class__" = pure (some (.builtin "object.__class__")))(hob:bmB.contains (.type "object")=true)(hs:("__class__":Str)∈S)(FB:ExcAttrBase B bmB)(T:d6 h S bmB bm)
  (hC:h.get? C=some (excClassObj nm q C N bs bm ph sn sub ab col dd k0 k1 k2 k3 k5 newId)) (hn:h.Ns N mN) (hmN:∀ n∈S,mN n=none) (hx:h.get? x=some o) (hc:o.cls = .ref C) (hq:Q (.done (.ret (.ref C))) ⟨h,g,d,t,os⟩) :
  wpAny (model prog w) A (Builtin.«object.__getattribute__» ⟨[.ref x,.str "__class__" tk],[]⟩) Q E ⟨h,g,d,t,os⟩:=by
 have hT5:(⟨h,g,d,t,os⟩:Shared).TypeIs (.builtin "object.__class__") "getset_descriptor":=F.typeOf_object_class;have f5:=F.typeOf_object_class;have f6:=F.slot_gs_get.lookup;have f7:=F.slot_gs_set.lookup;have n1:=hmN _ hs
 repeat (any_goals (first|assumption |(with_reducible refine wpAny_loadPart_at hx ?_;rw[hc]) |(with_reducible refine iX hs hC hn T FB.mro hlk ?_;rw[n1])|wp_step))
 refine B1 hob T hC hx hc ?_
 repeat (any_goals (first|assumption|wp_step))
theorem E6{tk:Tok}{Q:Value->Shared->Prop}(hlk:typeLookup (.type B) "__class__" = pure (some (.builtin "object.__class__")))(hob:bmB.contains (.type "object")=true)(hs:("__class__":Str)∈S)(hsa:("__getattribute__":Str)∈S)(hsb:("__getattr__":Str)∈S)(FB:ExcAttrBase B bmB)(T:d6 h S bmB bm)
  (hC:h.get? C=some (excClassObj nm q C N bs bm ph sn sub ab col dd k0 k1 k2 k3 k5 newId)) (hn:h.Ns N mN) (hmN:∀ n∈S,mN n=none) (hx:h.get? x=some o) (hc:o.cls = .ref C) (hq:Q (.ref C) ⟨h,g,d,t,os⟩) :
  wpAny (model prog w) A (getAttrBy (.ref x) (.str "__class__" tk) false) Q E ⟨h,g,d,t,os⟩:=by
 have f3:=FB.ga.bind (.ref x);have b2:(Value.builtin "BaseException.__getattribute__" == Value.builtin "object.__getattribute__")=false:=by decide +kernel
 have b1:(onTheHeap (Value.ref C)&&Value.builtin "BaseException.__getattribute__" == Value.builtin "object.__getattribute__")=false:=by rw[b2];rfl
 have n1:=hmN _ hsa;have n2:=hmN _ hsb
 repeat (any_goals (first|assumption |(with_reducible refine wpAny_loadPart_at hx ?_;rw[hc]) |(with_reducible refine iX hsa hC hn T FB.mro FB.ga.lookup ?_;rw[n1]) |(with_reducible refine iX hsb hC hn T FB.mro FB.noGetattr ?_;rw[n2])|wp_step))
 refine codeAny_call_builtin FB.ga.plain F.entry_bexc_ga (E7 FB T hC hx hc (Ap hlk hob hs FB T hC hn hmN hx hc ?_))
 repeat (any_goals (first|assumption|wp_step))
theorem Aq{Q:Option Value->Shared->Prop}(hlk:typeLookup (.type B) "__class__" = pure (some (.builtin "object.__class__")))(hob:bmB.contains (.type "object")=true)(hs:("__class__":Str)∈S)(hsa:("__getattribute__":Str)∈S)(hsb:("__getattr__":Str)∈S)(FB:ExcAttrBase B bmB)(T:d6 h S bmB bm)
  (hC:h.get? C=some (excClassObj nm q C N bs bm ph sn sub ab col dd k0 k1 k2 k3 k5 newId)) (hn:h.Ns N mN) (hmN:∀ n∈S,mN n=none) (hx:h.get? x=some o) (hc:o.cls = .ref C) (hq:Q (some (.ref C)) ⟨h,g,d,t+1,os⟩) :
  wpAny (model prog w) A (getAttr? (.ref x) "__class__") Q E ⟨h,g,d,t,os⟩:=by
 unfold getAttr? getAttrBy?
 repeat (any_goals (first|assumption|with_reducible apply E6 hlk hob hs hsa hsb FB T hC hn hmN hx hc|wp_step))
end
end PySem
namespace PySem
open Sem (wp)
def uA(h:Heap)(e:Addr)(cls:Value)(dx:Option Addr)(y:Value):Prop :=
 ∃ o vs a0,h.get? e=some o/\o.cls=cls/\o.dict=dx/\o.data = .fields vs/\vs[0]? = some a0/\vs[1]? = some y
def gR(h:Heap)(e:Addr)(cls:Value)(dx:Option Addr)(T:Addr)(fl:Value):Prop :=
 T≠e/\uA h e cls dx (.ref T)/\∃ oT ts,h.get? T=some oT/\oT.data = .fields ts/\ts[3]? = some fl
structure d7(fr ex:List Addr)(h h':Heap):Prop where
 keep:∀ b o,h.get? b=some o->b ∉ fr->b ∉ ex->h'.get? b=some o
 slot:∀ b o,h.get? b=some o->b ∉ ex->∃ sl,h'.get? b=some { o with slots:=sl }
 there:∀ b o,h.get? b=some o->∃ o',h'.get? b=some o'
theorem d7.trans{fr ex ex2:List Addr}{h h1 h2:Heap}(a:d7 fr ex h h1)(b:d7 fr ex2 h1 h2)(hs:∀ b o,h.get? b=some o->b∈ex2->b∈ex):d7 fr ex h h2 where
 keep:=fun c o e hf hx=>b.keep c o (a.keep c o e hf hx) hf fun z=>hx (hs c o e z)
 slot:=fun c o e hx=>by
  obtain⟨sl,e1⟩:=a.slot c o e hx;obtain⟨sl',e2⟩:=b.slot c _ e1 fun z=>hx (hs c o e z)
  exact⟨sl',e2⟩
 there:=fun c o e=>let⟨o',e1⟩:=a.there c o e;b.there c o' e1
theorem d7.mono{fr fr' ex ex':List Addr}{h h1:Heap}(a:d7 fr ex h h1)(hf:∀ b∈fr,b∈fr')(hx:∀ b∈ex,b∈ex'):d7 fr' ex' h h1 :=
 ⟨fun b o e n m=>a.keep b o e (fun z=>n (hf b z)) fun z=>m (hx b z),fun b o e m=>a.slot b o e fun z=>m (hx b z),a.there⟩
theorem d7.kX{fr ex:List Addr}{h h1 base:Heap}{l:List Env}(a:d7 fr ex h h1)(hx:∀ b o,b∈ex->h.get? b=some o->∃ vs,o.data = .fields vs)(hl:h.FunFrames base l):h1.FunFrames base l :=
 hl.of_keeps fun b o e hn=>by
  obtain⟨sl,q⟩:=a.slot b o e fun z=>by obtain⟨vs,q⟩:=hx b o z e;exact hn vs q
  exact⟨_,q,rfl⟩
theorem jL{h:Heap}{T i:Nat}{x:Value}{oT:Obj}{ts:Array Value}(hT:h.get? T=some oT)(hd:oT.data = .fields ts):d7 [] [T] h (h.update T (Obj.mapFields (·.setIfInBounds i x))):=by
 have ot:∀ b,b≠T ->(h.update T (Obj.mapFields (·.setIfInBounds i x))).get? b=h.get? b:=fun b hb=>Heap.get?_update_other _ _ (Ne.symm hb)
 refine⟨fun b o e _ n=>(ot b fun z=>n (by simp[z])).trans e,fun b o e n=>⟨o.slots,(ot b fun z=>n (by simp[z])).trans e⟩,fun b o e=>?_⟩
 by_cases hb:b=T
 ·rw[hb];exact⟨_,Heap.get?_update_self _ hT (Obj.isFreed_of_fields (Obj.data_mapFields hd _))⟩
 ·exact⟨o,(ot b hb).trans e⟩
section
variable{M:Model}{A:Around}{E:Value->Shared->Prop}{s:Shared}
variable{base:Heap}{env:Env}{outer:List Env}{L e T:Addr}{cls:Value}{dx:Option Addr}{Q:Unit->Shared->Prop}
theorem IW{y head:Value}{L4:Bool}(hfr:A.frames=some (env::outer))(hl:s.heap.FunFrames base (env::outer))(hf:env.frame=some L)(hx:uA s.heap e cls dx y)
  (hq:∀ h' T',s.heap.objs.size<=T'->gR h' e cls dx T' (rawInt L)->d7 ((env::outer).filterMap (·.frame)) [e] s.heap h'->Q () { s with heap:=h' }) :
  wpAny M A (do let a <- frameOf env;let pl <- entryPlaceOf L L4;let b <- EntryCells.newEntry head a .none (rawInt L) .none pl;setField (.ref e) 1 b) Q E s:=by
 obtain⟨o,vs,a0,ho,hc,hdx,hd,h0,h1⟩:=hx;have hsz:1<vs.size:=(Array.getElem?_eq_some_iff.mp h1).1;have nfr:e ∉ (env::outer).filterMap (·.frame):=fun z=>by
  obtain⟨_,o',ho',hn⟩:=hl.mem z;rw[ho]at ho';cases ho';exact hn vs hd
 refine wpAny_bind (wpAny_frameOf_fun hfr hl hf fun g hg=>?_)
 refine wpAny_bind (wpAny_entryPlaceOf fun pl hpl=>?_)
 unfold EntryCells.newEntry newFields;refine wpAny_bind (wpAny_newObj_type ?_ (hpl.sizeOk5 _ _ _ _ _));have e1:g.get? e=some o:=(hg.2.1 e nfr).trans ho;have e2:=Heap.get?_push_of_some (h:=g) { cls:=.type "traceback",dict:=none,data:=.fields ([head,.ref L,.none,rawInt L,.none]++(if pl.isEmpty then List.replicate 6 Value.none else pl)).toArray } e1
 have hTe:g.objs.size≠e:=Nat.ne_of_gt (Heap.lt_size e1);have d3:=Obj.data_mapFields hd (·.setIfInBounds 1 (Value.ref g.objs.size));have e3:=Heap.get?_update_self (Obj.mapFields (·.setIfInBounds 1 (Value.ref g.objs.size))) e2 (Obj.isFreed_of_fields d3);refine wpAny_setField e2 hd hsz (hq _ g.objs.size (Nat.le_of_eq hg.1.symm) ⟨hTe,⟨_,_,a0,e3,(Obj.cls_mapFields _ _).trans hc,?_,d3,by rw[Array.getElem?_setIfInBounds_ne (by decide)];exact h0,by simp[hsz]⟩,?_⟩ ?_)
 ·rw[<- hdx];obtain⟨_,_,dt,_⟩:=o;cases dt <;> rfl
 ·exact⟨_,_,(Heap.get?_update_other _ _ (Ne.symm hTe)).trans (Heap.get?_push_size g rfl),rfl,by first |(simp;done) |(rcases hpl with rfl |⟨_,_,_,_,_,_,_,rfl⟩ <;> simp)⟩
 ·have kp:∀ b ob,b≠e->g.get? b=some ob ->((g.push { cls:=.type "traceback",dict:=none,data:=.fields ([head,.ref L,.none,rawInt L,.none]++(if pl.isEmpty then List.replicate 6 Value.none else pl)).toArray }).update e (Obj.mapFields (·.setIfInBounds 1 (Value.ref g.objs.size)))).get? b=some ob :=
   fun b ob hb q=>(Heap.get?_update_other _ _ (Ne.symm hb)).trans (Heap.get?_push_of_some _ q)
  refine⟨fun b ob q n m=>kp b ob (fun z=>m (by simp[z])) ((hg.2.1 b n).trans q),fun b ob q m=>?_,fun b ob q=>?_⟩
  ·obtain⟨sl,q2⟩:=hg.2.2 b ob q;exact⟨sl,kp b _ (fun z=>m (by simp[z])) q2⟩
  ·by_cases hb:b=e
   ·rw[hb];exact⟨_,e3⟩
   ·obtain⟨sl,q2⟩:=hg.2.2 b ob q;exact⟨_,kp b _ hb q2⟩
theorem gh{fl:Value}(hx:gR s.heap e cls dx T fl)(hq:∀ h',gR h' e cls dx T .none->d7 [] [T] s.heap h'->Q () { s with heap:=h' }):wpAny M A (setFlight (.ref e) none) Q E s:=by
 obtain⟨hTe,⟨o,vs,a0,ho,hc,hdx,hd,h0,h1⟩,oT,ts,hT,hdT,h3⟩:=hx;have hs3:3<ts.size:=(Array.getElem?_eq_some_iff.mp h3).1;unfold setFlight;refine wpAny_bind (wpAny_field ho hd h1 ?_);rw[if_pos (show(Value.ref T != Value.none)=true from by simp)]
 refine wpAny_setField hT hdT hs3 (hq _ ⟨hTe,⟨o,vs,a0,(Heap.get?_update_other _ _ hTe).trans ho,hc,hdx,hd,h0,h1⟩,_,_,Heap.get?_update_self _ hT (Obj.isFreed_of_fields (Obj.data_mapFields hdT _)),Obj.data_mapFields hdT _,by simp[hs3]⟩ (jL hT hdT))
theorem pV(hfr:A.frames=some (env::outer))(hl:s.heap.FunFrames base (env::outer))(hf:env.frame=some L)(hx:uA s.heap e cls dx .none)
  (hq:∀ h' T',s.heap.objs.size<=T'->gR h' e cls dx T' (rawInt L)->d7 ((env::outer).filterMap (·.frame)) [e] s.heap h'->Q () { s with heap:=h' }):wpAny M A (noteFrame (.ref e) env) Q E s:=by
 obtain⟨o,vs,a0,ho,hc,hdx,hd,h0,h1⟩:=id hx;unfold noteFrame;simp only[hf];refine wpAny_bind (wpAny_field ho hd h1 ?_);rw[if_neg (by decide)]
 exact IW hfr hl hf hx hq
theorem sE(hfr:A.frames=some (env::outer))(hl:s.heap.FunFrames base (env::outer))(hf:env.frame=some L)(hx:gR s.heap e cls dx T .none)
  (hq:∀ h' T',s.heap.objs.size<=T'->gR h' e cls dx T' (rawInt L)->d7 ((env::outer).filterMap (·.frame)) [e,T] s.heap h'->Q () { s with heap:=h' }):wpAny M A (noteFrame (.ref e) env) Q E s:=by
 obtain⟨hTe,⟨o,vs,a0,ho,hc,hdx,hd,h0,h1⟩,oT,ts,hT,hdT,h3⟩:=hx;unfold noteFrame;simp only[hf];refine wpAny_bind (wpAny_field ho hd h1 ?_);rw[if_pos (show(Value.ref T != Value.none)=true from by simp)]
 refine wpAny_bind (wpAny_field hT hdT h3 ?_);rw[if_neg (show ¬((Value.none==rawInt L)=true)from by simp[rawInt])]
 refine wpAny_bind (wpAny_setField hT hdT (Array.getElem?_eq_some_iff.mp h3).1 ?_);have k1:=jL (i:=3) (x:=Value.none) hT hdT;have isx:∀ b ob,b ∈ [T]->s.heap.get? b=some ob->∃ ws,ob.data = .fields ws:=fun b ob hb q=>by
  have hb':b=T:=by simpa using hb
  subst hb';rw[hT]at q;cases q;exact⟨ts,hdT⟩
 refine IW (y:=.ref T) hfr (k1.kX isx hl) hf ⟨o,vs,a0,(Heap.get?_update_other _ _ hTe).trans ho,hc,hdx,hd,h0,h1⟩ fun h' T' sz al k2=>hq h' T' ?_ al ?_
 ·have:(s.heap.update T (Obj.mapFields (·.setIfInBounds 3 Value.none))).objs.size=s.heap.objs.size:=by simp[Heap.update]
  exact Nat.le_trans (Nat.le_of_eq this.symm) sz
 ·exact(k1.mono (fr':=(env::outer).filterMap (·.frame)) (ex':=[e,T]) (fun _ z=>nomatch z) (fun b z=>by simp at z;simp[z])).trans k2 fun b ob _ z=>by simp at z;simp[z]
theorem sP(hfr:A.frames=some (env::outer))(hl:s.heap.FunFrames base (env::outer))(hf:env.frame=some L)(hx:uA s.heap e cls dx .none)
  (hq:∀ h' T',s.heap.objs.size<=T'->gR h' e cls dx T' .none->d7 ((env::outer).filterMap (·.frame)) [e] s.heap h'->Q () { s with heap:=h' }):wpAny M A (leaving env (.ref e)) Q E s:=by
 unfold leaving;refine wpAny_bind (pV hfr hl hf hx fun h1 T1 sz al k1=>gh al fun h2 al2 k2=>hq h2 T1 sz al2 ?_)
 exact k1.trans (k2.mono (fun _ z=>nomatch z) fun b z=>z) fun b ob q z=>by
  have hb':b=T1:=by simpa using z
  subst hb';exact absurd (Nat.lt_of_lt_of_le (Heap.lt_size q) sz) (Nat.lt_irrefl _)
theorem uZ(hfr:A.frames=some (env::outer))(hl:s.heap.FunFrames base (env::outer))(hf:env.frame=some L)(hx:gR s.heap e cls dx T .none)
  (hq:∀ h' T',s.heap.objs.size<=T'->gR h' e cls dx T' .none->d7 ((env::outer).filterMap (·.frame)) [e,T] s.heap h'->Q () { s with heap:=h' }):wpAny M A (leaving env (.ref e)) Q E s:=by
 unfold leaving;refine wpAny_bind (sE hfr hl hf hx fun h1 T1 sz al k1=>gh al fun h2 al2 k2=>hq h2 T1 sz al2 ?_)
 exact k1.trans (k2.mono (fun _ z=>nomatch z) fun b z=>z) fun b ob q z=>by
  have hb':b=T1:=by simpa using z
  subst hb';exact absurd (Nat.lt_of_lt_of_le (Heap.lt_size q) sz) (Nat.lt_irrefl _)
end
end PySem
namespace L2
open PySem PySem.Spec PyProof.Rows
abbrev bmV:List Value:=[.type "ValueError",.type "Exception",.type "BaseException",.type "object"]
abbrev xS(fn:List Str):List Str:="__setattr__" :: "__getattribute__" :: "__getattr__" :: "__class__" :: fn
structure fA(K:W.Frag)(fn:List Str)(C:Addr)(bm:List Value)(ini:Option Addr):Prop where
 all:∀ h:Heap,K.In h->∃ nm q N bs sn sub ab col dd k0 k1 k2 k3 k5 mN,h.get? C=some (excClassObj nm q C N bs bm true sn sub ab col dd k0 k1 k2 k3 k5 "ValueError.__new__")/\h.Ns N mN /\
  (∀ n∈xS fn,mN n=none)/\mN "__init__" = ini.map Value.ref/\d6 h ("__init__" :: xS fn) bmV bm
 cl:∃ cd,W.clsIn K C=some cd/\cd.mro = .ref C::bm
 ty:W.typeIn K (.ref C)=some (.type "type")
def qN(K:W.Frag)(S:List Str)(bmB:List Value):List Value->Bool
 | []=>bmB == []
 | v::r=>(v::r)==bmB||match v with
  | .ref A=>(match K.lookup A with
   | some ⟨_,_,.cls cd,_⟩=>W.nsOkIn K cd.ns&&S.all (fun n=>W.nsIn K cd.ns n==some none)&&qN K S bmB r
   | _=>false)
  | _=>false
theorem yV{K:W.Frag}{h:Heap}{S:List Str}{bmB:List Value}(X:K.In h):∀{l:List Value},qN K S bmB l=true->d6 h S bmB l
 | [],e=>by rw[<- beq_iff_eq.mp e];exact .base
 | v::r,e=>by
  unfold qN at e;rcases Bool.or_eq_true_iff.mp e with q|q
  ·rw[beq_iff_eq.mp q];exact .base
  ·split at q
   ·split at q
    ·rename_i ho;rw[Bool.and_eq_true,Bool.and_eq_true]at q;exact .own (X _ _ ho) (.of_isNs (W.isNs_of_in X q.1.1)) (fun n hn=>W.nsMap_none_of_in X q.1.1 (beq_iff_eq.mp (List.all_eq_true.mp q.1.2 n hn))) (yV X q.2)
    ·cases q
   ·cases q
def R0:Data->Option ClassData
 | .cls cd=>some cd
 | _=>none
theorem E5{d:Data}{cd:ClassData}(h:R0 d=some cd):d = .cls cd:=by
 cases d <;> first|exact congrArg Data.cls (Option.some.inj h)|cases h
def Fx(K:W.Frag)(fn:List Str)(C:Addr)(bm:List Value)(ini:Option Addr)(sl:Array (Option Value))(cd:ClassData):Bool :=
 cd.mro == .ref C::bm&&sl.size==6&&sl[4]? == some (some (.builtin "ValueError.__new__")) && !cd.hasDel&&cd.hasDict&&qN K ("__init__" :: xS fn) bmV bm&&W.nsOkIn K cd.ns &&
  (xS fn).all (fun n=>W.nsIn K cd.ns n==some none)&&W.nsIn K cd.ns "__init__" == some (ini.map Value.ref)
def gU(K:W.Frag)(fn:List Str)(C:Addr)(bm:List Value)(ini:Option Addr):Bool:=(K.lookup C).any fun o=>o.cls == .type "type" && (R0 o.data).any (Fx K fn C bm ini o.slots)
theorem any_some{α:Type}{o:Option α}{f:α->Bool}(h:o.any f=true):∃ a,o=some a/\f a=true:=by
 cases o with
 | none=>cases h
 | some a=>exact⟨a,rfl,h⟩
theorem six{α:Type}{l:List α}(h:l.length=6):∃ a b c d e f,l = [a,b,c,d,e,f]:=by
 cases l with
 | nil=>cases h
 | cons a l=>cases l with
  | nil=>cases h
  | cons b l=>cases l with
   | nil=>cases h
   | cons c l=>cases l with
    | nil=>cases h
    | cons d l=>cases l with
     | nil=>cases h
     | cons e l=>cases l with
      | nil=>cases h
      | cons f l=>exact⟨a,b,c,d,e,f,by rw[List.length_eq_zero_iff.mp (show l.length=0 by simpa using h)]⟩
theorem Bi{K:W.Frag}{h:Heap}{N:Addr}{mg:Str->Option Value}{n:Str}{v:Value}(X:K.In h)(G:h.Ns N mg)(e:W.nsIn K N n=some (some v)):mg n=some v:=by
 obtain⟨o,es,ep,ho,hd,_,hf⟩:=G;unfold W.nsIn at e
 split at e
 ·rename_i c d es' n' sl q
  have:=X _ _ q
  rw[ho]at this;cases this;cases hd
  split at e
  ·rename_i e1 he;cases e;rw[<- hf];unfold nsFind findBy;rw[<- Array.find?_toList,he];rfl
  ·split at e <;> cases e
 ·cases e
theorem gF{K:W.Frag}{fn:List Str}{C:Addr}{bm:List Value}{ini:Option Addr}(q:gU K fn C bm ini=true):fA K fn C bm ini:=by
 unfold gU at q;obtain⟨⟨cl,dd,da,sl⟩,ho,q⟩:=any_some q;rw[Bool.and_eq_true]at q;obtain⟨q0,q⟩:=q;obtain⟨cd,hcd,q⟩:=any_some q;have e0:cl = .type "type":=eq_of_beq q0;have e1:da = .cls cd:=E5 hcd;subst e0 e1;unfold Fx at q;simp only[Bool.and_eq_true,beq_iff_eq,Bool.not_eq_true']at q;obtain⟨⟨⟨⟨⟨⟨⟨⟨hm,h6⟩,h4⟩,RJ⟩,RI⟩,ht⟩,hok⟩,hS⟩,hni⟩:=q;obtain⟨nm,bs,mro,ns,qn,hd,sn,sub,ab,col,del⟩:=cd;dsimp only at hm RJ hok hni RI hS;subst hm RJ RI;obtain⟨l⟩:=sl;obtain⟨k0,k1,k2,k3,k4,k5,rfl⟩:=six (l:=l) h6;obtain rfl:k4=some (.builtin "ValueError.__new__"):=Option.some.inj h4;refine⟨fun h X=>?_,⟨_,by unfold W.clsIn;rw[ho],rfl⟩,by show(K.lookup _).map (·.cls)=_;rw[ho];rfl⟩
 refine⟨nm,qn,ns,bs,sn,sub,ab,col,dd,k0,k1,k2,k3,k5,_,X _ _ ho,.of_isNs (W.isNs_of_in X hok),fun n hn=>W.nsMap_none_of_in X hok (by simpa using List.all_eq_true.mp hS n hn),?_,yV X ht⟩
 cases ini with
 | none=>exact W.nsMap_none_of_in X hok hni
 | some f=>exact Bi X (.of_isNs (W.isNs_of_in X hok)) hni
theorem _root_.PySem.d6.sub{h:Heap}{S S':List Str}{bmB tl:List Value}(T:d6 h S bmB tl)(hs:∀ n∈S',n∈S):d6 h S' bmB tl:=by
 induction T with
 | base=>exact .base
 | own a b c _ ih=>exact .own a b (fun n hn=>c n (hs n hn)) ih
def XAt(a C:Addr)(dx:Option Addr)(b:Bool)(h:Heap):Prop:=∃ y,uA h a (.ref C) dx y/\(b=true->y = .none)
def XD(dx:Addr)(fs:List (Str×V))(h:Heap):Prop:=∃ mA,h.Ns1 dx mA/\(∀ f,iE (fs.lookup f) (mA f))/\PySem.Within mA (fs.map (·.1))
def ExH(H:Hp)(a C:Addr)(b:Bool)(fs:List (Str×V)):Prop:=(fs = []/\H a=some (.ext (XAt a C none b)))\/∃ dx,dx≠a/\H a=some (.ext (XAt a C (some dx) b))/\H dx=some (.ext (XD dx fs))
section
variable{P:Program}{w:World}{H H':Hp}{h h':Heap}{a C d:Addr}{dx:Option Addr}{b:Bool}{fs:List (Str×V)}
theorem XAt.ok(x:XAt a C dx b h):bK P w H h a (.ext (XAt a C dx b)):=by
 refine⟨x,?_,fun h1 h2 ⟨y,⟨o,vs,a0,e,r⟩,z⟩ k=>⟨y,⟨o,vs,a0,k o e,r⟩,z⟩⟩
 obtain⟨y,⟨o,vs,a0,e,r⟩,z⟩:=x;exact⟨o,e⟩
theorem bK.at{o:HO}(x:bK P w H h a o):∃ u,h.get? a=some u:=by
 cases o with
 | lst xs=>obtain⟨_,_,_,_,e⟩:=x;exact⟨_,e⟩
 | tup xs=>obtain⟨_,_,_,p⟩:=x;obtain⟨o,e,_⟩:=p.1;exact⟨o,e⟩
 | dK kvs=>obtain⟨_,_,_,_,o,_,_,e,_⟩:=x;exact⟨o,e⟩
 | dT kvs=>obtain⟨_,_,_,_,o,_,_,e,_⟩:=x;exact⟨o,e⟩
 | set S n=>obtain⟨o,_,_,_,e,_⟩:=x;exact⟨o,e⟩
 | ins C dx fs=>obtain⟨_,_,_,e,_⟩:=x;exact⟨_,e⟩
 | own y=>exact x
 | xd fs=>obtain⟨_,⟨o,_,_,e,_⟩,_⟩:=x;exact⟨o,e⟩
 | rng lo hi=>obtain⟨_,_,_,e⟩:=x;exact⟨_,e⟩
 | frz ob u=>obtain⟨e,_⟩:=x;exact⟨_,e⟩
 | tbl ps=>exact⟨_,(show h.get? a=some _ from x)⟩
 | met f y=>exact⟨_,(show h.get? a=some _ from x)⟩
 | ext φ=>exact x.2.1
theorem HOk.no(x:HOk P w H h)(e:h.get? a=none):H a=none:=by
 cases q:H a with
 | none=>rfl
 | some u =>
  obtain⟨v,z⟩:=(x a u q).at;rw[e]at z;cases z
theorem HOk.zL{o:HO}(x:HOk P w H h)(k:∀ b u,h.get? b=some u->h'.get? b=some u)(hp:h.get? a=none)(new:bK P w (upd H a o) h' a o):HOk P w (upd H a o) h':=fun b u e=>by
 have hn:=x.no hp;by_cases hb:b=a
 ·subst hb;rw[ao]at e;cases e;exact new
 ·rw[ag hb]at e;exact(x b u e).dU (fun c v _ q=>k c v q) (fun c q=>by rw[ag (ar q hn)];exact q) fun c xs q=>by rw[ag (ar q hn)];exact q
theorem Un.zL{fs ex:List Addr}{o:HO}(k:∀ b u,h.get? b=some u->h'.get? b=some u)(hp:h.get? a=none)(hn:H a=none):Un fs ex H (upd H a o) h h' where
 keep:=fun b u q _ _ _=>k b u q
 slot:=fun b u q _ _ _=>⟨u.slots,k b u q⟩
 free:=fun b u q n _=>by rw[ag (fun z=>by rw[z,hp]at q;cases q)];exact n
 there:=fun b u q _=>⟨u,k b u q⟩
 qg:=fun b xs q=>by rw[ag (ar q hn)];exact q
 pj:=fun b u xs q=>by rw[ag (ar q hn)];exact q
 qj:=fun b ps q=>⟨#[],by rw[ag (ar q hn),q];simp⟩
theorem Inv.zL{X:Cx}{pins:List (Addr×Obj)}{σ:St}{s:Shared}{o:HO}{t':Nat}(I:Inv X pins σ H s)(k:∀ b u,s.heap.get? b=some u->h'.get? b=some u)(hp:s.heap.get? a=none)(new:bK X.prog X.w (upd H a o) h' a o) :
  Inv X pins σ (upd H a o) { s with heap:=h',toks:=t' }:=I.un (Un.zL k hp (I.hok.no hp)) (I.hok.zL k hp new)
end
def J3(C:Addr):TE:=fun _ H Q=>∀ a,H a=none->Q (.ref a) (upd H a (.ext (XAt a C none true)))
section
variable{X:Cx}{pins:List (Addr×Obj)}{σ:St}{H:Hp}{s:Shared}{C f:Addr}{k:Nat}{fd:FuncData}{ps fn fsN:List Str}{bm:List Value}{x:Str}{p pos:Pos}{e:Expr}{es:List Expr}{t:TA}
theorem LD{args:List Value}{h h':Heap}{e:Addr}(m:Heap.MadeExcOf h h' e (.ref C) args):XAt e C none true h':=by
 obtain⟨t,he,_,_⟩:=m.there;exact⟨.none,⟨_,_,_,he,rfl,rfl,rfl,rfl,rfl⟩,fun _=>rfl⟩
theorem vQ(M:fA X.K fn C bm none)(kp:W.keepIn X.K (.ref C)=true)(hg:Gl X x)(hm:X.mg x=some (.ref C))(hdb:(x ==("__debug__":Str))=false:=by decide):PE X (.Call (.Name x p) [] [] pos) (J3 C):=by
 intro pins s σ H Q I h;refine wpAny_Call_Name_kw (kH I hg hm ?_ hdb);refine W.callWith_K0 I.kIn kp ?_;obtain⟨nm,q,N,bs,sn,sub,ab,col,dd,k0,k1,k2,k3,k5,mN,hC,hN,hS,hi,T⟩:=M.all s.heap I.kIn;have mk:∀ h' e,Heap.MadeExcOf s.heap h' e (.ref C) []->EP X pins σ Q (.ref e) { s with heap:=h' }:=fun h' e m=>⟨.ref e,_,I.zL (t':=s.toks) m.keeps m.new (LD m).ok,rfl,h e (I.hok.no m.new)⟩
 obtain⟨hh,g,dr,tk,os⟩:=s;exact wpAny_call_exc_subT PySem.F.excBase_ValueError (d6.tail (by simp) T) hC hN hi (fun h' e m=>mk h' e m)
end
section
variable{X:Cx}{pins:List (Addr×Obj)}{σ:St}{H:Hp}{s:Shared}{a C C':Addr}{fn:List Str}{bm bm':List Value}{ini zX:Option Addr}{fs:List (Str×V)}{b:Bool}{A:Around}{E:Value->Shared->Prop}{Q:Value->Shared->Prop}
theorem EG:typeLookup (.type "ValueError") "__class__" = pure (some (.builtin "object.__class__")):=by rw[typeLookup_type,builtinLookup_eq_fast];kernel_rfl
theorem Ig{K:W.Frag}(c:fA K fn C bm ini):W.KitX K (.ref a) (.ref C) (fun h=>∃ o,h.get? a=some o/\o.cls = .ref C) where
 ty:=fun M h X ⟨o,e,hc⟩=>by
  intro A' Q' E' s' k q;unfold typeOf;refine wpAny_bind (wpAny_loadPart (k _ _ e) (wpAny_pure ?_))
  first
   | (rw[hc];exact q)
   | (show Q' o.cls s';rw[hc];exact q)
 it:=fun M h X _=>by
  obtain⟨nm,q,N,bs,sn,sub,ab,col,dd,k0,k1,k2,k3,k5,mN,hC,_⟩:=c.all h X;intro A' Q' E' s' k q;unfold isType loadHead;exact wpAny_bind (wpAny_loadPart (k _ _ hC) (wpAny_pure q))
 ne:=fun h tp dd its n sl X htp=>by
  obtain⟨nm,q,N,bs,sn,sub,ab,col,dd',k0,k1,k2,k3,k5,mN,hC,_⟩:=c.all h X;refine Bool.eq_false_iff.mpr fun q=>?_
  have e:C=tp:=Value.ref.inj (beq_iff_eq.mp q);subst e;have z:Value.type "type" = Value.type "tuple":=congrArg Obj.cls (Option.some.inj (hC.symm.trans htp));exact absurd z (by decide)
 ca:=fun{prog w A E Q s} X ⟨o,e,hc⟩ hq=>by
  obtain⟨nm,q,N,bs,sn,sub,ab,col,dd,k0,k1,k2,k3,k5,mN,hC,hN,hS,hi,T⟩:=c.all s.heap X;obtain⟨hh,g,dr,tk,os⟩:=s;have mem:∀ n∈xS fn,n∈("__init__":Str)::xS fn:=fun n hn=>List.mem_cons_of_mem _ hn
  exact Aq EG (by decide) (by simp) (by simp) (by simp) F.attrBase_ValueError (T.sub mem) hC hN hS e hc hq
theorem LK{K:W.Frag}(c:fA K fn C bm ini)(c':fA K fn C' bm' zX):W.kitOne K (.ref C) (.ref C')=some ((Value.ref C::bm).contains (.ref C')):=by
 unfold W.kitOne;obtain⟨cd,h1,h2⟩:=c.cl;obtain⟨cd',h1',_⟩:=c'.cl
 split
 ·rename_i z;rw[beq_iff_eq.mp z];simp
 ·unfold W.kitCls W.subIn W.mroIn;simp[h1,h1',c'.ty,h2]
theorem Ih{K:W.Frag}{T:String}(c:fA K fn C bm ini)(hT:W.kitMeta T=true):W.kitOne K (.ref C) (.type T)=some (bm.contains (.type T)):=by
 unfold W.kitOne;obtain⟨cd,h1,h2⟩:=c.cl;rw[if_neg (by intro z;exact nomatch(beq_iff_eq.mp z))]
 unfold W.kitCls W.subIn W.mroIn;simp only[hT,if_true,h1,Option.bind_some,h2,List.isEmpty_cons,Bool.false_eq_true,if_false,List.contains_cons];rfl
theorem ExH.cls{h:Heap}{P:Program}{w:World}(e:ExH H a C b fs)(ok:HOk P w H h):∃ o,h.get? a=some o/\o.cls = .ref C:=by
 have go:∀ dx,H a=some (.ext (XAt a C dx b))->∃ o,h.get? a=some o/\o.cls = .ref C:=fun dx e=>by
  obtain⟨y,⟨o,vs,a0,e1,hc,_⟩,_⟩:=(ok a _ e).1;exact⟨o,e1,hc⟩
 rcases e with⟨_,e⟩ |⟨d,_,e,_⟩
 ·exact go _ e
 ·exact go _ e
theorem O5{c:Value}{r:Bool}(I:Inv X pins σ H s)(e:ExH H a C b fs)(cx:fA X.K fn C bm ini)(ek:W.kitOne X.K (.ref C) c=some r)(h:∀ tk,Q (.bool r) { s with toks:=tk }):wpAny (model X.prog X.w) A (call (.builtin "isinstance") [.ref a,c]) Q E s :=
 W.kia_one (Ig cx) I.kIn (e.cls I.hok) ek (fun z=>nomatch z) h
end
end L2
namespace PySem
open Sem (wp)
section
variable{M:Model}{A:Around}{E:Value->Shared->Prop}{env:Env}
variable{nm q nm' q':Str}{C N C' N':Addr}{bs bm bs' bm':List Value}{ph RK:Bool}{sn sn':List Str}{sub P9:List Value}{ab ab':Bool}{col RY:Option Bool}{dd dd':Option Addr}{k0 k1 k2 k3 k5 j0 j1 j2 j3 j5:Option Value}{newId OM:String}
theorem NS{s:Shared}{x:Sem Value}{Q:Flow->Shared->Prop}(hh:A.handled=none)
  (h:wpAny M A x (fun v s₁=>∃ e oe C nm q N bs bm ph sn sub ab col dd k0 k1 k2 k3 k5 newId,v = .ref e/\s₁.heap.get? C=some (excClassObj nm q C N bs bm ph sn sub ab col dd k0 k1 k2 k3 k5 newId)/\bm.contains (.type "BaseException")=true /\
   s₁.heap.get? e=some oe/\oe.cls = .ref C/\(∃ vs,oe.data = .fields vs/\vs[1]? = some .none)/\E (.ref e) s₁) E s):wpAny M A (raiseStmt env (some x) none) Q E s:=by
 unfold raiseStmt;refine wpAny_bind (wpAny_mono h (fun v s₁ h₁=>?_) fun _ _ x=>x)
 obtain⟨e,oe,C,nm,q,N,bs,bm,ph,sn,sub,ab,col,dd,k0,k1,k2,k3,k5,newId,rfl,hC,hb,he,Ae,⟨vs,hd,h1⟩,hE⟩:=h₁;have hcB:(Value.ref C::bm).contains (.type "BaseException")=true:=by rw[List.contains_cons,hb,Bool.or_true]
 obtain⟨hp,g,d,tk,os⟩:=s₁;obtain⟨c0,d0,da,sl⟩:=oe;dsimp only at Ae hd;subst Ae hd
 repeat (first|with_reducible refine wpAny_loadPart_at he ?_|with_reducible refine wpAny_loadPart_at hC ?_ |(with_reducible refine wpAny_isSubtype_exc hC ?_;rw[hcB])|wp_step)
 rw[h1]
 repeat (first|with_reducible refine wpAny_raiseNew_none hh hE|wp_step)
theorem OP{h:Heap}{g:Array GenState}{d:Drawn}{t:Nat}{os:OsState}{e:Addr}{oe:Obj}{Q:Bool->Shared->Prop}
  (hC:h.get? C=some (excClassObj nm q C N bs bm ph sn sub ab col dd k0 k1 k2 k3 k5 newId)) (hC':h.get? C'=some (excClassObj nm' q' C' N' bs' bm' RK sn' P9 ab' RY dd' j0 j1 j2 j3 j5 OM)) (he:h.get? e=some oe) (Ae:oe.cls = .ref C)
  (hb:bm'.contains (.type "BaseException")=true) (hq:Q ((Value.ref C::bm).contains (.ref C')) ⟨h,g,d,t,os⟩):wpAny M A (excMatches (.ref e) (.ref C')) Q E ⟨h,g,d,t,os⟩:=by
 have hcB:(Value.ref C'::bm').contains (.type "BaseException")=true:=by rw[List.contains_cons,hb,Bool.or_true]
 have f:=tc_notTuple;unfold excMatches
 repeat (first |(with_reducible refine wpAny_loadPart_at he ?_;rw[Ae])|with_reducible refine wpAny_loadPart_at hC' ?_ |(with_reducible refine wpAny_isSubtype_exc hC' ?_;rw[hcB])|wp_step)
 all_goals(cases hz:(Value.ref C::bm).contains (.ref C') <;>(rw[hz]at hq;first|exact wpAny_isSubtype_exc hC (by rw[hz];exact hq) |(refine wpAny_isSubtype_exc hC ?_;rw[hz];repeat (first|exact hq|wp_step))))
end
end PySem
namespace L2
open PySem PySem.Spec PyProof.Rows
def CX1(P:Program)(w:World):CXT:=fun outer H s E e s'=>∃ a C dx T H',e = .ref a/\s'.os=s.os/\AllBare s'.gens/\Un (frs outer) [] H H' s.heap s'.heap/\HOk P w H' s'.heap /\
 H' a=some (.ext (XAt a C dx false))/\gR s'.heap a (.ref C) dx T .none/\H' T=none/\s.heap.get? T=none/\E (.ref C) (some a) H'
section
variable{P:Program}{w:World}{H₀ H H':Hp}{h₀ h h':Heap}{fs fr ex:List Addr}{a C T:Addr}{dx:Option Addr}{fl:Value}
theorem Un.ny(u:Un fs [] H₀ H h₀ h)(k:d7 fr ex h h')(hex:∀ b∈ex,(∃ φ,H b=some (.ext φ))\/h₀.get? b=none)(hfr:∀ b∈fr,b∈fs\/h₀.get? b=none)(hH:∀ b,H' b=H b\/∃ φ ψ,H b=some (.ext φ)/\H' b=some (.ext ψ)):Un fs [] H₀ H' h₀ h':=by
 have nx:∀ b o,h₀.get? b=some o->H b=none->b ∉ ex:=fun b o e n z=>by
  rcases hex b z with⟨φ,y⟩|y
  ·rw[n]at y;cases y
  ·rw[e]at y;cases y
 have st:∀ b o,H b=some o ->(∀ φ,o ≠ .ext φ)->H' b=some o:=fun b o e n=>by
  rcases hH b with z |⟨φ,ψ,z,_⟩
  ·rw[z];exact e
  ·rw[e]at z;cases z;exact absurd rfl (n φ)
 refine⟨fun b o e n hb hx=>?_,fun b o e n hb hx=>?_,fun b o e n hx=>?_,fun b o e hx=>?_,fun b xs e=>st b _ (u.qg b xs e) (fun _ z=>nomatch z),fun b o xs e=>st b _ (u.pj b o xs e) (fun _ z=>nomatch z),fun b ps e=>?_⟩
 ·refine k.keep b o (u.keep b o e n hb hx) (fun z=>?_) (nx b o e (u.free b o e n hx))
  rcases hfr b z with y|y
  ·exact hb y
  ·rw[e]at y;cases y
 ·obtain⟨sl,e1⟩:=u.slot b o e n hb hx;obtain⟨sl',e2⟩:=k.slot b _ e1 (nx b o e (u.free b o e n hx));exact⟨sl',e2⟩
 ·have n1:=u.free b o e n hx;rcases hH b with z |⟨φ,ψ,z,_⟩
  ·rw[z];exact n1
  ·rw[n1]at z;cases z
 ·obtain⟨o',e1⟩:=u.there b o e hx;exact k.there b o' e1
 ·obtain⟨more,e1⟩:=u.qj b ps e;exact⟨more,st b _ e1 (fun _ z=>nomatch z)⟩
theorem HOk.ny{φ:Heap->Prop}(ok:HOk P w H h)(k:d7 fr ex h h')(hfr:∀ b∈fr,H b=none)(hex:∀ b∈ex,b=a\/H b=none)(ha:H a=some (.ext φ))(hH:∀ b,b≠a->H' b=H b)(new:∀ o,H' a=some o->bK P w H' h' a o)
  (hxt:∃ ψ,H' a=some (.ext ψ)):HOk P w H' h':=fun c o e=>by
 by_cases hc:c=a
 ·subst hc;exact new o e
 ·rw[hH c hc]at e;have st:∀ b v,H b=some v ->(∀ φ,v ≠ .ext φ)->H' b=some v:=fun b v q n=>by
   rw[hH b (fun z=>by rw[z,ha]at q;cases q;exact n φ rfl)];exact q
  have go:∀ b u v,H b=some v->b≠a->h.get? b=some u->h'.get? b=some u:=fun b u v q na r=>k.keep b u r (fun z=>by rw[hfr b z]at q;cases q) fun z=>by
   rcases hex b z with y|y
   ·exact na y
   ·rw[y]at q;cases q
  refine(ok c o e).dU (fun b u hb r=>?_) (fun b q=>st b _ q (fun _ z=>nomatch z)) fun b xs q=>st b _ q (fun _ z=>nomatch z)
  rcases hb with y|y
  ·rw[y]at r ⊢;exact go c u o e hc r
  ·exact go b u _ y (cv y ha fun z=>nomatch z) r
theorem _root_.PySem.gR.at(x:gR h a (.ref C) dx T fl):XAt a C dx false h:=⟨_,x.2.1,fun z=>nomatch z⟩
end
section
variable{X:Cx}{pins:List (Addr×Obj)}{σ:St}{H:Hp}{s:Shared}{a C T:Addr}{dx:Option Addr}{E:XK}{fn:List Str}
def nT(X:Cx)(Es:St->XK):Prop:=∀(pins:List (Addr×Obj))(σ:St)(H:Hp)(s:Shared)(a C:Addr)(dx:Option Addr),Inv X pins σ H s->H a=some (.ext (XAt a C dx true))->Es σ (.ref C) (some a) (upd H a (.ext (XAt a C dx false)))->X.xe (.ref a) s
def kL(CX:CXT)(X:Cx)(Es:St->XK):Prop:=∀(pins:List (Addr×Obj))(σ:St)(H:Hp)(s:Shared)(e:Value)(s':Shared),Inv X pins σ H s->CX X.stack H s (Es σ) e s'->X.xe e s'
theorem FJ{H:Hp}{a:Addr}{φ ψ:Heap->Prop}(e:H a=some (.ext φ))(b:Addr):upd H a (.ext ψ) b=H b\/∃ φ ψ',H b=some (.ext φ)/\upd H a (.ext ψ) b=some (.ext ψ'):=by
 by_cases hb:b=a
 ·rw[hb];exact .inr ⟨φ,ψ,e,ao⟩
 ·exact .inl (ag hb)
theorem rV{P:Program}{w:World}{K:W.Frag}{mg:Str->Option Value}{base:Heap}{N:List Str}{qual:Str}{scope:Scope}{f:Addr}{cd:Value}{A:Around}{outer:List Env}{s₀:Shared}{H₀:Hp}:nT (pq (CX1 P w) P w K mg base N qual scope f cd A outer s₀ H₀ E) (fun _=>E):=by
 intro pins σ H s a C dx I e hE;obtain⟨y,hx,hy⟩:XAt a C dx true s.heap:=(I.hok a _ e).1;rw[hy rfl]at hx;refine sP (A:=A.deeper (envOfC qual scope s₀.heap.objs.size f cd)) (env:=envOfC qual scope s₀.heap.objs.size f cd) (outer:=outer) (base:=base) I.ok.frames I.stack rfl hx fun h' T sz al kx=>?_
 have lt:∀ b o,s₀.heap.get? b=some o->b<s₀.heap.objs.size:=fun b o q=>Heap.lt_size q
 refine⟨a,C,dx,T,upd H a (.ext (XAt a C dx false)),rfl,I.os,I.bare,?_,?_,ao,al,?_,Heap.get?_none_of_le (Nat.le_trans I.sz sz),hE⟩
 ·refine Un.ny (fr:=frs (envOfC qual scope s₀.heap.objs.size f cd::outer)) I.base kx (fun b hb=>?_) (fun b hb=>?_) (FJ e)
  ·rw[List.mem_singleton.mp hb];exact .inl ⟨_,e⟩
  ·rcases List.mem_cons.mp (I.oC b hb)with z|z
   ·exact .inr (by rw[z];exact Heap.get?_none_of_le (Nat.le_refl _))
   ·exact .inl z
 ·exact HOk.ny (a:=a) I.hok kx (fun b hb=>I.ko b hb) (fun b hb=>.inl (List.mem_singleton.mp hb)) e (fun b hb=>ag hb) (fun o q=>by rw[ao]at q;cases q;exact al.at.ok) ⟨_,ao⟩
 ·rw[ag al.1];exact I.hok.fresh sz
theorem Be{P:Program}{w:World}{K:W.Frag}{mg:Str->Option Value}{base:Heap}{N:List Str}{qual:Str}{scope:Scope}{f:Addr}{cd:Value}{A:Around}{outer:List Env}{s₀:Shared}{H₀:Hp}:kL (CX1 P w) (pq (CX1 P w) P w K mg base N qual scope f cd A outer s₀ H₀ E) (fun _=>E):=by
 intro pins σ H s e s' I hx;obtain⟨a,C,dx,T,H',rfl,hos,hg,un,hok,ea,al,hT,hTs,hE⟩:=hx;have I':=I.Ay (ch:=[]) hos un hok hg (fun b z=>nomatch z)
 refine uZ (A:=A.deeper (envOfC qual scope s₀.heap.objs.size f cd)) (env:=envOfC qual scope s₀.heap.objs.size f cd) (outer:=outer) (base:=base) I'.ok.frames I'.stack rfl al fun h' T' sz al' kx=>?_
 have hT0:s₀.heap.get? T=none:=by
  cases q:s₀.heap.get? T with
  | none=>rfl
  | some o =>
   obtain⟨o',z⟩:=I.base.there T o q (fun z=>nomatch z)
   rw[hTs]at z;cases z
 refine⟨a,C,dx,T',H',rfl,I'.os,I'.bare,?_,?_,ea,al',I'.hok.fresh sz,Heap.get?_none_of_le (Nat.le_trans I'.sz sz),hE⟩
 ·refine Un.ny (fr:=frs (envOfC qual scope s₀.heap.objs.size f cd::outer)) I'.base kx (fun b hb=>?_) (fun b hb=>?_) (fun b=>.inl rfl)
  ·rcases List.mem_cons.mp hb with z|z
   ·rw[z];exact .inl ⟨_,ea⟩
   ·rw[List.mem_singleton.mp z];exact .inr hT0
  ·rcases List.mem_cons.mp (I'.oC b hb)with z|z
   ·exact .inr (by rw[z];exact Heap.get?_none_of_le (Nat.le_refl _))
   ·exact .inl z
 ·refine HOk.ny (a:=a) I'.hok kx (fun b hb=>I'.ko b hb) (fun b hb=>?_) ea (fun b hb=>rfl) (fun o q=>by rw[ea]at q;cases q;exact al'.at.ok) ⟨_,ea⟩
  rcases List.mem_cons.mp hb with z|z
  ·exact .inl z
  ·rw[List.mem_singleton.mp z];exact .inr hT
def Nu(K:W.Frag)(fn:List Str)(Es:St->XK)(te:TE):TS:=fun _ σ H=>te σ H fun v H1=>∃ a C bm ini dx,v = .ref a/\fA K fn C bm ini/\H1 a=some (.ext (XAt a C dx true))/\Es σ (.ref C) (some a) (upd H1 a (.ext (XAt a C dx false)))
theorem zk{Es:St->XK}{e:Expr}{te:TE}{pos:Pos}(hc:X.calm=true)(hx:nT X Es)(he:PE X e te):PS X (.Raise (some e) none pos) (Nu X.K fn Es te):=by
 intro pins s σ H D I h;rw[arm_exec_Raise];refine wpAny_bind (wpAny_standAt (NS (I.ok.hd hc) (wpAny_bind (thn (he pins s σ H _ I h) fun v s1 hPP=>?_))))
 obtain⟨x,H1,I1,rx,a,C,bm,ini,dx,ex,c,ea,q⟩:=hPP;refine wpAny_bind (wpAny_standAt (wpAny_pure ?_));subst ex;obtain rfl:v=Value.ref a:=rx;obtain⟨nm,q',N,bs,sn,sub,ab,col,dd,k0,k1,k2,k3,k5,mN,hC,hN,hS,hi,T⟩:=c.all s1.heap I1.kIn;obtain⟨y,⟨o,vs,a0,e1,hc1,hd1,hda,_,hy⟩,hyn⟩:=(I1.hok a _ ea).1;rw[hyn rfl]at hy;exact⟨a,o,C,nm,q',N,bs,bm,true,sn,sub,ab,col,dd,k0,k1,k2,k3,k5,_,rfl,hC,T.hasType (by decide),e1,hc1,⟨vs,hda,hy⟩,hx pins σ H1 s1 a C dx I1 ea q⟩
end
abbrev Cx.inX(X:Cx)(a:Addr):Cx:={ X with A:=X.A.mark (some (.ref a)),calm:=false,xe:=fun _ _=>False }
theorem Cx.Ok.inX{X:Cx}(ok:X.Ok)(a:Addr):(X.inX a).Ok :=
 ⟨ok.mod,ok.kind,ok.glob,ok.blt,ok.above,ok.inj,ok.has,ok.cab,(fun z=>nomatch z),ok.frames,ok.stk,ok.exf,ok.bs,ok.bsz,ok.Bj,ok.EM,ok.kX,ok.frf⟩
section
variable{X:Cx}{pins:List (Addr×Obj)}{σ:St}{H:Hp}{s:Shared}{a:Addr}
theorem Inv.inX(I:Inv X pins σ H s)(a:Addr):Inv (X.inX a) pins σ H s:=⟨I.ok.inX a,I.os,I.bare,I.base,I.loc,I.cell,I.free,I.gy,I.pin,I.hok,I.len⟩
theorem Inv.D5(ok:X.Ok)(I:Inv (X.inX a) pins σ H s):Inv X pins σ H s:=⟨ok,I.os,I.bare,I.base,I.loc,I.cell,I.free,I.gy,I.pin,I.hok,I.len⟩
theorem SP.D5(ok:X.Ok){D:Ends}{f:Flow}{s':Shared}(h:SP (X.inX a) pins D f s'):SP X pins D f s':=by
 cases f with
 | next=>obtain⟨σ',H',I,q⟩:=h;exact⟨σ',H',I.D5 ok,q⟩
 | brk=>obtain⟨σ',H',I,q⟩:=h;exact⟨σ',H',I.D5 ok,q⟩
 | cont=>obtain⟨σ',H',I,q⟩:=h;exact⟨σ',H',I.D5 ok,q⟩
 | ret u=>obtain⟨v,σ',H',I,r,q⟩:=h;exact⟨v,σ',H',I.D5 ok,r,q⟩
abbrev Cx.qi(X:Cx)(pn:List (Addr×Obj))(xe:Value->Shared->Prop):Cx:={ X with pn:=pn,xe:=xe }
theorem Cx.Ok.qi{X:Cx}(ok:X.Ok)(pn:List (Addr×Obj))(xe:Value->Shared->Prop):(X.qi pn xe).Ok :=
 ⟨ok.mod,ok.kind,ok.glob,ok.blt,ok.above,ok.inj,ok.has,ok.cab,ok.hd,ok.frames,ok.stk,ok.exf,ok.bs,ok.bsz,ok.Bj,ok.EM,ok.kX,ok.frf⟩
theorem Inv.qi(I:Inv X pins σ H s)(xe:Value->Shared->Prop):Inv (X.qi (X.pn++pins) xe) [] σ H s:=⟨I.ok.qi _ _,I.os,I.bare,I.base,I.loc,I.cell,I.free,I.gy,fun p hp=>I.pin p (by rw[List.append_nil]at hp;exact hp),I.hok,I.len⟩
theorem Inv.pL{xe:Value->Shared->Prop}{pins':List (Addr×Obj)}(ok:X.Ok)(I:Inv (X.qi (X.pn++pins) xe) pins' σ H s):Inv X pins σ H s:=⟨ok,I.os,I.bare,I.base,I.loc,I.cell,I.free,I.gy,fun p hp=>I.pin p (List.mem_append_left _ hp),I.hok,I.len⟩
theorem SP.pL{xe:Value->Shared->Prop}(ok:X.Ok){D:Ends}{f:Flow}{s':Shared}(h:SP (X.qi (X.pn++pins) xe) [] D f s'):SP X pins D f s':=by
 cases f with
 | next=>obtain⟨σ',H',I,q⟩:=h;exact⟨σ',H',I.pL ok,q⟩
 | brk=>obtain⟨σ',H',I,q⟩:=h;exact⟨σ',H',I.pL ok,q⟩
 | cont=>obtain⟨σ',H',I,q⟩:=h;exact⟨σ',H',I.pL ok,q⟩
 | ret u=>obtain⟨v,σ',H',I,r,q⟩:=h;exact⟨v,σ',H',I.pL ok,r,q⟩
structure Tb(X:Cx)(pins:List (Addr×Obj))(H:Hp)(T:Addr):Prop where
 n:H T=none
 l:T≠X.env.locals
 z:X.s₀.heap.objs.size<=T
 c:∀ x c,X.env.cells.lookup x=some c->c≠T
 p:∀ p∈X.pn++pins,p.1≠T
theorem Tb.of{T:Addr}(I:Inv X pins σ H s)(h:s.heap.objs.size<=T):Tb X pins H T where
 n:=I.hok.fresh h
 l:=Nat.ne_of_gt (Nat.lt_of_lt_of_le I.lt h)
 z:=Nat.le_trans I.sz h
 c:=fun x c e z=>by
  obtain⟨v,o,ho,_⟩:=I.cell x c e;rw[z]at ho;exact absurd (Nat.lt_of_lt_of_le (Heap.lt_size ho) h) (Nat.lt_irrefl _)
 p:=fun p hp z=>by
  have e:=(I.pin p hp).1;rw[z]at e;exact absurd (Nat.lt_of_lt_of_le (Heap.lt_size e) h) (Nat.lt_irrefl _)
theorem kG{M:Model}{A:Around}{E:Value->Shared->Prop}{i:Nat}{x:Str}{pos:Pos}{Q:Unit->Shared->Prop}(I:Inv X pins σ H s)(hN:X.N.Nodup)(hi:X.N[i]? = some x)(hk:X.env.scope.names.lookup x=some .local)
  (h:∀ s',Inv X pins (σ.set i none) H s'->Q () s'):wpAny M A (do bindName X.env x .none;unbindBehindTheSuite X.env x pos) Q E s:=by
 obtain⟨m,hn,hl⟩:=id I.loc;have Ae:(X.env.scope.kind == .class ||(X.env.scope.kind == .module&&X.env.locals != X.env.globals))=false:=by rw[I.ok.kind];rfl
 have cne:=I.cne;refine wpAny_nameGoes_keeps hk hn Ae fun h' v hn' hs=>?_
 have sb:∀ b o,X.s₀.heap.get? b=some o->h'.get? b=s.heap.get? b:=fun b o e=>hs.2 b (Nat.ne_of_lt (Nat.lt_of_lt_of_le (Heap.lt_size e) I.ok.above))
 obtain⟨oL,_,_,hoL,_⟩:=id hn;refine h _ ⟨I.ok,I.os,I.bare,⟨fun b o e n hb hx=>(sb b o e).trans (I.base.keep b o e n hb hx),fun b o e n hb hx=>?_,I.base.free,fun b o e hx=>?_,I.base.qg,I.base.pj,I.base.qj⟩,⟨_,hn',fun j y v' e1 e2 e3=>?_⟩,fun y c e=>?_,I.free,I.gy,fun p hp=>?_,fun b ob e=>?_,by simpa using I.len⟩
 ·obtain⟨sl,e1⟩:=I.base.slot b o e n hb hx;exact⟨sl,(sb b o e).trans e1⟩
 ·obtain⟨o',e1⟩:=I.base.there b o e hx;exact⟨o',(sb b o e).trans e1⟩
 ·by_cases hj:j=i
  ·subst hj;rw[List.getElem?_set]at e2
   split at e2
   ·split at e2 <;> cases e2
   ·rename_i z;exact absurd rfl z
  ·rw[List.getElem?_set_ne (Ne.symm hj)]at e2;obtain⟨u',r',q⟩:=hl j y v' e1 e2 e3;refine⟨u',r',?_⟩;rcases q with⟨k,e⟩ |⟨k,c,e,z⟩
   ·refine .inl ⟨k,?_⟩
    have:y≠x:=fun e=>hj (sF hN e1 (e▸hi))
    simp[this,e]
   ·exact .inr ⟨k,c,e,z.sameBut hs (cne y c e)⟩
 ·obtain⟨w',z⟩:=I.cell y c e;exact⟨w',z.sameBut hs (cne y c e)⟩
 ·obtain⟨e,n,ne,nf,d⟩:=I.pin p hp;exact⟨(hs.2 p.1 ne).trans e,n,ne,nf,d⟩
 ·refine(I.hok b ob e).dU (fun c w' hc q=>(hs.2 c ?_).trans q) (fun _ q=>q) fun _ _ q=>q
  intro z;rcases hc with y|y
  ·rw[<- y,z,I.free]at e;cases e
  ·rw[z,I.free]at y;cases y
end
abbrev TH:=Addr->Addr->TS
def PH(X:Cx)(hs:List ExceptHandler)(th:TH):Prop:=∀(pins:List (Addr×Obj))(s:Shared)(σ:St)(H:Hp)(D:Ends)(a C T:Addr)(dx:Option Addr),Inv X pins σ H s->H a=some (.ext (XAt a C dx false))->gR s.heap a (.ref C) dx T .none->Tb X pins H T ->
 th a C D σ H->wpAny (model X.prog X.w) X.A (handleBy (.ref a) X.env hs) (SP X pins D) X.xe s
def IK:TH:=fun _ _ _ _ _=>False
def Ends.go(D:Ends)(i:Nat):Ends:={ nx:=fun σ H=>D.nx (σ.set i none) H,rt:=D.rt,bk:=fun σ H=>D.bk (σ.set i none) H,ct:=fun σ H=>D.ct (σ.set i none) H }
def hAs(K:W.Frag)(fn:List Str)(C':Addr)(i:Nat)(ts:TS)(tr:TH):TH:=fun a C D σ H=>∃ bm ini,fA K fn C bm ini/\((Value.ref C::bm).contains (.ref C')=true->ts (D.go i) (σ.set i (some (.ref a))) H)/\((Value.ref C::bm).contains (.ref C')=false->tr a C D σ H)
section
variable{X:Cx}{fn:List Str}{C':Addr}{bm':List Value}{zX:Option Addr}{x n:Str}{p pos:Pos}{b0:Stmt}{yX:List Stmt}{rest:List ExceptHandler}{ts:TS}{tr:TH}{i:Nat}
theorem Hg{hs:List ExceptHandler}:PH X hs IK:=fun _ _ _ _ _ _ _ _ _ _ _ _ _ h=>h.elim
theorem K4{pins:List (Addr×Obj)}{s:Shared}{σ:St}{H:Hp}{a C:Addr}{dx:Option Addr}{bm:List Value}{ini:Option Addr}{R:Result->Shared->Prop}(hg:Gl X x)(hm:X.mg x=some (.ref C'))(c':fA X.K fn C' bm' zX)(hdb:(x ==("__debug__":Str))=false)
  (I:Inv X pins σ H s) (ea:H a=some (.ext (XAt a C dx false))) (c:fA X.K fn C bm ini) (h:R (.ok (if(Value.ref C::bm).contains (.ref C')then .brk else .next)) s) :
  codeAny (model X.prog X.w) (X.A.mark (some (.ref a))) (.handlers (.ref a) [.ExceptHandler (some (.Name x p)) none [] pos] X.env) R s:=by
 refine codeAny_handlers_test (kH (X:=X.inX a) (I.inX a) hg hm ?_ hdb);obtain⟨nm,q,N,bs,sn,sub,ab,col,dd,k0,k1,k2,k3,k5,mN,hC,_⟩:=c.all s.heap I.kIn;obtain⟨nm',q',N',bs',sn',P9,ab',RY,dd',j0,j1,j2,j3,j5,mN',hC',_,_,_,T'⟩:=c'.all s.heap I.kIn;obtain⟨y,⟨o,vs,a0,e1,hc1,_⟩,_⟩:=(I.hok a _ ea).1;obtain⟨hh,g,dr,tk,os⟩:=s;exact OP hC hC' e1 hc1 (T'.hasType (by decide)) h
theorem EL{pins:List (Addr×Obj)}{s:Shared}{σ:St}{H:Hp}{a C T:Addr}{dx:Option Addr}{M:Model}{A:Around}{E:Value->Shared->Prop}{Q:Unit->Shared->Prop}(I:Inv X pins σ H s)(ea:H a=some (.ext (XAt a C dx false)))(al:gR s.heap a (.ref C) dx T .none)(tb:Tb X pins H T)
  (h:∀ s',Inv X pins σ H s'->Q () s'):wpAny M A (setFlight (.ref a) none) Q E s :=
 gh al fun h' _ k=>h _ (I.turned (it:=T) (t':=s.toks) (fun b o hb e=>k.keep b o e (fun z=>nomatch z) (fun z=>hb (List.mem_singleton.mp z))) tb.n tb.l (.inr tb.z) tb.c tb.p)
theorem Rb(hN:X.N.Nodup)(hi:X.N[i]? = some n)(hk:X.env.scope.names.lookup n=some .local)(hg:Gl X x)(hm:X.mg x=some (.ref C'))(c':fA X.K fn C' bm' zX)(hsu:∀ a,PSs (X.inX a) (b0::yX) ts)(hr:PH X rest tr)(hdb:(x ==("__debug__":Str))=false:=by decide) :
  PH X (.ExceptHandler (some (.Name x p)) (some n) (b0::yX) pos::rest) (hAs X.K fn C' i ts tr):=by
 intro pins s σ H D a C T dx I ea al tb h;obtain⟨bm,ini,c,h1,h2⟩:=h;refine wpAny_handleBy_cons (K4 hg hm c' hdb I ea c ?_) (by intro q;cases q)
 cases hz:(Value.ref C::bm).contains (.ref C')with
 | true =>
  show codeAny _ _ _ _ _;refine codeAny_handlers_suite_as (EL I ea al tb fun s1 I1=>?_)
  refine hU I1 hN hi (.inl hk) (show RelV (.ref a) (Value.ref a)from rfl) (fun s2 I2=>?_) (.inr hk)
  refine wpAny_mono (hsu a pins s2 _ H (D.go i) (I2.inX a) (h1 hz)) (fun f s3 q=>?_) fun _ _ z=>False.elim z
  have q:=q.D5 I.ok;cases f with
  | next=>obtain⟨σ',H',J,q⟩:=q;exact kG J hN hi hk fun s4 J'=>⟨_,H',J',q⟩
  | brk=>obtain⟨σ',H',J,q⟩:=q;exact kG J hN hi hk fun s4 J'=>⟨_,H',J',q⟩
  | cont=>obtain⟨σ',H',J,q⟩:=q;exact kG J hN hi hk fun s4 J'=>⟨_,H',J',q⟩
  | ret u=>obtain⟨v,σ',H',J,r,q⟩:=q;exact kG J hN hi hk fun s4 J'=>⟨v,_,H',J',r,q⟩
 | false=>exact hr pins s σ H D a C T dx I ea al tb (h2 hz)
def P0(th:TH)(tb:(St->XK)->TS):TS:=fun D σ H=>tb (fun σ' cls oa H'=>∃ a C,cls = .ref C/\oa=some a/\th a C D σ' H') D σ H
theorem Oe{th:TH}{tb:(St->XK)->TS}{body:List Stmt}{h0:ExceptHandler}{hs:List ExceptHandler}(hst:X.stack=X.env::X.outer)(hf:X.env.frame=some X.env.locals)
  (hb:∀(Es:St->XK)(pn:List (Addr×Obj))(xe:Value->Shared->Prop),kL (CX1 X.prog X.w) (X.qi pn xe) Es->nT (X.qi pn xe) Es->PSs (X.qi pn xe) body (tb Es)) (hh:PH X (h0::hs) th):PS X (.Try body (h0::hs) [] [] pos) (P0 th tb):=by
 intro pins s σ H D I h;refine wpAny_Try_except (wpAny_mono (hb _ (X.pn++pins) (fun e s₁=>wpAny (model X.prog X.w) X.A (noteFrame e X.env) (fun _ s₂=>wpAny (model X.prog X.w) X.A (setFlight e none) (fun _ s₃=>wpAny (model X.prog X.w) X.A (handleBy e X.env (h0::hs)) (SP X pins D) X.xe s₃) X.xe s₂) X.xe s₁) ?_ ?_ [] s σ H D (I.qi _) h) (fun f s1 q=>?_) fun e s1 q=>q)
 ·intro pins' σ1 H1 s1 e s2 I1 hx;obtain⟨a,C,dx,T,H',rfl,hos,hg,un,hok,ea,al,hT,hTs,a',C',ec,eo,hE⟩:=hx;cases ec;cases eo;have J:=I1.pL I.ok;have J2:=J.Ay (ch:=[]) hos un hok hg (fun b z=>nomatch z)
  have fr2:=J2.stack;rw[hst]at fr2;refine sE (base:=X.base) (L:=X.env.locals) (by rw[<- hst];exact J2.ok.frames) fr2 hf al fun h3 T3 sz3 al3 k3=>?_
  refine gh al3 fun h4 al4 k4=>?_
  have kx:d7 ((X.env::X.outer).filterMap (·.frame)) [a,T] s2.heap h4:=k3.trans (k4.mono (fun _ z=>nomatch z) fun b z=>z) fun b ob q z=>by
   rw[List.mem_singleton.mp z]at q;exact absurd (Nat.lt_of_lt_of_le (Heap.lt_size q) sz3) (Nat.lt_irrefl _)
  have un4:Un (frs X.stack) [] H1 H' s1.heap h4:=Un.ny un kx (fun b hb=>by
   rcases List.mem_cons.mp hb with z|z
   ·rw[z];exact .inl ⟨_,ea⟩
   ·rw[List.mem_singleton.mp z];exact .inr hTs) (fun b hb=>.inl (by rw[hst];exact hb)) (fun b=>.inl rfl)
  have ok4:HOk X.prog X.w H' h4:=by
   refine HOk.ny (a:=a) J2.hok kx (fun b hb=>J2.ko b (by rw[hst];exact hb)) (fun b hb=>?_) ea (fun b hb=>rfl) (fun o q=>by rw[ea]at q;cases q;exact al4.at.ok) ⟨_,ea⟩
   rcases List.mem_cons.mp hb with z|z
   ·exact .inl z
   ·rw[List.mem_singleton.mp z];exact .inr hT
  have J4:Inv X pins σ1 H' { s2 with heap:=h4 }:=J.Ay (s':={ s2 with heap:=h4 }) (ch:=[]) hos un4 ok4 hg (fun b z=>nomatch z)
  exact hh pins _ σ1 H' D a C T3 dx J4 ea al4 (Tb.of J2 sz3) hE
 ·intro pins' σ1 H1 s1 a C dx I1 ea hx;obtain⟨a',C',ec,eo,hE⟩:=hx;cases ec;cases eo;have J:=I1.pL I.ok;obtain⟨y,hxo,hy⟩:XAt a C dx true s1.heap:=(J.hok a _ ea).1;rw[hy rfl]at hxo;have fr2:=J.stack;rw[hst]at fr2;refine pV (base:=X.base) (L:=X.env.locals) (by rw[<- hst];exact J.ok.frames) fr2 hf hxo fun h3 T3 sz3 al3 k3=>?_
  refine gh al3 fun h4 al4 k4=>?_
  have kx:d7 ((X.env::X.outer).filterMap (·.frame)) [a] s1.heap h4:=k3.trans (k4.mono (fun _ z=>nomatch z) fun b z=>z) fun b ob q z=>by
   rw[List.mem_singleton.mp z]at q;exact absurd (Nat.lt_of_lt_of_le (Heap.lt_size q) sz3) (Nat.lt_irrefl _)
  have un4:Un (frs X.stack) [] H1 (upd H1 a (.ext (XAt a C dx false))) s1.heap h4:=Un.ny Un.refl kx (fun b hb=>by
   rw[List.mem_singleton.mp hb];exact .inl ⟨_,ea⟩) (fun b hb=>.inl (by rw[hst];exact hb)) (FJ ea)
  have ok4:HOk X.prog X.w (upd H1 a (.ext (XAt a C dx false))) h4:=HOk.ny (a:=a) J.hok kx (fun b hb=>J.ko b (by rw[hst];exact hb)) (fun b hb=>.inl (List.mem_singleton.mp hb)) ea (fun b hb=>ag hb) (fun o q=>by rw[ao]at q;cases q;exact al4.at.ok) ⟨_,ao⟩
  have J4:Inv X pins σ1 (upd H1 a (.ext (XAt a C dx false))) { s1 with heap:=h4 }:=J.Ay (s':={ s1 with heap:=h4 }) (ch:=[]) rfl un4 ok4 J.bare (fun b z=>nomatch z)
  have tb:=Tb.of J sz3;exact hh pins _ σ1 _ D a C T3 dx J4 ao al4 ⟨by rw[ag al3.1];exact tb.n,tb.l,tb.z,tb.c,tb.p⟩ hE
 ·have q:=q.pL I.ok;cases f with
  | next=>exact wpAny_execs_nil q
  | brk=>exact q
  | cont=>exact q
  | ret u=>exact q
end
def FT(sp:Sp)(Es:St->XK)(t:TA):TE:=fun σ H Q=>t σ H fun vs H1=>sp vs H1 Q (Es σ)
section
variable{X:Cx}{CX:CXT}{k:Nat}{f:Addr}{fd:FuncData}{ps:List Str}{sp:Sp}{Es:St->XK}{x:Str}{p pos:Pos}{e:Expr}{es:List Expr}{t:TA}
theorem Ho(F:bG X.prog X.w X.K X.mg X.base CX k f fd ps sp)(hr:dO k X.A)(hg:Gl X x)(hm:X.mg x=some (.ref f))(hk:W.keepIn X.K (.ref f)=true)(hb:Binds X.K fd ps [])(hx:kL CX X Es)
  (ha:PA X (e::es) t) (hdb:(x ==("__debug__":Str))=false:=by decide) (he:starEach (e::es) X.env =(false,eval e X.env)::starEach es X.env:=by rfl) (hpl:(backTo pos (starEach es X.env)).any (·.1)=false:=by rfl) :
  PE X (.Call (.Name x p) (e::es) [] pos) (FT sp Es t):=by
 intro pins s σ H Q I h;refine wpAny_Call_Name_kw (kH I hg hm ?_ hdb);refine W.callWith_K (h₀:=X.base) I.ok.mod.kin hk (thn (ha pos pins s σ H _ I h) fun us s1 ⟨vs,H1,I1,r,q⟩=>⟨I1.kIn,?_⟩) he hpl
 have hl:(us ++ []).length=ps.length:=by rw[List.append_nil,<- r.length];exact F.len _ _ _ _ q
 have hbd:=hb s1 us I1.kIn hl;rw[List.append_nil]at hbd;refine wpAny_call (codeAny_mono (F.run X.A X.stack s1 H1 ⟨us,[]⟩ us vs Q (Es σ) hr I1.Po hbd r q) fun r s' hq=>?_)
 cases r with
 | error e=>exact hx pins σ H1 s1 e s' I1 hq
 | ok fl =>
  cases fl with
  | ret u=>exact I1.after hq
  | next=>exact False.elim hq
  | brk=>exact False.elim hq
  | cont=>exact False.elim hq
theorem Fun.okX{P:Program}{w:World}{K:W.Frag}{mg:Str->Option Value}{base:Heap}{x qual:Str}{st:Stmt}{f:Addr}{fd:FuncData}{N ps:List Str}{k:Nat}{sp:Sp}(F:Fun K x qual st f fd)(S:aX N ps (aj st))(len:∀ vs H Q E,sp vs H Q E->vs.length=ps.length)
  (nB:∀(cdv:Value)(A:Around)(outer:List Env)(s:Shared)(H:Hp)(vs:List V)(Q:VK)(E:XK),dO k (A.deeper (envOfC qual (aj st) s.heap.objs.size f cdv))->sp vs H Q E ->
   ∃ t,PSs (pq (CX1 P w) P w K mg base N qual (aj st) f cdv A outer s H E) (aF st) t/\t { nx:=fun _ H'=>Q .non H',rt:=Q } (start N vs) H):bG P w K mg base (CX1 P w) (k+1) f fd ps sp:=by
 obtain⟨oc,od,kV,doc,pm,an,cdv,ct,osl,rfl,lk,hcd⟩:=F.ex;exact M9 lk hcd S len fun A outer s H vs Q E hr hsp=>nB cdv A outer s H vs Q E hr hsp
end
def PEp(X:Cx)(e:Expr)(t:TE):Prop :=
 ∀(pins:List (Addr×Obj))(s:Shared)(σ:St)(H:Hp)(Q:VK),Inv X pins σ H s->t σ H Q->wpAny (model X.prog X.w) X.A (eval e X.env) (fun u s'=>EP X pins σ Q u s'/\0<s'.toks) X.xe s
def PE1(X:Cx)(e:Expr)(t:TE):Prop :=
 ∀(pins:List (Addr×Obj))(s:Shared)(σ:St)(H:Hp)(Q:VK),Inv X pins σ H s->0<s.toks->t σ H Q->wpAny (model X.prog X.w) X.A (eval e X.env) (EP X pins σ Q) X.xe s
def PA1(X:Cx)(es:List Expr)(t:TA):Prop :=
 ∀(pos:Pos)(pins:List (Addr×Obj))(s:Shared)(σ:St)(H:Hp)(Q:List V->Hp->Prop),Inv X pins σ H s->0<s.toks->t σ H Q->wpAny (model X.prog X.w) X.A (spliced (backTo pos (starEach es X.env))) (AP X pins σ Q) X.xe s
section
variable{X:Cx}{e o a b:Expr}{es:List Expr}{te to ta tb:TE}{t:TA}{pos bc apos:Pos}
theorem grown{α:Type}{M:Model}{A:Around}{c:Sem α}{Q Q':α->Shared->Prop}{E:Value->Shared->Prop}{s:Shared}(h0:0<s.toks)(h:wpAny M A c Q E s)(hQ:∀ a s',Q a s'->0<s'.toks->Q' a s'):wpAny M A c Q' E s :=
 wpAny_mono (wpAny_toks_of h0 h) (fun a s' x=>hQ a s' x.2 x.1) (fun _ _ x=>x.2)
theorem K5{x j}:PEp X (.Constant (.str x) j pos) (tC (.str x)):=fun _ _ _ H _ I h=>Calls.Constant_str ⟨⟨.str x,H,I.tok _,⟨_,rfl⟩,h⟩,Nat.succ_pos _⟩
theorem K6{op:Operator}{r:R2}(ho:OpR X (binaryOp op) r)(ha:PE X a ta)(hb:PEp X b tb):PEp X (.BinOp a op b pos) (tOp r ta tb):=by
 intro pins s σ H Q I h;refine wpAny_BinOp (thn (ha pins s σ H _ I h) fun v s1 ⟨x,H1,I1,r1,q1⟩=>thn (hb pins s1 σ H1 _ I1 q1) fun u s2 ⟨⟨y,H2,I2,r2,q2⟩,h0⟩=>?_)
 exact grown h0 (ho pins s2 σ H2 x y v u Q I2 r1 r2 q2) fun _ _ h h0=>⟨h,h0⟩
theorem K7{op:Operator}{r:R2}(ho:OpR X (binaryOp op) r)(ha:PEp X a ta)(hb:PE X b tb):PEp X (.BinOp a op b pos) (tOp r ta tb):=by
 intro pins s σ H Q I h;refine wpAny_BinOp (thn (ha pins s σ H _ I h) fun v s1 ⟨⟨x,H1,I1,r1,q1⟩,h0⟩=>grown h0 (hb pins s1 σ H1 _ I1 q1) fun u s2 ⟨y,H2,I2,r2,q2⟩ h0=>?_)
 exact grown h0 (ho pins s2 σ H2 x y v u Q I2 r1 r2 q2) fun _ _ h h0=>⟨h,h0⟩
theorem PA.one(h:PA X es t):PA1 X es t:=fun pos pins s σ H Q I _ q=>h pos pins s σ H Q I q
theorem Ht(ha:PE1 X e te)(hr:PA1 X es t)(hs:starEach (e::es) X.env =(false,eval e X.env)::starEach es X.env:=by rfl):PA1 X (e::es) (cM te t):=by
 intro pos pins s σ H Q I h0 h;rw[hs];show wpAny _ _ (spliced ((false,eval e X.env)::backTo pos (starEach es X.env))) _ _ s;refine Calls.spliced_cons (grown h0 (ha pins s σ H _ I h0 h) fun u s1 ⟨x,H1,I1,r1,q1⟩ h1=>?_)
 refine thn (hr pos pins s1 σ H1 _ I1 h1 q1) fun us s2 hPP=>?_
 obtain⟨xs,H2,I2,r2,q2⟩:=hPP;exact⟨x::xs,H2,I2,.cons r1 r2,q2⟩
theorem Hs(ha:PEp X e te)(hr:PA1 X es t)(hs:starEach (e::es) X.env =(false,eval e X.env)::starEach es X.env:=by rfl):PA X (e::es) (cM te t):=by
 intro pos pins s σ H Q I h;rw[hs];show wpAny _ _ (spliced ((false,eval e X.env)::backTo pos (starEach es X.env))) _ _ s;refine Calls.spliced_cons (thn (ha pins s σ H _ I h) fun u s1 ⟨⟨x,H1,I1,r1,q1⟩,h1⟩=>?_)
 refine thn (hr pos pins s1 σ H1 _ I1 h1 q1) fun us s2 hPP=>?_
 obtain⟨xs,H2,I2,r2,q2⟩:=hPP;exact⟨x::xs,H2,I2,.cons r1 r2,q2⟩
def MJ(y z:Str)(to:TE):TE:=fun σ H Q=>to σ H fun x H1=>∃ w,x = .str w/\w.length<=1048576/\Q (.str (Txt.replace w y z)) H1
theorem K8{y z:Str}{j1 j2:Nat}{p1 p2:Pos}(ho:PE X o to)(hyz:(y==z)=false:=by decide +kernel)(hz:z.length<=14:=by decide +kernel)
  (dJ:attributeBase o "replace" X.env (eval o X.env)=eval o X.env:=by rfl)
  (mD:((backTo bc (starEach [.Constant (.str y) j1 p1,.Constant (.str z) j2 p2] X.env)).all (fun x=>!x.1)&&(backToKw bc (keywordEach [] X.env)).all (fun x=>x.1.isSome)
   && decide (([.Constant (.str y) j1 p1,.Constant (.str z) j2 p2]:List Expr).length+([]:List Keyword).length+(if([]:List Keyword).isEmpty then 0 else 1)<30))=true:=by rfl)
  (dI:(apos.endLine==bc.line)=true:=by rfl) :
  PE1 X (.Call (.Attribute o "replace" apos) [.Constant (.str y) j1 p1,.Constant (.str z) j2 p2] [] bc) (MJ y z to):=by
 intro pins s σ H Q I h0 h;refine wpAny_Call_method_late dJ mD dI rfl (grown h0 (ho pins s σ H _ I h) fun v s1 ⟨x,H1,I1,r1,w,ex,hw,q1⟩ h1=>?_)
 subst ex;obtain⟨t,rfl⟩:=r1;refine⟨"str","str.replace",PySem.F.plainAttrs_str,PySem.F.slot_str_replace,PySem.F.type_str_replace,typeIs_str _ _ _,(fun _ e=>by cases e),?_⟩
 refine Calls.callWith_builtin rfl (Calls.evalArgs_plain ?_);show wpAny _ _ (spliced ((false,eval (.Constant (.str y) j1 p1) X.env) ::(false,eval (.Constant (.str z) j2 p2) X.env) :: [])) _ _ _;refine Calls.spliced_cons (Calls.Constant_str (Calls.spliced_cons (Calls.Constant_str (Calls.spliced_nil ?_))));refine SC.replaceW (Nat.ne_of_gt h1) (Nat.succ_ne_zero _) (Nat.ne_of_lt (Nat.lt_succ_self _)) hyz hw hz fun t' k=>?_
 exact⟨.str _,H1,I1.tok _,⟨_,rfl⟩,q1⟩
end
theorem len0{P:List Value->Prop}(h:P [])(us:List Value)(e:us.length=0):P us:=by rw[List.length_eq_zero_iff.mp e];exact h
theorem sO{P:List Value->Prop}(h:∀ a,P [a])(us:List Value)(e:us.length=1):P us:=by
 cases us with
 | nil=>cases e
 | cons a r=>exact len0 (P:=fun r=>P (a::r)) (h a) r (Nat.succ.inj e)
theorem sN{P:List Value->Prop}(h:∀ a b,P [a,b])(us:List Value)(e:us.length=2):P us:=by
 cases us with
 | nil=>cases e
 | cons a r=>exact sO (P:=fun r=>P (a::r)) (h a) r (Nat.succ.inj e)
theorem zK{P:List Value->Prop}(h:∀ a b c,P [a,b,c])(us:List Value)(e:us.length=3):P us:=by
 cases us with
 | nil=>cases e
 | cons a r=>exact sN (P:=fun r=>P (a::r)) (h a) r (Nat.succ.inj e)
theorem Rn{P:List Value->Prop}(h:∀ a b c d,P [a,b,c,d])(us:List Value)(e:us.length=4):P us:=by
 cases us with
 | nil=>cases e
 | cons a r=>exact zK (P:=fun r=>P (a::r)) (h a) r (Nat.succ.inj e)
theorem SR{P:List Value->Prop}(h:∀ a b c d e,P [a,b,c,d,e])(us:List Value)(e:us.length=5):P us:=by
 cases us with
 | nil=>cases e
 | cons a r=>exact Rn (P:=fun r=>P (a::r)) (h a) r (Nat.succ.inj e)
inductive T where
 | n|b (x:Bool)|i (x:Int)|s (x:Str)|t (xs:List T)|l (xs:List T)|d (ks:List (Key×T))|jc|z (ns:List Int)|ty (x:String)|k (ws:List Str)|q|fd (o:Obj) (vs:List (Key×V)) (ks:List (Key×T))|xc (C:Addr) (ns:List Str) (ts:List T)
abbrev Dl:=List (Addr×Addr)
def FzL(K:W.Frag)(H:Hp)(a:Addr)(xs:List V):Prop:=(∃ o,H a=some (.frz o (.lst xs))) \/
  ∃(o:Obj)(its:Array Value)(n:Nat),K.lookup a=some o/\o.cls = .type "list" /\ o.dict=none/\o.data = .seq its n/\its.size<=sizeLine/\Vals xs its.toList
theorem FzL.sq{K:W.Frag}{H:Hp}{a:Addr}{xs:List V}(h:FzL K H a xs):SqL K H a xs:=by
 rcases h with h|h
 ·exact .inl (.inr h)
 ·exact .inr h
mutual
inductive aN(K:W.Frag)(dl:Dl)(H:Hp):V->T->List Addr->Prop where
 | n:aN K dl H .non .n []
 | b(x:Bool):aN K dl H (.bl x) (.b x) []
 | i(x:Int):aN K dl H (.int x) (.i x) []
 | s(x:Str):aN K dl H (.str x) (.s x) []
 | ty(x:String):aN K dl H (.ty x) (.ty x) []
 | t{a:Addr}{vs:List V}{ts:List T}{F:List Addr}:H a=some (.tup vs)->av K dl H vs ts F->aN K dl H (.ref a) (.t ts) F
 | l{a:Addr}{vs:List V}{ts:List T}{F:List Addr}:H a=some (.lst vs)->av K dl H vs ts F->aN K dl H (.ref a) (.l ts) (a::F)
 | d{a:Addr}{vs:List (Key×V)}{ts:List (Key×T)}{F:List Addr}:H a=some (.dK vs)->a7 K dl H vs ts F->aN K dl H (.ref a) (.d ts) (a::F)
 | x{a l:Addr}:(a,l)∈dl->aN K dl H (.ref a) .jc []
 | z{a:Addr}{ns:List Int}:FzL K H a (ns.map V.int)->aN K dl H (.ref a) (.z ns) []
 | q{a:Addr}{xs:List V}:H a=some (.lst xs)->aN K dl H (.ref a) .q []
 | fd{a:Addr}{o:Obj}{vs:List (Key×V)}{ts:List (Key×T)}:H a=some (.frz o (.dK vs))->a7 K dl H vs ts []->aN K dl H (.ref a) (.fd o vs ts) []
 | k{a:Addr}{ws:List Str}:(∀ H':Hp,SqT K H' a (ws.map V.str))->aN K dl H (.ref a) (.k ws) []
 | e{a C:Addr}{b:Bool}{ns:List Str}{vs:List V}{ts:List T}:ExH H a C b (ns.zip vs)->av K dl H vs ts []->aN K dl H (.ref a) (.xc C ns ts) []
inductive av(K:W.Frag)(dl:Dl)(H:Hp):List V->List T->List Addr->Prop where
 | nil:av K dl H [] [] []
 | cons{v:V}{x:T}{vs:List V}{ts:List T}{F G:List Addr}:aN K dl H v x F->av K dl H vs ts G->av K dl H (v::vs) (x::ts) (F++G)
inductive a7(K:W.Frag)(dl:Dl)(H:Hp):List (Key×V)->List (Key×T)->List Addr->Prop where
 | nil:a7 K dl H [] [] []
 | cons{k:Key}{v:V}{x:T}{vs:List (Key×V)}{ts:List (Key×T)}{F G:List Addr}:aN K dl H v x F->a7 K dl H vs ts G->a7 K dl H ((k,v)::vs) ((k,x)::ts) (F++G)
end
structure TF(H H':Hp):Prop where
 t:∀ a vs,H a=some (.tup vs)->H' a=some (.tup vs)
 f:∀ a o u,H a=some (.frz o u)->H' a=some (.frz o u)
 x:∀ a φ,H a=some (.ext φ)->H' a=some (.ext φ)
 q:∀ a xs,H a=some (.lst xs)->∃ ys,H' a=some (.lst ys)
theorem ExH.tf{H H':Hp}{a C:Addr}{b:Bool}{fs:List (Str×V)}(h:ExH H a C b fs)(k:TF H H'):ExH H' a C b fs:=by
 rcases h with⟨h1,h2⟩ |⟨d,h1,h2,h3⟩
 ·exact .inl ⟨h1,k.x _ _ h2⟩
 ·exact .inr ⟨d,h1,k.x _ _ h2,k.x _ _ h3⟩
theorem FzL.tf{K:W.Frag}{H H':Hp}{a:Addr}{vs:List V}(h:FzL K H a vs)(k:TF H H'):FzL K H' a vs:=by
 rcases h with⟨o,h⟩|h
 ·exact .inl ⟨o,k.f _ _ _ h⟩
 ·exact .inr h
theorem dE{α:Type}{p:α->Prop}:∀ b∈([]:List α),p b:=fun _ h=>absurd h List.not_mem_nil
theorem aN.dU{K:W.Frag}{dl dl':Dl}{H H':Hp}(k:TF H H')(hd:∀ p∈dl,p∈dl'){v:V}{t:T}{F:List Addr}(h:aN K dl H v t F):(∀ b∈F,∀ o,H b=some o->H' b=some o)->aN K dl' H' v t F :=
 aN.rec (motive_1:=fun v t F _=>(∀ b∈F,∀ o,H b=some o->H' b=some o)->aN K dl' H' v t F) (motive_2:=fun v t F _=>(∀ b∈F,∀ o,H b=some o->H' b=some o)->av K dl' H' v t F) (motive_3:=fun v t F _=>(∀ b∈F,∀ o,H b=some o->H' b=some o)->a7 K dl' H' v t F)
  (fun _=>.n) (fun x _=>.b x) (fun x _=>.i x) (fun x _=>.s x) (fun x _=>.ty x) (fun h _ ih q=>.t (k.t _ _ h) (ih q))
  (fun h _ ih q=>.l (q _ List.mem_cons_self _ h) (ih fun b hb=>q b (List.mem_cons_of_mem _ hb))) (fun h _ ih q=>.d (q _ List.mem_cons_self _ h) (ih fun b hb=>q b (List.mem_cons_of_mem _ hb)))
  (fun h _=>.x (hd _ h)) (fun h _=>.z (h.tf k)) (fun h _=>Exists.elim (k.q _ _ h) fun _ e=>.q e) (fun h _ ih _=>.fd (k.f _ _ _ h) (ih dE)) (fun h _=>.k h) (fun h _ ih _=>.e (h.tf k) (ih dE))
  (fun _=>.nil) (fun _ _ i1 i2 q=>.cons (i1 fun b hb=>q b (List.mem_append_left _ hb)) (i2 fun b hb=>q b (List.mem_append_right _ hb)))
  (fun _=>.nil) (fun _ _ i1 i2 q=>.cons (i1 fun b hb=>q b (List.mem_append_left _ hb)) (i2 fun b hb=>q b (List.mem_append_right _ hb))) h
theorem av.ind{K:W.Frag}{dl:Dl}{H:Hp}{M:List V->List T->List Addr->Prop}(nil:M [] [] [])(cons:∀ v x vs ts F G,aN K dl H v x F->av K dl H vs ts G->M vs ts G->M (v::vs) (x::ts) (F++G)){vs:List V}{ts:List T}{F:List Addr}(h:av K dl H vs ts F):M vs ts F :=
 av.rec (motive_1:=fun _ _ _ _=>True) (motive_2:=fun v t F _=>M v t F) (motive_3:=fun _ _ _ _=>True) trivial (fun _=>trivial) (fun _=>trivial) (fun _=>trivial) (fun _=>trivial) (fun _ _ _=>trivial) (fun _ _ _=>trivial) (fun _ _ _=>trivial)
  (fun _=>trivial) (fun _=>trivial) (fun _=>trivial) (fun _ _ _=>trivial) (fun _=>trivial) (fun _ _ _=>trivial) nil (fun h r _ ih=>cons _ _ _ _ _ _ h r ih) trivial (fun _ _ _ _=>trivial) h
theorem a7.ind{K:W.Frag}{dl:Dl}{H:Hp}{M:List (Key×V)->List (Key×T)->List Addr->Prop}(nil:M [] [] [])(cons:∀ k v x vs ts F G,aN K dl H v x F->a7 K dl H vs ts G->M vs ts G->M ((k,v)::vs) ((k,x)::ts) (F++G)){vs:List (Key×V)}{ts:List (Key×T)}{F:List Addr}(h:a7 K dl H vs ts F):M vs ts F :=
 a7.rec (motive_1:=fun _ _ _ _=>True) (motive_2:=fun _ _ _ _=>True) (motive_3:=fun v t F _=>M v t F) trivial (fun _=>trivial) (fun _=>trivial) (fun _=>trivial) (fun _=>trivial) (fun _ _ _=>trivial) (fun _ _ _=>trivial) (fun _ _ _=>trivial)
  (fun _=>trivial) (fun _=>trivial) (fun _=>trivial) (fun _ _ _=>trivial) (fun _=>trivial) (fun _ _ _=>trivial) trivial (fun _ _ _ _=>trivial) nil (fun h r _ ih=>cons _ _ _ _ _ _ _ h r ih) h
theorem av.dU{K:W.Frag}{dl dl':Dl}{H H':Hp}(k:TF H H')(hd:∀ p∈dl,p∈dl'){vs:List V}{ts:List T}{F:List Addr}(h:av K dl H vs ts F):(∀ b∈F,∀ o,H b=some o->H' b=some o)->av K dl' H' vs ts F :=
 h.ind (M:=fun vs ts F=>(∀ b∈F,∀ o,H b=some o->H' b=some o)->av K dl' H' vs ts F) (fun _=>.nil) (fun _ _ _ _ _ _ h _ ih q=>.cons (h.dU k hd fun b hb=>q b (List.mem_append_left _ hb)) (ih fun b hb=>q b (List.mem_append_right _ hb)))
theorem a7.dU{K:W.Frag}{dl dl':Dl}{H H':Hp}(k:TF H H')(hd:∀ p∈dl,p∈dl'){vs:List (Key×V)}{ts:List (Key×T)}{F:List Addr}(h:a7 K dl H vs ts F):(∀ b∈F,∀ o,H b=some o->H' b=some o)->a7 K dl' H' vs ts F :=
 h.ind (M:=fun vs ts F=>(∀ b∈F,∀ o,H b=some o->H' b=some o)->a7 K dl' H' vs ts F) (fun _=>.nil) (fun _ _ _ _ _ _ _ h _ ih q=>.cons (h.dU k hd fun b hb=>q b (List.mem_append_left _ hb)) (ih fun b hb=>q b (List.mem_append_right _ hb)))
theorem ox{H:Hp}{F G:List Addr}(h:∀ b∈F,(∃ xs,H b=some (.lst xs))\/∃ ks,H b=some (.dK ks))(r:∀ b∈G,(∃ xs,H b=some (.lst xs))\/∃ ks,H b=some (.dK ks)):∀ b∈F++G,(∃ xs,H b=some (.lst xs))\/∃ ks,H b=some (.dK ks):=fun b hb=>(List.mem_append.mp hb).elim (h b) (r b)
theorem aN.there{K:W.Frag}{dl:Dl}{H:Hp}{v:V}{t:T}{F:List Addr}(h:aN K dl H v t F):∀ b∈F,(∃ xs,H b=some (.lst xs))\/∃ ks,H b=some (.dK ks) :=
 aN.rec (motive_1:=fun _ _ F _=>∀ b∈F,(∃ xs,H b=some (.lst xs))\/∃ ks,H b=some (.dK ks)) (motive_2:=fun _ _ F _=>∀ b∈F,(∃ xs,H b=some (.lst xs))\/∃ ks,H b=some (.dK ks)) (motive_3:=fun _ _ F _=>∀ b∈F,(∃ xs,H b=some (.lst xs))\/∃ ks,H b=some (.dK ks))
  dE (fun _=>dE) (fun _=>dE) (fun _=>dE) (fun _=>dE) (fun _ _ ih=>ih)
  (fun h _ ih b hb=>(List.mem_cons.mp hb).elim (fun e=>by rw[e];exact .inl ⟨_,h⟩) (ih b)) (fun h _ ih b hb=>(List.mem_cons.mp hb).elim (fun e=>by rw[e];exact .inr ⟨_,h⟩) (ih b))
  (fun _=>dE) (fun _=>dE) (fun _=>dE) (fun _ _ _=>dE) (fun _=>dE) (fun _ _ _=>dE)
  dE (fun _ _ i1 i2=>ox i1 i2) dE (fun _ _ i1 i2=>ox i1 i2) h
theorem av.there{K:W.Frag}{dl:Dl}{H:Hp}{vs:List V}{ts:List T}{F:List Addr}(h:av K dl H vs ts F):∀ b∈F,(∃ xs,H b=some (.lst xs))\/∃ ks,H b=some (.dK ks):=h.ind (M:=fun _ _ F=>∀ b∈F,(∃ xs,H b=some (.lst xs))\/∃ ks,H b=some (.dK ks)) dE (fun _ _ _ _ _ _ h _ ih=>ox h.there ih)
def Nd(dl:Dl)(b:Addr):Prop:=∀ p∈dl,b≠p.1/\b≠p.2
def Dls(dl:Dl)(H:Hp):Prop:=∀ p∈dl,uB H p.1 p.2
theorem Dls.nd{dl:Dl}{H:Hp}(D:Dls dl H){b:Addr}{o:HO}(h:H b=some o)(h1:∀ xs,o ≠ .lst xs)(h2:∀ ks,o ≠ .dK ks):Nd dl b:=fun p hp=>by
 obtain⟨s,n,ls,Q⟩:=D p hp;exact⟨cv h Q.hd (h2 _),cv h Q.hl (h1 _)⟩
theorem Dls.nd0{dl:Dl}{H:Hp}(D:Dls dl H){b:Addr}(h:H b=none):Nd dl b:=fun p hp=>by
 obtain⟨s,n,ls,Q⟩:=D p hp;exact⟨(ar Q.hd h).symm,(ar Q.hl h).symm⟩
structure Evo(dl:Dl)(H H':Hp):Prop where
 k:∀ b o,H b=some o->Nd dl b->H' b=some o
 d:Dls dl H'
theorem Evo.refl{dl:Dl}{H:Hp}(D:Dls dl H):Evo dl H H:=⟨fun _ _ h _=>h,D⟩
theorem Evo.trans{dl:Dl}{H H1 H2:Hp}(a:Evo dl H H1)(b:Evo dl H1 H2):Evo dl H H2:=⟨fun c o h n=>b.k c o (a.k c o h n) n,b.d⟩
theorem Evo.tf{dl:Dl}{H H':Hp}(e:Evo dl H H')(D:Dls dl H):TF H H' :=
 ⟨fun a vs h=>e.k a _ h (D.nd h (fun _ z=>nomatch z) fun _ z=>nomatch z),fun a o u h=>e.k a _ h (D.nd h (fun _ z=>nomatch z) fun _ z=>nomatch z),fun a φ h=>e.k a _ h (D.nd h (fun _ z=>nomatch z) fun _ z=>nomatch z),fun a xs h=>by
  by_cases hn:Nd dl a
  ·exact⟨xs,e.k a _ h hn⟩
  ·unfold Nd at hn;obtain⟨p,hp,z⟩:∃ p∈dl,¬(a≠p.1/\a≠p.2):=Classical.byContradiction fun c=>hn fun p hp=>Classical.byContradiction fun z=>c ⟨p,hp,z⟩
   obtain⟨s,n,ls,Q⟩:=D p hp;obtain⟨s',n',ls',Q'⟩:=e.d p hp;have h1:a≠p.1:=cv h Q.hd (fun z=>nomatch z)
   have h2:a=p.2:=Classical.byContradiction fun z'=>z ⟨h1,z'⟩
   exact⟨_,by rw[h2];exact Q'.hl⟩⟩
theorem Evo.new{dl:Dl}{H H1:Hp}{p:Addr}{o:HO}(e:Evo dl H H1)(hp:H1 p=none):Evo dl H (upd H1 p o) :=
 ⟨fun c u h n=>by rw[ag (ar (e.k c u h n) hp)];exact e.k c u h n,fun q hq=>(e.d q hq).new hp⟩
theorem Evo.free{dl:Dl}{H H':Hp}(e:Evo dl H H'){p:Addr}(hp:H' p=none):H p=none:=by
 cases q:H p with
 | none=>rfl
 | some o=>rw[e.k p o q (e.d.nd0 hp)]at hp;cases hp
structure Rp(K:W.Frag)(dl:Dl)(H:Hp)(v:V)(t:T)(F:List Addr):Prop where
 r:aN K dl H v t F
 n:∀ b∈F,Nd dl b
structure Rps(K:W.Frag)(dl:Dl)(H:Hp)(vs:List V)(ts:List T)(F:List Addr):Prop where
 r:av K dl H vs ts F
 n:∀ b∈F,Nd dl b
theorem Rp.evo{K:W.Frag}{dl:Dl}{H H':Hp}{v:V}{t:T}{F:List Addr}(h:Rp K dl H v t F)(D:Dls dl H)(e:Evo dl H H'):Rp K dl H' v t F :=
 ⟨h.r.dU (e.tf D) (fun _ q=>q) fun b hb o q=>e.k b o q (h.n b hb),h.n⟩
theorem Rps.evo{K:W.Frag}{dl:Dl}{H H':Hp}{v:List V}{t:List T}{F:List Addr}(h:Rps K dl H v t F)(D:Dls dl H)(e:Evo dl H H'):Rps K dl H' v t F :=
 ⟨h.r.dU (e.tf D) (fun _ q=>q) fun b hb o q=>e.k b o q (h.n b hb),h.n⟩
inductive Sl where
 | no|o (t:T)|r (t:T)
abbrev Sq:=List Sl
def Sl.get:Sl->Option T
 | .no=>none
 | .o t=>some t
 | .r t=>some t
structure RdR(K:W.Frag)(dl:Dl)(H:Hp)(σ:St)(q:Sq):Prop where
 d:Dls dl H
 g:∀(i:Nat)(x:Sl)(t:T),q[i]? = some x->x.get=some t->∃ v F,σ[i]? = some (some v)/\Rp K dl H v t F
theorem RdR.evo{K:W.Frag}{dl:Dl}{H H':Hp}{σ:St}{q:Sq}(h:RdR K dl H σ q)(e:Evo dl H H'):RdR K dl H' σ q :=
 ⟨e.d,fun i x t h1 h2=>let⟨v,F,h3,h4⟩:=h.g i x t h1 h2;⟨v,F,h3,h4.evo h.d e⟩⟩
abbrev QE:=Sq ->(T->Prop)->Prop
abbrev QT:=Sq ->(Bool->Prop)->Prop
abbrev QA:=Sq ->(List T->Prop)->Prop
def ki(K:W.Frag)(te:TE)(tq:QE):Prop:=∀(dl:Dl)(H:Hp)(σ:St)(q:Sq)(Q:T->Prop)(R:V->Hp->Prop),RdR K dl H σ q->tq q Q ->
 (∀ v t F H',Evo dl H H'->Rp K dl H' v t F->Q t->R v H')->te σ H R
def k8(K:W.Frag)(te:TE)(tq:QE):Prop:=∀(dl:Dl)(H:Hp)(σ:St)(q:Sq)(Q:T->Prop)(R:V->Hp->Prop),RdR K dl H σ q->tq q Q ->
 (∀ v t F H',Evo dl H H'->Rp K dl H' v t F ->(∀ b∈F,H b=none)->F.Nodup->Q t->R v H')->te σ H R
def mJ(K:W.Frag)(te:TT)(tq:QT):Prop:=∀(dl:Dl)(H:Hp)(σ:St)(q:Sq)(Q:Bool->Prop)(R:Bool->Hp->Prop),RdR K dl H σ q->tq q Q ->
 (∀ b H',Evo dl H H'->Q b->R b H')->te σ H R
def MC(K:W.Frag)(n:Nat)(te:TA)(tq:QA):Prop:=∀(dl:Dl)(H:Hp)(σ:St)(q:Sq)(Q:List T->Prop)(R:List V->Hp->Prop),RdR K dl H σ q->tq q Q ->
 (∀ vs ts F H',Evo dl H H'->Rps K dl H' vs ts F->vs.length=n->Q ts->R vs H')->te σ H R
def Dt(K:W.Frag)(n:Nat)(te:TA)(tq:QA):Prop:=∀(dl:Dl)(H:Hp)(σ:St)(q:Sq)(Q:List T->Prop)(R:List V->Hp->Prop),RdR K dl H σ q->tq q Q ->
 (∀ vs ts F H',Evo dl H H'->Rps K dl H' vs ts F->vs.length=n ->(∀ b∈F,H b=none)->F.Nodup->Q ts->R vs H')->te σ H R
structure QPE(X:Cx)(K:W.Frag)(e:Expr)(te:TE)(tq:QE):Prop where
 h:PE X e te
 s:ki K te tq
structure QPF(X:Cx)(K:W.Frag)(e:Expr)(te:TE)(tq:QE):Prop where
 h:PE X e te
 s:k8 K te tq
structure QPT(X:Cx)(K:W.Frag)(e:Expr)(te:TT)(tq:QT):Prop where
 h:PT X e te
 s:mJ K te tq
structure QPW(X:Cx)(K:W.Frag)(e:Expr)(te:TT)(tq:QT):Prop where
 h:PW X e te
 s:mJ K te tq
structure QPA(X:Cx)(K:W.Frag)(es:List Expr)(te:TA)(tq:QA):Prop where
 h:PA X es te
 s:MC K es.length te tq
structure aC(X:Cx)(K:W.Frag)(es:List Expr)(te:TA)(tq:QA):Prop where
 h:PA X es te
 s:Dt K es.length te tq
section
variable{X:Cx}{K:W.Frag}{a b c e:Expr}{es rest:List Expr}{ta tb tc te:TE}{qa qb qc qe:QE}{tA tB:TT}{qA qB:QT}{tl:TA}{ql:QA}{pos:Pos}
theorem QPF.w(h:QPF X K e te qe):QPE X K e te qe:=⟨h.h,fun dl H σ q Q R rd hq k=>h.s dl H σ q Q R rd hq fun v t F H' e r _ _ z=>k v t F H' e r z⟩
mutual
def T.im:T->Bool
 | .t xs=>T.ims xs
 | .l _=>false
 | .d _=>false
 | _=>true
def T.ims:List T->Bool
 | []=>true
 | x::r=>x.im&&T.ims r
end
theorem BL{F G:List Addr}{x y:Bool}(h:x=true->F = [])(r:y=true->G = [])(q:(x&&y)=true):F++G = []:=by rw[h (Bool.and_eq_true _ _▸q).1,r (Bool.and_eq_true _ _▸q).2];rfl
theorem aN.im{dl:Dl}{H:Hp}{v:V}{t:T}{F:List Addr}(h:aN K dl H v t F):t.im=true->F = [] :=
 aN.rec (motive_1:=fun _ t F _=>t.im=true->F = []) (motive_2:=fun _ t F _=>T.ims t=true->F = []) (motive_3:=fun _ _ _ _=>True)
  (fun _=>rfl) (fun _ _=>rfl) (fun _ _=>rfl) (fun _ _=>rfl) (fun _ _=>rfl) (fun _ _ ih=>ih) (fun _ _ _ h=>absurd h Bool.false_ne_true) (fun _ _ _ h=>absurd h Bool.false_ne_true)
  (fun _ _=>rfl) (fun _ _=>rfl) (fun _ _=>rfl) (fun _ _ _ _=>rfl) (fun _ _=>rfl) (fun _ _ _ _=>rfl) (fun _=>rfl) (fun _ _ i1 i2=>BL i1 i2) trivial (fun _ _ _ _=>trivial) h
theorem av.im{dl:Dl}{H:Hp}{v:List V}{t:List T}{F:List Addr}(h:av K dl H v t F):T.ims t=true->F = []:=h.ind (M:=fun _ t F=>T.ims t=true->F = []) (fun _=>rfl) (fun _ _ _ _ _ _ h _ ih=>BL h.im ih)
def qIm(qe:QE):QE:=fun q Q=>qe q fun t=>t.im=true/\Q t
theorem QPE.f(h:QPE X K e te qe):QPF X K e te (qIm qe):=⟨h.h,fun dl H σ q Q R rd hq k=>h.s dl H σ q _ R rd hq fun v t F H' e r ⟨z1,z2⟩=>by
 have f:=r.r.im z1;subst f;exact k v t [] H' e r (fun _ z=>nomatch z) List.nodup_nil z2⟩
def rZ(i:Nat):QE:=fun q Q=>match q[i]? with
 | some (.o t)=>Q t
 | some (.r t)=>Q t
 | _=>False
theorem Kg(i:Nat):ki K (eZ i) (rZ i):=by
 intro dl H σ q Q R rd hq k;unfold rZ at hq
 split at hq
 ·rename_i t e;obtain⟨v,F,h1,h2⟩:=rd.g i _ t e rfl;exact⟨v,h1,k v t F H (.refl rd.d) h2 hq⟩
 ·rename_i t e;obtain⟨v,F,h1,h2⟩:=rd.g i _ t e rfl;exact⟨v,h1,k v t F H (.refl rd.d) h2 hq⟩
 ·exact hq.elim
theorem qv(i:Nat){x:Str}{pos:Pos}(hN:X.N[i]? = some x:=by rfl)(hv:Vis X.env.scope x:=by first|exact Or.inl rfl|exact Or.inr (Or.inl rfl)|exact Or.inr (Or.inr rfl))(hd:(x ==("__debug__":Str))=false:=by decide)
  (hcd:(x ==("__classdict__":Str))=false:=by decide):QPE X K (.Name x pos) (eZ i) (rZ i):=⟨Hh hN hv hd hcd,Kg i⟩
def qC(t:T):QE:=fun _ Q=>Q t
theorem y4{v:V}{t:T}(h:∀ dl H,aN K dl H v t []):k8 K (tC v) (qC t):=fun dl H σ q Q R rd hq k=>k v t [] H (.refl rd.d) ⟨h dl H,fun _ z=>nomatch z⟩ (fun _ z=>nomatch z) List.nodup_nil hq
theorem aq{i j pos}:QPF X K (.Constant (.int i) j pos) (tC (.int i)) (qC (.i i)):=⟨br,y4 fun _ _=>.i i⟩
theorem ze{b j pos}:QPF X K (.Constant (.bool b) j pos) (tC (.bl b)) (qC (.b b)):=⟨Rc,y4 fun _ _=>.b b⟩
theorem dW{j pos}:QPF X K (.Constant .none j pos) (tC .non) (qC .n):=⟨Hj,y4 fun _ _=>.n⟩
theorem aI{x j pos}:QPF X K (.Constant (.str x) j pos) (tC (.str x)) (qC (.s x)):=⟨b6,y4 fun _ _=>.s x⟩
theorem GH{x:Str}{n:String}{pos:Pos}(hg:Gl X x)(hm:X.mg x=none)(hv:bootBuiltins x=some (.type n))(hn:x ≠ "__name__":=by decide)(hd:(x ==("__debug__":Str))=false:=by decide):QPF X K (.Name x pos) (tC (.ty n)) (qC (.ty n)) :=
 ⟨CQ hg hm hv rfl hn hd,y4 fun _ _=>.ty n⟩
theorem lY{dl:Dl}{H:Hp}:∀(ws:List Str),av K dl H (ws.map V.str) (ws.map T.s) []
 | []=>.nil
 | w::r=>.cons (F:=[]) (.s w) (lY r)
theorem rT{dl:Dl}{H:Hp}:∀(ws:List Int),av K dl H (ws.map V.int) (ws.map T.i) []
 | []=>.nil
 | w::r=>.cons (F:=[]) (.i w) (rT r)
abbrev Q2:=T->T ->(T->Prop)->Prop
def MB(K:W.Frag)(r:R2)(rq:Q2):Prop:=∀(dl:Dl)(H:Hp)(x y:V)(t u:T)(F G:List Addr)(Q:T->Prop)(R:V->Hp->Prop),Dls dl H->Rp K dl H x t F->Rp K dl H y u G->rq t u Q ->
 (∀ v z F' H',Evo dl H H'->Rp K dl H' v z F'->Q z->R v H')->r x y H R
def fL(K:W.Frag)(r:R2)(rq:Q2):Prop:=∀(dl:Dl)(H:Hp)(x y:V)(t u:T)(F G:List Addr)(Q:T->Prop)(R:V->Hp->Prop),Dls dl H->Rp K dl H x t F->Rp K dl H y u G->rq t u Q ->
 (∀ v z F' H',Evo dl H H'->Rp K dl H' v z F' ->(∀ b∈F',H b=none)->F'.Nodup->Q z->R v H')->r x y H R
theorem fL.w{r:R2}{rq:Q2}(h:fL K r rq):MB K r rq:=fun dl H x y t u F G Q R d a b hq k=>h dl H x y t u F G Q R d a b hq fun v z F' H' e r _ _ z'=>k v z F' H' e r z'
def qOp(rq:Q2)(qa qb:QE):QE:=fun q Q=>qa q fun t=>qb q fun u=>rq t u Q
theorem AY{r:R2}{rq:Q2}(ho:MB K r rq)(ha:ki K ta qa)(hb:ki K tb qb):ki K (tOp r ta tb) (qOp rq qa qb):=by
 intro dl H σ q Q R rd hq k;refine ha dl H σ q _ _ rd hq fun v t F H1 e1 r1 hq1=>?_
 refine hb dl H1 σ q _ _ (rd.evo e1) hq1 fun w u G H2 e2 r2 hq2=>?_
 exact ho dl H2 v w t u F G Q R e2.d (r1.evo e1.d e2) r2 hq2 fun v' z F' H3 e3 r3 hz=>k v' z F' H3 ((e1.trans e2).trans e3) r3 hz
theorem wQ{r:R2}{rq:Q2}(ho:fL K r rq)(ha:ki K ta qa)(hb:ki K tb qb):k8 K (tOp r ta tb) (qOp rq qa qb):=by
 intro dl H σ q Q R rd hq k;refine ha dl H σ q _ _ rd hq fun v t F H1 e1 r1 hq1=>?_
 refine hb dl H1 σ q _ _ (rd.evo e1) hq1 fun w u G H2 e2 r2 hq2=>?_
 exact ho dl H2 v w t u F G Q R e2.d (r1.evo e1.d e2) r2 hq2 fun v' z F' H3 e3 r3 f3 n3 hz=>k v' z F' H3 ((e1.trans e2).trans e3) r3 (fun b hb=>(e1.trans e2).free (f3 b hb)) n3 hz
theorem rW{op:Operator}{r:R2}{rq:Q2}(ho:OpR X (binaryOp op) r)(hs:fL K r rq)(ha:QPE X K a ta qa)(hb:QPE X K b tb qb):QPF X K (.BinOp a op b pos) (tOp r ta tb) (qOp rq qa qb):=⟨dc ho ha.h hb.h,wQ hs ha.s hb.s⟩
end
end L2
namespace L2
open PySem PySem.Spec PyProof.Rows
section
variable{X:Cx}{K:W.Frag}{dl:Dl}{H:Hp}{v:V}{F:List Addr}
def Sm(K:W.Frag)(dl:Dl)(H:Hp)(v:V)(F:List Addr):T->Prop
 | .n=>v = .non/\F = []
 | .b x=>v = .bl x/\F = []
 | .i x=>v = .int x/\F = []
 | .s x=>v = .str x/\F = []
 | .ty x=>v = .ty x
 | .t ts=>∃ a vs,v = .ref a/\H a=some (.tup vs)/\av K dl H vs ts F
 | .l ts=>∃ a vs G,v = .ref a/\F=a::G/\H a=some (.lst vs)/\av K dl H vs ts G
 | .d ts=>∃ a vs G,v = .ref a/\F=a::G/\H a=some (.dK vs)/\a7 K dl H vs ts G
 | .jc=>∃ a l,v = .ref a/\(a,l)∈dl/\F = []
 | .z ns=>∃ a,v = .ref a/\FzL K H a (ns.map V.int)/\F = []
 | .k ws=>∃ a,v = .ref a/\(∀ H',SqT K H' a (ws.map V.str))/\F = []
 | .xc C ns ts=>∃ a b vs,v = .ref a/\F = []/\ExH H a C b (ns.zip vs)/\av K dl H vs ts []
 | .q=>True
 | .fd _ _ _=>True
theorem aN.inv{t:T}(h:aN K dl H v t F):Sm K dl H v F t :=
 aN.rec (motive_1:=fun v t F _=>Sm K dl H v F t) (motive_2:=fun _ _ _ _=>True) (motive_3:=fun _ _ _ _=>True) ⟨rfl,rfl⟩ (fun _=>⟨rfl,rfl⟩) (fun _=>⟨rfl,rfl⟩) (fun _=>⟨rfl,rfl⟩) (fun _=>rfl)
  (fun h r _=>⟨_,_,rfl,h,r⟩) (fun h r _=>⟨_,_,_,rfl,rfl,h,r⟩) (fun h r _=>⟨_,_,_,rfl,rfl,h,r⟩) (fun h=>⟨_,_,rfl,h,rfl⟩) (fun h=>⟨_,rfl,h,rfl⟩) (fun _=>trivial) (fun _ _ _=>trivial) (fun h=>⟨_,rfl,h,rfl⟩) (fun h r _=>⟨_,_,_,rfl,rfl,h,r⟩)
  trivial (fun _ _ _ _=>trivial) trivial (fun _ _ _ _=>trivial) h
theorem aN.int{x:Int}(h:aN K dl H v (.i x) F):v = .int x/\F = []:=h.inv
theorem aN.str{x:Str}(h:aN K dl H v (.s x) F):v = .str x/\F = []:=h.inv
theorem aN.bl{x:Bool}(h:aN K dl H v (.b x) F):v = .bl x/\F = []:=h.inv
theorem aN.non(h:aN K dl H v .n F):v = .non/\F = []:=h.inv
theorem aN.tyy{x:String}(h:aN K dl H v (.ty x) F):v = .ty x:=h.inv
theorem aN.tup{ts:List T}(h:aN K dl H v (.t ts) F):∃ a vs,v = .ref a/\H a=some (.tup vs)/\av K dl H vs ts F:=h.inv
theorem aN.lst{ts:List T}(h:aN K dl H v (.l ts) F):∃ a vs G,v = .ref a/\F=a::G/\H a=some (.lst vs)/\av K dl H vs ts G:=h.inv
theorem aN.dic{ts:List (Key×T)}(h:aN K dl H v (.d ts) F):∃ a vs G,v = .ref a/\F=a::G/\H a=some (.dK vs)/\a7 K dl H vs ts G:=h.inv
theorem aN.dea(h:aN K dl H v .jc F):∃ a l,v = .ref a/\(a,l)∈dl/\F = []:=h.inv
theorem aN.scr{ns:List Int}(h:aN K dl H v (.z ns) F):∃ a,v = .ref a/\FzL K H a (ns.map V.int)/\F = []:=h.inv
theorem aN.kst{ws:List Str}(h:aN K dl H v (.k ws) F):∃ a,v = .ref a/\(∀ H',SqT K H' a (ws.map V.str))/\F = []:=h.inv
theorem av.len{vs:List V}{ts:List T}{F:List Addr}(h:av K dl H vs ts F):vs.length=ts.length:=h.ind (M:=fun vs ts _=>vs.length=ts.length) rfl fun _ _ _ _ _ _ _ _ ih=>congrArg (· + 1) ih
theorem a7.len{vs:List (Key×V)}{ts:List (Key×T)}{F:List Addr}(h:a7 K dl H vs ts F):vs.length=ts.length:=h.ind (M:=fun vs ts _=>vs.length=ts.length) rfl fun _ _ _ _ _ _ _ _ _ ih=>congrArg (· + 1) ih
theorem av.RS{vs:List V}{ts:List T}{F:List Addr}{i:Nat}{t:T}(h:av K dl H vs ts F)(e:ts[i]? = some t):∃ v G,vs[i]? = some v/\aN K dl H v t G/\G.Sublist F :=
 h.ind (M:=fun vs ts F=>∀(i:Nat)(t:T),ts[i]? = some t->∃ v G,vs[i]? = some v/\aN K dl H v t G/\G.Sublist F) (fun _ _ e=>nomatch e) (fun v x vs ts F G h _ ih i t e=>by
  cases i with
  | zero=>cases e;exact⟨v,F,rfl,h,List.sublist_append_left _ _⟩
  | succ i =>
   obtain⟨w,G',h1,h2,h3⟩:=ih i t e;exact⟨w,G',h1,h2,h3.trans (List.sublist_append_right _ _)⟩) i t e
theorem av.get{vs:List V}{ts:List T}{F:List Addr}{i:Nat}{t:T}(h:av K dl H vs ts F)(e:ts[i]? = some t):∃ v G,vs[i]? = some v/\aN K dl H v t G/\∀ b∈G,b∈F :=
 Exists.elim (h.RS e) fun v z=>Exists.elim z fun G z=>⟨v,G,z.1,z.2.1,fun _ hb=>z.2.2.subset hb⟩
theorem av.append{vs ws:List V}{ts us:List T}{F G:List Addr}(h:av K dl H vs ts F)(h2:av K dl H ws us G):av K dl H (vs++ws) (ts++us) (F++G) :=
 h.ind (M:=fun vs ts F=>av K dl H (vs++ws) (ts++us) (F++G)) h2 fun _ _ _ _ _ _ h _ ih=>by rw[List.append_assoc];exact .cons h ih
theorem av.iW{vs:List V}{ts:List T}(h:av K dl H vs ts F):vs = [] ↔ ts = []:=by
 cases h with
 | nil=>simp
 | cons _ _=>simp
theorem av.drop:∀{vs:List V}{ts:List T}{F:List Addr}(n:Nat),av K dl H vs ts F->∃ G,av K dl H (vs.drop n) (ts.drop n) G/\G.Sublist F
 | _,_,F,0,h=>⟨F,h,List.Sublist.refl _⟩
 | _,_,_,_+1,.nil=>⟨[],.nil,List.Sublist.refl _⟩
 | _,_,_,n+1,.cons (F:=F1) h r=>by
  obtain⟨G,h1,h2⟩:=av.drop n r;exact⟨G,h1,h2.trans (List.sublist_append_right _ _)⟩
theorem av.take:∀{vs:List V}{ts:List T}{F:List Addr}(n:Nat),av K dl H vs ts F->∃ G,av K dl H (vs.take n) (ts.take n) G/\G.Sublist F
 | _,_,F,0,h=>⟨[],.nil,List.nil_sublist _⟩
 | _,_,_,_+1,.nil=>⟨[],.nil,List.Sublist.refl _⟩
 | _,_,_,n+1,.cons (F:=F1) h r=>by
  obtain⟨G,h1,h2⟩:=av.take n r;exact⟨_,.cons h h1,h2.append_left _⟩
theorem Rp.sub{t:T}{F G:List Addr}(r:aN K dl H v t G)(n:∀ b∈F,Nd dl b)(h:∀ b∈G,b∈F):Rp K dl H v t G:=⟨r,fun b hb=>n b (h b hb)⟩
theorem Rp.c{t:T}(r:aN K dl H v t []):Rp K dl H v t []:=⟨r,fun _ z=>nomatch z⟩
theorem Rps.tup{vs:List V}{ts:List T}{p:Addr}(h:Rps K dl H vs ts F)(D:Dls dl H)(hp:H p=none):Rp K dl (upd H p (.tup vs)) (.ref p) (.t ts) F :=
 have h2:=h.evo D ((Evo.refl D).new (o:=.tup vs) hp)
 ⟨.t ao h2.r,h2.n⟩
theorem Rps.lst{vs:List V}{ts:List T}{p:Addr}(h:Rps K dl H vs ts F)(D:Dls dl H)(hp:H p=none):Rp K dl (upd H p (.lst vs)) (.ref p) (.l ts) (p::F) :=
 have h2:=h.evo D ((Evo.refl D).new (o:=.lst vs) hp)
 ⟨.l ao h2.r,fun b hb=>by
  rcases List.mem_cons.mp hb with e|hb
  ·rw[e];exact D.nd0 hp
  ·exact h2.n b hb⟩
theorem Rps.fresh{vs:List V}{ts:List T}{p:Addr}(h:Rps K dl H vs ts F)(hp:H p=none)(hn:F.Nodup):(p::F).Nodup:=List.nodup_cons.mpr ⟨fun z=>(by
 rcases h.r.there p z with⟨_,e⟩ |⟨_,e⟩
 ·rw[hp]at e;cases e
 ·rw[hp]at e;cases e),hn⟩
def qII(C:Int->Int->Prop)(g:Int->Int->T):Q2:=fun t u Q=>match t,u with
 | .i a,.i b=>C a b/\Q (g a b)
 | _,_=>False
theorem MN{C:Int->Int->Prop}{g:Int->Int->V}{g':Int->Int->T}(hg:∀ a b dl H,aN K dl H (g a b) (g' a b) []):fL K (rI C g) (qII C g'):=by
 intro dl H x y t u F G Q R D r1 r2 hq k;unfold qII at hq
 split at hq
 ·obtain⟨rfl,rfl⟩:=r1.r.int;obtain⟨rfl,rfl⟩:=r2.r.int;exact⟨_,_,rfl,rfl,hq.1,k _ _ [] H (.refl D) (.c (hg _ _ _ _)) (fun _ z=>nomatch z) List.nodup_nil hq.2⟩
 ·exact hq.elim
def qI0(g:Int->Int->T):Q2:=fun t u Q=>match t,u with
 | .i a,.i b=>Q (g a b)
 | _,_=>False
theorem gd{g:Int->Int->V}{g':Int->Int->T}(hg:∀ a b dl H,aN K dl H (g a b) (g' a b) []):fL K (rI0 g) (qI0 g'):=by
 intro dl H x y t u F G Q R D r1 r2 hq k;unfold qI0 at hq
 split at hq
 ·obtain⟨rfl,rfl⟩:=r1.r.int;obtain⟨rfl,rfl⟩:=r2.r.int;exact⟨_,_,rfl,rfl,k _ _ [] H (.refl D) (.c (hg _ _ _ _)) (fun _ z=>nomatch z) List.nodup_nil hq⟩
 ·exact hq.elim
theorem Lf:OpR X (binaryOp .Add) (fun x y H Q=>∃ a b xs ys,x = .ref a/\y = .ref b/\SqT X.K H a xs/\SqT X.K H b ys/\xs.length+ys.length<=sizeLine /\
  (xs = []->Q (.ref b) H)/\(xs ≠ []->ys = []->Q (.ref a) H)/\(xs ≠ []->ys ≠ []->∀ p,H p=none->Q (.ref p) (upd H p (.tup (xs++ys))))):=by
 intro pins s σ H x y v u Q I rx ry h;obtain⟨a,b,xs,ys,rfl,rfl,ha,hb,hz,q0,q1,q2⟩:=h;by_cases hx:xs = []
 ·cases rx;cases ry;obtain⟨its,r1,p1,_⟩:=I.tuple ha;obtain⟨eU,r2,p2,_⟩:=I.tuple hb;have e:its = []:=r1.iW.mpr hx;subst e;obtain⟨⟨cls,dd,data,sl⟩,ho,hc,n,hd⟩:=id p1;obtain⟨⟨Tr,dd2,data2,sl2⟩,ho2,hc2,n2,hd2⟩:=id p2;simp only at hc hd hc2 hd2;subst hc hd hc2 hd2;exact concat_meets ⟨_,ho,rfl⟩ ⟨_,ho2,rfl⟩ noFill_tuple_add seq_tuple_add PySem.F.slot_tuple_add PySem.F.entry_tuple_add (PySem.F.args_tuple_add_2 _ _)
   (tuple_addW0 a b ([]:List Value).toArray eU.toArray n n2 dd dd2 sl sl2 (by simp)) ⟨ho,ho2,⟨.ref b,H,I,rfl,q0 hx⟩⟩
 ·exact Lg pins s σ H _ _ v u Q I rx ry ⟨a,b,xs,ys,rfl,rfl,ha,hb,hx,hz,q1 hx,q2 hx⟩
def za(K:W.Frag):R2:=fun x y H Q=>rI0 (fun i j=>.int (i+j)) x y H Q\/(∃ i j,x = .str i/\y = .str j/\i.length+j.length<=sizeLine/\Q (.str (i++j)) H)\/Qr x y H Q \/
 (∃ a b xs ys,x = .ref a/\y = .ref b/\SqT K H a xs/\SqT K H b ys/\xs.length+ys.length<=sizeLine /\
  (xs = []->Q (.ref b) H)/\(xs ≠ []->ys = []->Q (.ref a) H)/\(xs ≠ []->ys ≠ []->∀ p,H p=none->Q (.ref p) (upd H p (.tup (xs++ys)))))
theorem xt(hK:X.K=K):OpR X (binaryOp .Add) (za K):=by subst hK;exact oQ.or (Bh.or (Ox.or Lf))
def DT:Q2:=fun t u Q=>match t,u with
 | .i a,.i b=>Q (.i (a+b))
 | .s a,.s b=>a.length+b.length<=sizeLine/\Q (.s (a++b))
 | .l a,.l b=>a.length+b.length<=sizeLine/\T.ims a=true/\T.ims b=true/\Q (.l (a++b))
 | .t a,.t b=>a.length+b.length<=sizeLine/\T.ims a=true/\T.ims b=true/\Q (.t (a++b))
 | _,_=>False
theorem CF:fL K (za K) DT:=by
 intro dl H x y t u F G Q R D r1 r2 hq k;have no:∀ b:Addr,b∈([]:List Addr)->H b=none:=fun _ z=>nomatch z
 unfold DT at hq
 split at hq
 ·obtain⟨rfl,rfl⟩:=r1.r.int;obtain⟨rfl,rfl⟩:=r2.r.int;exact .inl ⟨_,_,rfl,rfl,k _ _ [] H (.refl D) (.c (.i _)) no List.nodup_nil hq⟩
 ·obtain⟨rfl,rfl⟩:=r1.r.str;obtain⟨rfl,rfl⟩:=r2.r.str;exact .inr (.inl ⟨_,_,rfl,rfl,hq.1,k _ _ [] H (.refl D) (.c (.s _)) no List.nodup_nil hq.2⟩)
 ·obtain⟨a,vs,F1,rfl,rfl,h1,s1⟩:=r1.r.lst;obtain⟨b,ws,G1,rfl,rfl,h2,s2⟩:=r2.r.lst;obtain rfl:=s1.im hq.2.1;obtain rfl:=s2.im hq.2.2.1;refine .inr (.inr (.inl ⟨a,b,vs,ws,rfl,rfl,h1,h2,by rw[s1.len,s2.len];exact hq.1,fun p hp=>?_⟩))
  have rs:Rps K dl H (vs++ws) _ ([] ++ []):=⟨s1.append s2,fun c hc=>nomatch hc⟩
  exact k _ _ _ _ ((Evo.refl D).new hp) (rs.lst D hp) (fun b hb=>by rw[List.mem_singleton.mp hb];exact hp) (by simp) hq.2.2.2
 ·obtain⟨a,vs,rfl,h1,s1⟩:=r1.r.tup;obtain⟨b,ws,rfl,h2,s2⟩:=r2.r.tup;obtain rfl:=s1.im hq.2.1;obtain rfl:=s2.im hq.2.2.1;refine .inr (.inr (.inr ⟨a,b,vs,ws,rfl,rfl,SqT.of h1,SqT.of h2,by rw[s1.len,s2.len];exact hq.1,fun e=>?_,fun e1 e2=>?_,fun _ _ p hp=>?_⟩))
  ·refine k _ _ [] H (.refl D) r2 no List.nodup_nil ?_;have z:=s1.iW.mp e;subst z;exact hq.2.2.2
  ·refine k _ _ [] H (.refl D) r1 no List.nodup_nil ?_;have z:=s2.iW.mp e2;subst z;have hq2:=hq.2.2.2;rw[List.append_nil]at hq2;exact hq2
  ·have rs:Rps K dl H (vs++ws) _ ([] ++ []):=⟨s1.append s2,fun c hc=>nomatch hc⟩
   exact k _ _ _ _ ((Evo.refl D).new hp) (rs.tup D hp) no List.nodup_nil hq.2.2.2
 ·exact hq.elim
def N8:Q2:=fun t u Q=>match t,u with
 | .i a,.i b=>JK a b/\Q (.i (a*b))
 | .s a,.i b=>0<=b/\b<=1000/\a.length<=1000/\Q (.s (gj a b.toNat))
 | _,_=>False
def GB:R2:=fun x y H Q=>rI JK (fun i j=>.int (i*j)) x y H Q\/(∃ z n,x = .str z/\y = .int n/\0<=n/\n<=1000/\z.length<=1000/\Q (.str (gj z n.toNat)) H)
theorem Le:OpR X (binaryOp .Mult) GB:=mv.or Bf
theorem Kn:fL K GB N8:=by
 intro dl H x y t u F G Q R D r1 r2 hq k;unfold N8 at hq
 split at hq
 ·obtain⟨rfl,rfl⟩:=r1.r.int;obtain⟨rfl,rfl⟩:=r2.r.int;exact .inl ⟨_,_,rfl,rfl,hq.1,k _ _ [] H (.refl D) (.c (.i _)) (fun _ z=>nomatch z) List.nodup_nil hq.2⟩
 ·obtain⟨rfl,rfl⟩:=r1.r.str;obtain⟨rfl,rfl⟩:=r2.r.int;exact .inr ⟨_,_,rfl,rfl,hq.1,hq.2.1,hq.2.2.1,k _ _ [] H (.refl D) (.c (.s _)) (fun _ z=>nomatch z) List.nodup_nil hq.2.2.2⟩
 ·exact hq.elim
end
section
variable{X:Cx}{K:W.Frag}{a b:Expr}{ta tb:TE}{qa qb:QE}{pos:Pos}
theorem ax(ha:QPE X K a ta qa)(hb:QPE X K b tb qb)(hK:X.K=K:=by rfl):QPF X K (.BinOp a .Add b pos) (tOp (za K) ta tb) (qOp DT qa qb):=rW (xt hK) CF ha hb
theorem A6(ha:QPE X K a ta qa)(hb:QPE X K b tb qb):QPF X K (.BinOp a .Sub b pos) (tOp (rI0 fun i j=>.int (i - j)) ta tb) (qOp (qI0 fun i j=>.i (i - j)) qa qb):=rW Hw (gd fun _ _ _ _=>.i _) ha hb
theorem rX(ha:QPE X K a ta qa)(hb:QPE X K b tb qb):QPF X K (.BinOp a .Mult b pos) (tOp GB ta tb) (qOp N8 qa qb):=rW Le Kn ha hb
theorem GJ(ha:QPE X K a ta qa)(hb:QPE X K b tb qb):QPF X K (.BinOp a .Mod b pos) (tOp (rI (fun _ j=>0<j) fun i j=>.int (i % j)) ta tb) (qOp (qII (fun _ j=>0<j) fun i j=>.i (i % j)) qa qb):=rW iV (MN fun _ _ _ _=>.i _) ha hb
theorem KG(ha:QPE X K a ta qa)(hb:QPE X K b tb qb):QPF X K (.BinOp a .FloorDiv b pos) (tOp (rI JL fun i j=>.int (i / j)) ta tb) (qOp (qII JL fun i j=>.i (i / j)) qa qb):=rW zx (MN fun _ _ _ _=>.i _) ha hb
end
section
variable{X:Cx}{K:W.Frag}{a b c e:Expr}{es rest:List Expr}{ta tb tc te:TE}{qa qb qc qe:QE}{tA tB:TT}{qA qB:QT}{tl:TA}{ql:QA}{pos:Pos}
def T.v:T->V
 | .n=>.non | .b x=>.bl x | .i x=>.int x | .s x=>.str x | _=>.ty ""
def T.fl:T->Bool
 | .n=>true | .b _=>true | .i _=>true | .s _=>true | _=>false
theorem aN.v{dl:Dl}{H:Hp}{v:V}{t:T}{F:List Addr}(h:aN K dl H v t F)(f:t.fl=true):v=t.v/\F = []:=by
 cases h <;> first|exact⟨rfl,rfl⟩|exact absurd (show false=true from f) Bool.false_ne_true
def qEq:Q2:=fun t u Q=>(t.fl&&u.fl&&Gq t.v u.v)=true/\Q (.b (decide (t.v=u.v)))
def qNe:Q2:=fun t u Q=>(t.fl&&u.fl&&Gq t.v u.v)=true/\Q (.b (!decide (t.v=u.v)))
theorem NM:fL K rEq qEq:=by
 intro dl H x y t u F G Q R D r1 r2 hq k;obtain⟨h,hq⟩:=hq;rw[Bool.and_eq_true,Bool.and_eq_true]at h;obtain⟨rfl,rfl⟩:=r1.r.v h.1.1;obtain⟨rfl,rfl⟩:=r2.r.v h.1.2;exact⟨h.2,k _ _ [] H (.refl D) (.c (.b _)) (fun _ z=>nomatch z) List.nodup_nil hq⟩
theorem oF:fL K rNe qNe:=by
 intro dl H x y t u F G Q R D r1 r2 hq k;obtain⟨h,hq⟩:=hq;rw[Bool.and_eq_true,Bool.and_eq_true]at h;obtain⟨rfl,rfl⟩:=r1.r.v h.1.1;obtain⟨rfl,rfl⟩:=r2.r.v h.1.2;exact⟨h.2,k _ _ [] H (.refl D) (.c (.b _)) (fun _ z=>nomatch z) List.nodup_nil hq⟩
def QN(neg:Bool):Q2:=fun t u Q=>match u with
 | .n=>Q (.b (match t with | .n=>!neg | _=>neg))
 | _=>False
theorem mW:fL K (fun x y H Q=>y = .non/\Q (.bl (decide (x = .non))) H) (QN false):=by
 intro dl H x y t u F G Q R D r1 r2 hq k;unfold QN at hq
 split at hq
 ·obtain⟨rfl,rfl⟩:=r2.r.non;refine⟨rfl,k _ _ [] H (.refl D) (.c (.b _)) (fun _ z=>nomatch z) List.nodup_nil ?_⟩
  cases r1.r <;> exact hq
 ·exact hq.elim
def inT(x:T)(xs:List T):Bool:=xs.any fun y=>eqV y.v x.v
def fls(xs:List T):Bool:=xs.all T.fl
theorem av.vs{dl:Dl}{H:Hp}{vs:List V}{ts:List T}{F:List Addr}(h:av K dl H vs ts F):fls ts=true->vs=ts.map T.v/\F = [] :=
 h.ind (M:=fun vs ts F=>fls ts=true->vs=ts.map T.v/\F = []) (fun _=>⟨rfl,rfl⟩) fun _ _ _ _ _ _ h _ ih f=>by
  have f:(_&&_)=true:=f;rw[Bool.and_eq_true]at f;obtain⟨rfl,rfl⟩:=h.v f.1;obtain⟨rfl,rfl⟩:=ih f.2;exact⟨rfl,rfl⟩
theorem tH{ts:List T}(f:fls ts=true):(ts.map T.v).all gJ=true:=by
 rw[List.all_eq_true];intro x hx;obtain⟨t,ht,rfl⟩:=List.mem_map.mp hx
 have:=List.all_eq_true.mp f t ht
 cases t <;> first|rfl|exact absurd this Bool.false_ne_true
theorem L9{t:T}(f:t.fl=true):gJ t.v=true:=by cases t <;> first|rfl|exact absurd f Bool.false_ne_true
def Kx(K:W.Frag)(neg:Bool):R2:=fun x y H Q=>rIn K neg x y H Q\/∃ i j,x = .str i/\y = .str j/\Q (.bl (if neg then !(!(Builtin.Str.occurrences j i 0 j.length 1).isEmpty)else !(Builtin.Str.occurrences j i 0 j.length 1).isEmpty)) H
theorem xr(hK:X.K=K):OpR X (compareOp .In) (Kx K false):=by subst hK;exact Ea.or D9
theorem D8(hK:X.K=K):OpR X (compareOp .NotIn) (Kx K true):=by subst hK;exact xq.or xp
def qIn(neg:Bool):Q2:=fun t u Q=>match u with
 | .l xs=>(t.fl&&fls xs)=true/\Q (.b (if neg then !inT t xs else inT t xs))
 | .t xs=>(t.fl&&fls xs)=true/\Q (.b (if neg then !inT t xs else inT t xs))
 | .k ws=>match t with
  | .s y=>Q (.b (if neg then !inT (.s y) (ws.map T.s)else inT (.s y) (ws.map T.s)))
  | _=>False
 | .s z=>match t with
  | .s y=>Q (.b (if neg then !(!(Builtin.Str.occurrences z y 0 z.length 1).isEmpty)else !(Builtin.Str.occurrences z y 0 z.length 1).isEmpty))
  | _=>False
 | _=>False
theorem rO{neg:Bool}:fL K (Kx K neg) (qIn neg):=by
 intro dl H x y t u F G Q R D r1 r2 hq k;have go:∀(xs:List T)(p:Addr)(vs:List V),y = .ref p ->(SqL K H p vs\/SqT K H p vs) ->(∃ G,av K dl H vs xs G) ->(t.fl&&fls xs)=true/\Q (.b (if neg then !inT t xs else inT t xs))->Kx K neg x y H R:=by
  rintro xs p vs rfl hs ⟨G,rs⟩ ⟨f,hq⟩
  rw[Bool.and_eq_true]at f;obtain⟨rfl,rfl⟩:=r1.r.v f.1;obtain⟨rfl,_⟩:=rs.vs f.2;refine .inl ⟨p,_,rfl,hs,L9 f.1,tH f.2,k _ (.b _) [] H (.refl D) (.c (.b _)) (fun _ z=>nomatch z) List.nodup_nil ?_⟩
  have e:inV t.v (xs.map T.v)=inT t xs:=by unfold inV inT;rw[List.any_map];rfl
  rw[e];exact hq
 unfold qIn at hq
 split at hq
 ·obtain⟨p,vs,G,rfl,_,h1,h2⟩:=r2.r.lst;exact go _ p vs rfl (.inl (SqL.of h1)) ⟨_,h2⟩ hq
 ·obtain⟨p,vs,rfl,h1,h2⟩:=r2.r.tup;exact go _ p vs rfl (.inr (SqT.of h1)) ⟨_,h2⟩ hq
 ·split at hq
  ·obtain⟨p,rfl,h1,_⟩:=r2.r.kst;refine go _ p _ rfl (.inr (h1 H)) ⟨_,lY _⟩ ⟨?_,hq⟩;rw[Bool.and_eq_true];refine⟨rfl,?_⟩;unfold fls;rw[List.all_map,List.all_eq_true];exact fun _ _=>rfl
  ·exact hq.elim
 ·split at hq
  ·obtain⟨rfl,rfl⟩:=r1.r.str;obtain⟨rfl,rfl⟩:=r2.r.str;exact .inr ⟨_,_,rfl,rfl,k _ _ [] H (.refl D) (.c (.b _)) (fun _ z=>nomatch z) List.nodup_nil hq⟩
  ·exact hq.elim
 ·exact hq.elim
theorem iT{op:CmpOp}{r:R2}{rq:Q2}(ho:OpR X (compareOp op) r)(hs:fL K r rq)(hm:behindInMarks op b=false)(ha:QPE X K a ta qa)(hb:QPE X K b tb qb):QPF X K (.Compare a [op] [b] pos) (tOp r ta tb) (qOp rq qa qb) :=
 ⟨Lc ho ha.h hb.h hm,wQ hs ha.s hb.s⟩
def MR(qe:QE):QT:=fun q Q=>qe q fun t=>match t with
 | .b x=>Q x
 | _=>False
theorem Gg(h:ki K te qe):mJ K (FP te) (MR qe):=by
 intro dl H σ q Q R rd hq k;refine h dl H σ q _ _ rd hq fun v t F H' e r hz=>?_
 split at hz
 ·obtain⟨rfl,rfl⟩:=r.r.bl;exact⟨_,rfl,k _ H' e hz⟩
 ·exact hz.elim
theorem aV{op:CmpOp}{r:R2}{rq:Q2}(ho:OpR X (compareOp op) r)(hs:fL K r rq)(hm:behindInMarks op b=false)(ha:QPE X K a ta qa)(hb:QPE X K b tb qb):QPT X K (.Compare a [op] [b] pos) (FP (tOp r ta tb)) (MR (qOp rq qa qb)) :=
 ⟨ed ho ha.h hb.h hm,Gg (AY hs.w ha.s hb.s)⟩
def Qx(qe:QE):QT:=fun q Q=>qe q fun t=>match t with
 | .b x=>Q x
 | .n=>Q false
 | .i x=>Q (x != 0)
 | .s x=>x.length<=sizeLine/\Q ((x.length:Int) != 0)
 | .l xs=>Q (!xs.isEmpty)
 | .t xs=>Q (!xs.isEmpty)
 | .d xs=>Q (!xs.isEmpty)
 | _=>False
theorem Ki(h:ki K te qe):mJ K (fun σ H Q=>te σ H fun x H'=>∃ k,MA K x H' k/\Q k H') (Qx qe):=by
 intro dl H σ q Q R rd hq k;refine h dl H σ q _ _ rd hq fun v t F H' e r hz=>?_
 have emp:∀{α β:Type}{xs:List α}{ys:List β},xs.length=ys.length ->(!xs.isEmpty) = !ys.isEmpty:=fun{α β xs ys} h=>by
  cases xs <;> cases ys <;> first|rfl |(simp at h)
 split at hz
 ·obtain⟨rfl,rfl⟩:=r.r.bl;exact⟨_,rfl,k _ H' e hz⟩
 ·obtain⟨rfl,rfl⟩:=r.r.non;exact⟨_,rfl,k _ H' e hz⟩
 ·obtain⟨rfl,rfl⟩:=r.r.int;exact⟨_,rfl,k _ H' e hz⟩
 ·obtain⟨rfl,rfl⟩:=r.r.str;exact⟨_,⟨hz.1,rfl⟩,k _ H' e hz.2⟩
 ·obtain⟨p,vs,G,rfl,_,h1,h2⟩:=r.r.lst;exact⟨_,.inl ⟨vs,SqL.of h1,rfl⟩,k _ H' e (by rw[emp h2.len];exact hz)⟩
 ·obtain⟨p,vs,rfl,h1,h2⟩:=r.r.tup;exact⟨_,.inr (.inl ⟨vs,SqT.of h1,rfl⟩),k _ H' e (by rw[emp h2.len];exact hz)⟩
 ·obtain⟨p,vs,G,rfl,_,h1,h2⟩:=r.r.dic;exact⟨_,.inr (.inr ⟨vs,h1,rfl⟩),k _ H' e (by rw[emp h2.len];exact hz)⟩
 ·exact hz.elim
theorem dG(h:QPE X K e te qe)(he:∀ whole,isTrue e X.env whole =(do let v <- whole;standAt e.pos;holding [v] (truthy v)):=by intro _;rfl)(hK:X.K=K:=by rfl) :
  QPT X K e (fun σ H Q=>te σ H fun x H'=>∃ k,MA K x H' k/\Q k H') (Qx qe):=⟨by subst hK;exact sd h.h he,Ki h.s⟩
def QF(t:QT):QT:=fun q Q=>t q fun c=>Q (!c)
def QU(t u:QT):QT:=fun q Q=>t q fun c=>if c=true then u q Q else Q false
def qOr(t u:QT):QT:=fun q Q=>t q fun c=>if c=true then Q true else u q Q
theorem Km(h:mJ K tA qA):mJ K (Nw tA) (QF qA):=fun dl H σ q _ R rd hq k=>h dl H σ q _ _ rd hq fun b H' e hz=>k _ H' e hz
theorem Kq(h:mJ K tA qA)(h2:mJ K tB qB):mJ K (Nx tA tB) (QU qA qB):=fun dl H σ q Q R rd hq k=>h dl H σ q _ _ rd hq fun b H' e hz=>by
 cases b with
 | false=>exact k _ H' e hz
 | true=>exact h2 dl H' σ q Q R (rd.evo e) hz fun c H2 e2 z=>k c H2 (e.trans e2) z
theorem NL(h:mJ K tA qA)(h2:mJ K tB qB):mJ K (tOr tA tB) (qOr qA qB):=fun dl H σ q Q R rd hq k=>h dl H σ q _ _ rd hq fun b H' e hz=>by
 cases b with
 | true=>exact k _ H' e hz
 | false=>exact h2 dl H' σ q Q R (rd.evo e) hz fun c H2 e2 z=>k c H2 (e.trans e2) z
theorem w5(h:QPT X K a tA qA):QPT X K (.UnaryOp .Not a pos) (Nw tA) (QF qA):=⟨A9 h.h,Km h.s⟩
theorem qR(h:QPT X K a tA qA):QPW X K (.BoolOp .And [a] pos) tA qA:=⟨CK h.h,h.s⟩
theorem oM(h:QPT X K a tA qA):QPW X K (.BoolOp .Or [a] pos) tA qA:=⟨GS h.h,h.s⟩
theorem wZ(h:QPT X K a tA qA)(h2:QPW X K (.BoolOp .And (b::rest) pos) tB qB):QPW X K (.BoolOp .And (a::b::rest) pos) (Nx tA tB) (QU qA qB):=⟨GU h.h h2.h,Kq h.s h2.s⟩
theorem pN(h:QPT X K a tA qA)(h2:QPW X K (.BoolOp .Or (b::rest) pos) tB qB):QPW X K (.BoolOp .Or (a::b::rest) pos) (tOr tA tB) (qOr qA qB):=⟨MU h.h h2.h,NL h.s h2.s⟩
theorem QPW.pt(h:QPW X K e tA qA):QPT X K e tA qA:=⟨h.h.pt,h.s⟩
def qIf(t:QT)(qa qb:QE):QE:=fun q Q=>t q fun c=>if c=true then qa q Q else qb q Q
theorem Qv(hc:QPT X K c tA qA)(ha:QPF X K a ta qa)(hb:QPF X K b tb qb):QPF X K (.IfExp c a b pos) (tIf tA ta tb) (qIf qA qa qb):=⟨zt hc.h ha.h hb.h,fun dl H σ q Q R rd hq k=>hc.s dl H σ q _ _ rd hq fun d H' e hz=>by
 cases d with
 | true=>exact ha.s dl H' σ q Q R (rd.evo e) hz fun w u G H2 e2 r2 f2 n2 z=>k w u G H2 (e.trans e2) r2 (fun b hb=>e.free (f2 b hb)) n2 z
 | false=>exact hb.s dl H' σ q Q R (rd.evo e) hz fun w u G H2 e2 r2 f2 n2 z=>k w u G H2 (e.trans e2) r2 (fun b hb=>e.free (f2 b hb)) n2 z⟩
theorem GI(ha:QPE X K a ta qa):QPF X K (.UnaryOp .USub a pos) (tUn (rU fun i=>.int (-i)) ta) (fun q Q=>qa q fun t=>match t with | .i x=>Q (.i (-x)) | _=>False):=⟨Hi AR ha.h,fun dl H σ q Q R rd hq k=>ha.s dl H σ q _ _ rd hq fun v t F H' e r hz=>by
 split at hz
 ·obtain⟨rfl,rfl⟩:=r.r.int;exact⟨_,rfl,k _ _ [] H' e (.c (.i _)) (fun _ z=>nomatch z) List.nodup_nil hz⟩
 ·exact hz.elim⟩
def N6:QA:=fun _ Q=>Q []
def pO(qa:QE)(ql:QA):QA:=fun q Q=>qa q fun t=>ql q fun ts=>Q (t::ts)
theorem ah:aC X K [] kO N6:=⟨bE,fun dl H σ q Q R rd hq k=>k [] [] [] H (.refl rd.d) ⟨.nil,fun _ z=>nomatch z⟩ rfl (fun _ z=>nomatch z) List.nodup_nil hq⟩
theorem aC.w(h:aC X K es tl ql):QPA X K es tl ql:=⟨h.h,fun dl H σ q Q R rd hq k=>h.s dl H σ q Q R rd hq fun vs ts F H' e r l _ _ z=>k vs ts F H' e r l z⟩
theorem Rps.cons{dl:Dl}{H:Hp}{v:V}{t:T}{vs:List V}{ts:List T}{F G:List Addr}(h:Rp K dl H v t F)(r:Rps K dl H vs ts G):Rps K dl H (v::vs) (t::ts) (F++G):=⟨.cons h.r r.r,fun b hb=>(List.mem_append.mp hb).elim (h.n b) (r.n b)⟩
theorem ae(ha:QPE X K e te qe)(hr:QPA X K es tl ql)(hs:starEach (e::es) X.env =(false,eval e X.env)::starEach es X.env:=by rfl):QPA X K (e::es) (cM te tl) (pO qe ql) :=
 ⟨aQ ha.h hr.h hs,fun dl H σ q Q R rd hq k=>ha.s dl H σ q _ _ rd hq fun v t F H1 e1 r1 hz=>hr.s dl H1 σ q _ _ (rd.evo e1) hz fun vs ts G H2 e2 r2 l2 z=>k _ _ _ H2 (e1.trans e2) (.cons (r1.evo e1.d e2) r2) (by simp[l2]) z⟩
theorem af(ha:QPF X K e te qe)(hr:aC X K es tl ql)(hs:starEach (e::es) X.env =(false,eval e X.env)::starEach es X.env:=by rfl):aC X K (e::es) (cM te tl) (pO qe ql) :=
 ⟨aQ ha.h hr.h hs,fun dl H σ q Q R rd hq k=>ha.s dl H σ q _ _ rd hq fun v t F H1 e1 r1 f1 n1 hz=>hr.s dl H1 σ q _ _ (rd.evo e1) hz fun vs ts G H2 e2 r2 l2 f2 n2 z =>
  k _ _ _ H2 (e1.trans e2) (.cons (r1.evo e1.d e2) r2) (by simp[l2]) (fun b hb=>(List.mem_append.mp hb).elim (f1 b) fun hb=>e1.free (f2 b hb)) (List.nodup_append.mpr ⟨n1,n2,fun x hx y hy exy=>by
   subst exy;have z:=f2 x hy;rcases r1.r.there x hx with⟨_,e⟩ |⟨_,e⟩
   ·rw[z]at e;cases e
   ·rw[z]at e;cases e⟩) z⟩
def SF(ql:QA):QE:=fun q Q=>ql q fun ts=>Q (.t ts)
def SH(ql:QA):QE:=fun q Q=>ql q fun ts=>Q (.l ts)
theorem aB{x1}(h:aC X K es tl ql)(hz:es.length<=1000:=by decide):QPF X K (.Tuple es x1 pos) (PZ tl) (SF ql):=⟨xm h.h,fun dl H σ q Q R rd hq k=>h.s dl H σ q _ _ rd hq fun vs ts F H1 e1 r1 l1 f1 n1 z =>
 ⟨Nat.le_of_lt (aK (by omega)),fun p hp=>k _ _ F _ (e1.new hp) (r1.tup e1.d hp) f1 n1 z⟩⟩
theorem bD(h:aC X K es tl ql)(hz:es.length<=1000:=by decide):QPF X K (.List es pos) (P4 tl) (SH ql):=⟨sj h.h,fun dl H σ q Q R rd hq k=>h.s dl H σ q _ _ rd hq fun vs ts F H1 e1 r1 l1 f1 n1 z =>
 ⟨Nat.le_of_lt (aK (by omega)),fun p hp=>k _ _ (p::F) _ (e1.new hp) (r1.lst e1.d hp) (fun b hb=>by
  rcases List.mem_cons.mp hb with e|hb
  ·rw[e];exact e1.free hp
  ·exact f1 b hb) (r1.fresh hp n1) z⟩⟩
theorem kF{ws:List Str}(h:strsOf es=some ws)(hl:es.length=ws.length:=by rfl):aC X K es (fun _ H Q=>Q (ws.map V.str) H) (fun _ Q=>Q (ws.map T.s)) :=
 ⟨CT h,fun dl H σ q Q R rd hq k=>k _ _ [] H (.refl rd.d) ⟨lY ws,fun _ z=>nomatch z⟩ (by rw[List.length_map];exact hl.symm) (fun _ z=>nomatch z) List.nodup_nil hq⟩
def qIx:Q2:=fun t u Q=>match u with
 | .i k=>match t with
  | .l xs=>∃ x,atI xs k=some x/\Q x
  | .t xs=>∃ x,atI xs k=some x/\Q x
  | .z ns=>∃ x,atI ns k=some x/\Q (.i x)
  | .s z=>z.length<=sizeLine/\∃ c,atI z.cps.toList k=some c/\Q (.s ⟨#[c]⟩)
  | _=>False
 | _=>False
theorem rg{α β:Type}{xs:List α}{ys:List β}{k:Int}{x:α}(h:atI xs k=some x)(hl:xs.length=ys.length):∃ j:Nat,xs[j]? = some x/\ixN ys.length k=some j:=by
 unfold atI at h;cases e:ixN xs.length k with
 | none=>rw[e]at h;cases h
 | some j=>rw[e]at h;exact⟨j,h,by rw[<- hl];exact e⟩
theorem yA{α:Type}{xs:List α}{k:Int}{j:Nat}{x:α}(h:ixN xs.length k=some j)(hx:xs[j]? = some x):atI xs k=some x:=by unfold atI;rw[h];exact hx
theorem Gi:MB K (rIx K) qIx:=by
 intro dl H x y t u F G Q R D r1 r2 hq k;unfold qIx at hq
 split at hq
 ·rename_i k0;obtain⟨rfl,rfl⟩:=r2.r.int
  split at hq
  ·obtain⟨p,vs,G,rfl,rfl,h1,h2⟩:=r1.r.lst;obtain⟨z,hz,hq⟩:=hq;obtain⟨j,hj,hi⟩:=rg hz h2.len.symm;obtain⟨v,G',hv,rv,hs⟩:=h2.get hj;exact .inl ⟨p,vs,k0,v,rfl,rfl,SqL.of h1,yA hi hv,k v z G' H (.refl D) (Rp.sub rv r1.n fun b hb=>List.mem_cons_of_mem _ (hs b hb)) hq⟩
  ·obtain⟨p,vs,rfl,h1,h2⟩:=r1.r.tup;obtain⟨z,hz,hq⟩:=hq;obtain⟨j,hj,hi⟩:=rg hz h2.len.symm;obtain⟨v,G',hv,rv,hs⟩:=h2.get hj;exact .inr (.inl ⟨p,vs,k0,v,rfl,rfl,SqT.of h1,yA hi hv,k v z G' H (.refl D) (Rp.sub rv r1.n hs) hq⟩)
  ·obtain⟨p,rfl,h1,_⟩:=r1.r.scr;obtain⟨z,hz,hq⟩:=hq;refine .inl ⟨p,_,k0,.int z,rfl,rfl,h1.sq,?_,k _ _ [] H (.refl D) (.c (.i _)) hq⟩;obtain⟨j,hj,hi⟩:=rg (ys:=(_:List Int).map V.int) hz (by rw[List.length_map])
   exact yA hi (by rw[List.getElem?_map,hj];rfl)
  ·obtain⟨rfl,rfl⟩:=r1.r.str;obtain⟨hl,c,hc,hq⟩:=hq;exact .inr (.inr ⟨_,k0,c,rfl,rfl,hl,hc,k _ _ [] H (.refl D) (.c (.s _)) hq⟩)
  ·exact hq.elim
 ·exact hq.elim
theorem aT(ha:QPE X K a ta qa)(hb:QPE X K b tb qb)(hs:rh b:=by intro _ _;rfl)(hK:X.K=K:=by rfl):QPE X K (.Subscript a b pos) (tOp (rIx K) ta tb) (qOp qIx qa qb):=⟨by subst hK;exact pR BF ha.h hb.h hs,AY Gi ha.s hb.s⟩
end
section
variable{X:Cx}{K:W.Frag}{a b c e:Expr}{es rest:List Expr}{ta tb tc te:TE}{qa qb qc qe:QE}{tA tB:TT}{qA qB:QT}{tl:TA}{ql:QA}{pos p:Pos}{x:Str}
abbrev QO:=Sq ->(Option Int->Prop)->Prop
def TB(K:W.Frag)(t:TO)(tq:QO):Prop:=∀(dl:Dl)(H:Hp)(σ:St)(q:Sq)(Q:Option Int->Prop)(R:Option Int->Hp->Prop),RdR K dl H σ q->tq q Q ->(∀ o H',Evo dl H H'->Q o->R o H')->t σ H R
structure QPO(X:Cx)(K:W.Frag)(e:Option Expr)(t:TO)(tq:QO):Prop where
 h:PO X e t
 s:TB K t tq
theorem cw:QPO X K none Cu (fun _ Q=>Q none):=⟨KS,fun _ _ _ _ _ _ rd hq k=>k none _ (.refl rd.d) hq⟩
theorem bY(h:QPE X K e te qe):QPO X K (some e) (MK te) (fun q Q=>qe q fun t=>match t with | .i x=>Q (some x) | _=>False):=⟨xk h.h,fun dl H σ q Q R rd hq k=>h.s dl H σ q _ _ rd hq fun v t F H' e r hz=>by
 split at hz
 ·obtain⟨rfl,rfl⟩:=r.r.int;exact⟨_,rfl,k _ H' e hz⟩
 ·exact hz.elim⟩
def cu{α:Type}(xs:List α)(lo hi:Option Int):List α:=(xs.drop (HT.sIx xs.length 0 lo)).take (HT.sIx xs.length xs.length hi - HT.sIx xs.length 0 lo)
theorem av.cut{dl:Dl}{H:Hp}{vs:List V}{ts:List T}{F:List Addr}(lo hi:Option Int)(h:av K dl H vs ts F):∃ G,av K dl H (mF vs lo hi) (cu ts lo hi) G/\G.Sublist F:=by
 unfold mF cu;rw[h.len];obtain⟨G,h1,s1⟩:=h.drop (HT.sIx ts.length 0 lo);obtain⟨G2,h2,s2⟩:=h1.take (HT.sIx ts.length ts.length hi - HT.sIx ts.length 0 lo);exact⟨G2,h2,s2.trans s1⟩
theorem kW{prog:Program}{w:World}{A:Around}{E:Value->Shared->Prop}{s:Shared}{t sl:Addr}{items:Array Value}{vl vu:Value}{lo hi:Option Int}{Q:Value->Shared->Prop}(ht:IsTup s.heap t items)(hs:s.heap.IsSliceOf sl vl vu .none)(pl:IsPart vl lo)(pu:IsPart vu hi)
  (hw:HT.sIx items.size 0 lo=0/\HT.sIx items.size items.size hi=items.size)
  (h:Q (.ref t) s):wpAny (model prog w) A (getItem (.ref t) (.ref sl)) Q E s:=by
 obtain⟨os,hos,hcs,hds⟩:=id hs;have hTs:s.TypeIs (.ref sl) "slice":=⟨os,hos,hcs⟩;have hT:=ht.typeIs;unfold getItem
 try with_reducible refine wpAny_holding ?_
 first|refine wpAny_bind (wpAny_pure ?_)|skip
 refine wpAny_bind (wpAny_sequenceKey ht.typeIs (by decide) ?_)
 refine wpAny_bind (wpAny_callSpecial?_slot (name:=Str.ofString "__getitem__") ht.typeIs PyProof.Rows.slot_tuple_getitem
  (wpAny_call_entry PyProof.Rows.slot_tuple_getitem ht.typeIs entry_tuple_getitem ?_ (args_tuple_getitem _ _)))
 show wpAny _ _ (Builtin.Tuple.tupleItemsOf (.ref t) >>= _) _ _ s;refine wpAny_bind (tupleItemsOf_ ht ?_);refine wpAny_bind (wpAny_typeOf hTs ?_);rw[if_pos (by decide)]
 refine wpAny_bind (HT.hV hs pl pu ?_);have hy:(((HT.sIx items.size 0 lo:Nat):Int)==0&&(1:Int)==1&&(HT.sIx items.size items.size hi - HT.sIx items.size 0 lo)==items.size)=true:=by
  rw[hw.1,hw.2];simp
 show wpAny _ _ (if(((HT.sIx items.size 0 lo:Nat):Int)==0&&(1:Int)==1&&(HT.sIx items.size items.size hi - HT.sIx items.size 0 lo)==items.size)=true then _ else _) _ _ s
 rw[if_pos hy];unfold Builtin.Tuple.tupleIsExact
 first
  | exact wpAny_bind (wpAny_bind (wpAny_typeOf hT (wpAny_pure (by rw[if_pos (by decide)];exact wpAny_bind (wpAny_rule (wpAny_pure ⟨_,rfl,wpAny_pure h⟩))))))
  | exact wpAny_bind (wpAny_typeOf hT (by rw[if_pos (by decide)];exact wpAny_bind (wpAny_rule (wpAny_pure ⟨_,rfl,wpAny_pure h⟩))))
def Qd(K:W.Frag):V->Option Int->Option Int->Hp->VK->Prop:=fun x lo hi H Q=>∃ a xs,x = .ref a/\SqT K H a xs /\
 ((HT.sIx xs.length 0 lo=0/\HT.sIx xs.length xs.length hi=xs.length)->Q (.ref a) H)/\(¬(HT.sIx xs.length 0 lo=0/\HT.sIx xs.length xs.length hi=xs.length)->∀ p,H p=none->Q (.ref p) (upd H p (.tup (mF xs lo hi))))
theorem Ka:SlR X (Qd X.K):=by
 intro pins s σ H x v vl vu lo hi sl Q I rx hs pl pu h;obtain⟨a,xs,rfl,hx,q1,q2⟩:=h;by_cases hw:HT.sIx xs.length 0 lo=0/\HT.sIx xs.length xs.length hi=xs.length
 ·cases rx;obtain⟨its,r,ht,hz⟩:=I.tuple hx;have hlen:its.toArray.size=xs.length:=by rw[List.size_toArray];exact r.length.symm
  exact⟨"tuple",_,PyProof.Rows.slot_tuple_getitem.lookup,ht.typeIs,kW ht hs pl pu (by rw[hlen];exact hw) ⟨.ref a,H,I,rfl,q1 hw⟩⟩
 ·exact NG pins s σ H _ v vl vu lo hi sl Q I rx hs pl pu ⟨a,xs,rfl,hx,hw,q2 hw⟩
theorem EY{α:Type}{xs:List α}{lo hi:Option Int}(h:HT.sIx xs.length 0 lo=0/\HT.sIx xs.length xs.length hi=xs.length):cu xs lo hi=xs:=by
 unfold cu;rw[h.1,h.2];simp
def Qg(K:W.Frag):V->Option Int->Option Int->Hp->VK->Prop:=fun x lo hi H Q=>Qf K x lo hi H Q\/Qd K x lo hi H Q\/Qe x lo hi H Q
theorem Sz(hK:X.K=K):SlR X (Qg K):=by subst hK;exact Cz.or (Ka.or NH)
def qSl(qe:QE)(l u:QO):QE:=fun q Q=>qe q fun t=>l q fun lo=>u q fun hi=>match t with
 | .l xs=>T.ims xs=true/\Q (.l (cu xs lo hi))
 | .t xs=>T.ims xs=true/\Q (.t (cu xs lo hi))
 | .z ns=>Q (.l ((cu ns lo hi).map T.i))
 | .s z=>z.length<=sizeLine/\Q (.s (Txt.slice z lo hi))
 | _=>False
theorem bJ{l u:Option Expr}{tlo thi:TO}{qlo qhi:QO}{p2:Pos}(he:QPE X K e te qe)(hl:QPO X K l tlo qlo)(hu:QPO X K u thi qhi)(hK:X.K=K:=by rfl):QPF X K (.Subscript e (.Slice l u none p2) pos) (tSl (Qg K) te tlo thi) (qSl qe qlo qhi) :=
 ⟨zq (Sz hK) he.h hl.h hu.h,fun dl H σ q Q R rd hq k=>he.s dl H σ q _ _ rd hq fun v t F H1 e1 r1 hz=>hl.s dl H1 σ q _ _ (rd.evo e1) hz fun lo H2 e2 hz=>hu.s dl H2 σ q _ _ ((rd.evo e1).evo e2) hz fun hi H3 e3 hz=>by
  have r3:=(r1.evo e1.d e2).evo e2.d e3;have E3:=(e1.trans e2).trans e3;have no:∀ b:Addr,b∈([]:List Addr)->H b=none:=fun _ z=>nomatch z
  split at hz
  ·obtain⟨p,vs,G,rfl,rfl,h1,h2⟩:=r3.r.lst;obtain rfl:=h2.im hz.1;obtain⟨G,h3,s3⟩:=h2.cut lo hi;obtain rfl:G = []:=List.sublist_nil.mp s3;refine .inl ⟨p,vs,rfl,SqL.of h1,fun p hp=>?_⟩
   have rs:Rps K dl H3 (mF vs lo hi) _ []:=⟨h3,fun c hc=>nomatch hc⟩
   exact k _ _ _ _ (E3.new hp) (rs.lst e3.d hp) (fun b hb=>by rw[List.mem_singleton.mp hb];exact E3.free hp) (by simp) hz.2
  ·obtain⟨p,vs,rfl,h1,h2⟩:=r3.r.tup;obtain rfl:=h2.im hz.1;obtain⟨G,h3,s3⟩:=h2.cut lo hi;obtain rfl:G = []:=List.sublist_nil.mp s3;refine .inr (.inl ⟨p,vs,rfl,SqT.of h1,fun hw=>?_,fun _ p hp=>?_⟩)
   ·refine k _ _ _ _ E3 r3 no List.nodup_nil ?_;rw[h2.len]at hw;have hq2:=hz.2;rw[EY hw]at hq2;exact hq2
   ·have rs:Rps K dl H3 (mF vs lo hi) _ []:=⟨h3,fun c hc=>nomatch hc⟩
    exact k _ _ _ _ (E3.new hp) (rs.tup e3.d hp) no List.nodup_nil hz.2
  ·rename_i ns _ _;obtain⟨p,rfl,h1,_⟩:=r3.r.scr;refine .inl ⟨p,_,rfl,h1.sq,fun p hp=>?_⟩
   have e:mF (ns.map V.int) lo hi =(cu ns lo hi).map V.int:=by unfold mF cu;rw[List.length_map,<- List.map_drop,<- List.map_take]
   rw[e];have rs:Rps K dl H3 ((cu ns lo hi).map V.int) ((cu ns lo hi).map T.i) []:=⟨rT _,fun c hc=>nomatch hc⟩
   exact k _ _ _ _ (E3.new hp) (rs.lst e3.d hp) (fun b hb=>by rw[List.mem_singleton.mp hb];exact E3.free hp) (by simp) hz
  ·obtain⟨rfl,rfl⟩:=r3.r.str;exact .inr (.inr ⟨_,rfl,hz.1,k _ _ [] H3 E3 (.c (.s _)) no List.nodup_nil hz.2⟩)
  ·exact hz.elim⟩
abbrev QC:=List T ->(T->Prop)->Prop
def uv(K:W.Frag)(r:List V->Hp->VK->Prop)(rq:QC):Prop:=∀(dl:Dl)(H:Hp)(vs:List V)(ts:List T)(F:List Addr)(Q:T->Prop)(R:V->Hp->Prop),Dls dl H->Rps K dl H vs ts F->rq ts Q ->
 (∀ v z F' H',Evo dl H H'->Rp K dl H' v z F' ->(∀ b∈F',H b=none)->F'.Nodup->Q z->R v H')->r vs H R
def qCB(rq:QC)(ql:QA):QE:=fun q Q=>ql q fun ts=>rq ts Q
theorem Gj{n:Nat}{r:List V->Hp->VK->Prop}{rq:QC}(h:uv K r rq)(hl:MC K n tl ql):k8 K (tCB r tl) (qCB rq ql):=fun dl H σ q Q R rd hq k=>hl dl H σ q _ _ rd hq fun vs ts F H1 e1 r1 _ hz =>
 h dl H1 vs ts F Q R e1.d r1 hz fun v z F' H2 e2 r2 f2 n2 hz=>k v z F' H2 (e1.trans e2) r2 (fun b hb=>e1.free (f2 b hb)) n2 hz
theorem aL{id:String}{r:List V->Hp->VK->Prop}{rq:QC}(hc:c7 X (.builtin id) r)(hs:uv K r rq)(hg:Gl X x)(hm:X.mg x=none)(hv:bootBuiltins x=some (.builtin id))(ha:QPA X K (e::es) tl ql)(hn:x ≠ "__name__":=by decide)(hdb:(x ==("__debug__":Str))=false:=by decide)
  (he:starEach (e::es) X.env =(false,eval e X.env)::starEach es X.env:=by rfl) (hpl:(backTo pos (starEach es X.env)).any (·.1)=false:=by rfl):QPF X K (.Call (.Name x p) (e::es) [] pos) (tCB r tl) (qCB rq ql):=⟨il hc hg hm hv ha.h hn hdb he hpl,Gj hs ha.s⟩
theorem bV{id:String}{r:List V->Hp->VK->Prop}{rq:QC}(hc:c7 X (.type id) r)(hs:uv K r rq)(hg:Gl X x)(hm:X.mg x=none)(hv:bootBuiltins x=some (.type id))(ha:QPA X K (e::es) tl ql)(hn:x ≠ "__name__":=by decide)(hdb:(x ==("__debug__":Str))=false:=by decide)
  (he:starEach (e::es) X.env =(false,eval e X.env)::starEach es X.env:=by rfl) (hpl:(backTo pos (starEach es X.env)).any (·.1)=false:=by rfl):QPF X K (.Call (.Name x p) (e::es) [] pos) (tCB r tl) (qCB rq ql):=⟨vR hc hg hm hv ha.h hn hdb he hpl,Gj hs ha.s⟩
theorem Rps.one{dl:Dl}{H:Hp}{vs:List V}{t:T}{F:List Addr}(h:Rps K dl H vs [t] F):∃ v,vs = [v]/\Rp K dl H v t F:=by
 obtain⟨r,n⟩:=h;cases r with
 | cons r1 r2 =>
  cases r2;rw[List.append_nil]at n;rw[List.append_nil];exact⟨_,rfl,r1,n⟩
theorem Rps.two{dl:Dl}{H:Hp}{vs:List V}{t u:T}{F:List Addr}(h:Rps K dl H vs [t,u] F):∃ v w F1 F2,vs = [v,w]/\Rp K dl H v t F1/\Rp K dl H w u F2:=by
 obtain⟨r,n⟩:=h;cases r with
 | cons r1 r2 =>
  obtain⟨w,rfl,h2⟩:=Rps.one ⟨r2,fun b hb=>n b (List.mem_append_right _ hb)⟩
  exact⟨_,w,_,_,rfl,⟨r1,fun b hb=>n b (List.mem_append_left _ hb)⟩,h2⟩
def MP(K:W.Frag):List V->Hp->VK->Prop:=fun xs H Q=>(∃ p ys,xs = [.ref p]/\(SqL K H p ys\/SqT K H p ys)/\Q (.int ys.length) H)\/(∃ z,xs = [.str z]/\z.length<=sizeLine/\Q (.int z.length) H)\/∃ a kvs,xs = [V.ref a]/\H a=some (.dK kvs)/\Q (.int kvs.length) H
theorem a9(hK:X.K=K):c7 X (.builtin "len") (MP K):=by subst hK;exact jh.or (yk.or Fc)
def QK:QC:=fun ts Q=>match ts with
 | [.l xs]=>Q (.i xs.length)
 | [.t xs]=>Q (.i xs.length)
 | [.z xs]=>Q (.i xs.length)
 | [.d xs]=>Q (.i xs.length)
 | [.s x]=>x.length<=sizeLine/\Q (.i x.length)
 | _=>False
theorem bO:uv K (MP K) QK:=by
 intro dl H vs ts F Q R D r hq k;have fin:∀ n:Nat,Q (.i n)->R (.int n) H:=fun n hq=>k _ _ [] H (.refl D) (.c (.i _)) (fun _ z=>nomatch z) List.nodup_nil hq
 unfold QK at hq
 split at hq
 ·obtain⟨v,rfl,r'⟩:=r.one;obtain⟨p,vs,G,rfl,_,h1,h2⟩:=r'.r.lst;exact .inl ⟨p,vs,rfl,.inl (SqL.of h1),fin _ (by rw[h2.len];exact hq)⟩
 ·obtain⟨v,rfl,r'⟩:=r.one;obtain⟨p,vs,rfl,h1,h2⟩:=r'.r.tup;exact .inl ⟨p,vs,rfl,.inr (SqT.of h1),fin _ (by rw[h2.len];exact hq)⟩
 ·obtain⟨v,rfl,r'⟩:=r.one;obtain⟨p,rfl,h1,_⟩:=r'.r.scr;exact .inl ⟨p,_,rfl,.inl h1.sq,fin _ (by rw[List.length_map];exact hq)⟩
 ·obtain⟨v,rfl,r'⟩:=r.one;obtain⟨p,vs,G,rfl,_,h1,h2⟩:=r'.r.dic;exact .inr (.inr ⟨p,vs,rfl,h1,fin _ (by rw[h2.len];exact hq)⟩)
 ·obtain⟨v,rfl,r'⟩:=r.one;obtain⟨rfl,_⟩:=r'.r.str;exact .inr (.inl ⟨_,rfl,hq.1,fin _ hq.2⟩)
 ·exact hq.elim
def qI2(g:Int->Int->Int):QC:=fun ts Q=>match ts with
 | [.i a,.i b]=>Q (.i (g a b))
 | _=>False
theorem AZ{g:Int->Int->Int}:uv K (fun xs H Q=>∃ i j,xs = [.int i,.int j]/\Q (.int (g i j)) H) (qI2 g):=by
 intro dl H vs ts F Q R D r hq k;unfold qI2 at hq
 split at hq
 ·obtain⟨v,w,F1,F2,rfl,r1,r2⟩:=r.two;obtain⟨rfl,_⟩:=r1.r.int;obtain⟨rfl,_⟩:=r2.r.int;exact⟨_,_,rfl,k _ _ [] H (.refl D) (.c (.i _)) (fun _ z=>nomatch z) List.nodup_nil hq⟩
 ·exact hq.elim
def QP:QC:=fun ts Q=>match ts with
 | [.i a]=>Q (.i a)
 | [.b k]=>Q (.i (if k then 1 else 0))
 | _=>False
theorem kq:uv K (fun xs H Q=>(∃ i,xs = [.int i]/\Q (.int i) H)\/∃ k,xs = [.bl k]/\Q (.int (if k then 1 else 0)) H) QP:=by
 intro dl H vs ts F Q R D r hq k;unfold QP at hq
 split at hq
 ·obtain⟨v,rfl,r'⟩:=r.one;obtain⟨rfl,_⟩:=r'.r.int;exact .inl ⟨_,rfl,k _ _ [] H (.refl D) (.c (.i _)) (fun _ z=>nomatch z) List.nodup_nil hq⟩
 ·obtain⟨v,rfl,r'⟩:=r.one;obtain⟨rfl,_⟩:=r'.r.bl;exact .inr ⟨_,rfl,k _ _ [] H (.refl D) (.c (.i _)) (fun _ z=>nomatch z) List.nodup_nil hq⟩
 ·exact hq.elim
def GO:QC:=fun ts Q=>match ts with
 | [.l xs]=>T.ims xs=true/\Q (.t xs)
 | [.t xs]=>T.ims xs=true/\Q (.t xs)
 | _=>False
theorem gb(hK:X.K=K):c7 X (.type "tuple") (fun xs H Q=>∃ p ys,xs = [.ref p]/\((SqL K H p ys/\∀ l,H l=none->Q (.ref l) (upd H l (.tup ys)))\/(SqT K H p ys/\Q (.ref p) H))):=by subst hK;exact vq
theorem ib:uv K (fun xs H Q=>∃ p ys,xs = [.ref p]/\((SqL K H p ys/\∀ l,H l=none->Q (.ref l) (upd H l (.tup ys)))\/(SqT K H p ys/\Q (.ref p) H))) GO:=by
 intro dl H vs ts F Q R D r hq k;have no:∀ b:Addr,b∈([]:List Addr)->H b=none:=fun _ z=>nomatch z
 unfold GO at hq
 split at hq
 ·obtain⟨v,rfl,r'⟩:=r.one;obtain⟨p,vs,G,rfl,rfl,h1,h2⟩:=r'.r.lst;obtain rfl:=h2.im hq.1;refine⟨p,vs,rfl,.inl ⟨SqL.of h1,fun l hl=>?_⟩⟩
  have rs:Rps K dl H vs _ []:=⟨h2,fun c hc=>nomatch hc⟩
  exact k _ _ _ _ ((Evo.refl D).new hl) (rs.tup D hl) no List.nodup_nil hq.2
 ·obtain⟨v,rfl,r'⟩:=r.one;obtain⟨p,vs,rfl,h1,h2⟩:=r'.r.tup;obtain rfl:=h2.im hq.1;exact⟨p,vs,rfl,.inr ⟨SqT.of h1,k _ _ [] H (.refl D) r' no List.nodup_nil hq.2⟩⟩
 ·exact hq.elim
def picks{α:Type}(f:T->Option α):List T->Option (List α)
 | []=>some []
 | t::r=>(f t).bind fun a=>(picks f r).map (a :: ·)
theorem av.picks{dl:Dl}{H:Hp}{α:Type}{f:T->Option α}{g:α->V}(hf:∀(v:V)(t:T)(F:List Addr)(a:α),aN K dl H v t F->f t=some a->v=g a){vs:List V}{ts:List T}{F:List Addr}(h:av K dl H vs ts F):∀{bs:List α},L2.picks f ts=some bs->vs=bs.map g :=
 h.ind (M:=fun vs ts _=>∀{bs:List α},L2.picks f ts=some bs->vs=bs.map g) (fun e=>by cases e;rfl) fun v t vs ts F G h _ ih bs e=>by
  obtain⟨a,e1,e2⟩:=Option.bind_eq_some_iff.mp e;obtain⟨as,e3,rfl⟩:=Option.map_eq_some_iff.mp e2;rw[hf v t F a h e1,ih e3];rfl
def asB:T->Option Bool
 | .b x=>some x
 | _=>none
def asI:T->Option Int
 | .i x=>some x
 | _=>none
abbrev bls:List T->Option (List Bool):=picks asB
theorem av.bls{dl:Dl}{H:Hp}{vs:List V}{ts:List T}{F:List Addr}{bs:List Bool}(h:av K dl H vs ts F)(e:L2.bls ts=some bs):vs=bs.map V.bl :=
 h.picks (f:=asB) (fun v t F a h e=>by cases t <;> first |(cases e;exact h.bl.1)|cases e) e
def QV:QC:=fun ts Q=>match ts with
 | [.l xs]=>∃ bs,bls xs=some bs/\Q (.b (bs.all id))
 | _=>False
theorem wm(hK:X.K=K)(hc:X.calm=true):c7 X (.builtin "all") (fun xs H Q=>∃(l:Addr)(bs:List Bool),xs = [.ref l]/\SqL K H l (bs.map V.bl)/\Q (.bl (bs.all id)) H):=by subst hK;exact Jr hc
theorem CD:uv K (fun xs H Q=>∃(l:Addr)(bs:List Bool),xs = [.ref l]/\SqL K H l (bs.map V.bl)/\Q (.bl (bs.all id)) H) QV:=by
 intro dl H vs ts F Q R D r hq k;unfold QV at hq
 split at hq
 ·obtain⟨v,rfl,r'⟩:=r.one;obtain⟨p,vs,G,rfl,rfl,h1,h2⟩:=r'.r.lst;obtain⟨bs,hb,hq⟩:=hq;have e:=h2.bls hb;subst e;exact⟨p,bs,rfl,SqL.of h1,k _ _ [] H (.refl D) (.c (.b _)) (fun _ z=>nomatch z) List.nodup_nil hq⟩
 ·exact hq.elim
def T.tyN:T->Option String
 | .n=>some "NoneType" | .b _=>some "bool" | .i _=>some "int" | .s _=>some "str" | .l _=>some "list" | .q=>some "list" | .t _=>some "tuple" | .d _=>some "dict" | _=>none
theorem aN.Sx{dl:Dl}{H:Hp}{v:V}{t:T}{F:List Addr}{n:String}(h:aN K dl H v t F)(e:t.tyN=some n):k7 K H v (.type n):=by
 cases h <;> first |(cases e;constructor;assumption) |(cases e;constructor;done) |(cases e;done)
theorem pC(hK:X.K=K):c7 X (.builtin "isinstance") (fun xs H Q=>∃ x T t b,xs = [x,.ty T]/\k7 K H x t/\W.kitOne K t (.type T)=some b/\Q (.bl b) H):=by subst hK;exact Jq
def Rr(a b:String):Bool:=a==b ||(a == "bool" && b == "int")
def QM:QC:=fun ts Q=>match ts with
 | [t,.ty n]=>match t.tyN with
  | some m=>(n == "tuple" || n == "list" || n == "str" || n == "int" || n == "bool" || n == "dict")=true/\Q (.b (Rr m n))
  | none=>False
 | _=>False
theorem LJ{n m:String}(h:(n == "tuple" || n == "list" || n == "str" || n == "int" || n == "bool" || n == "dict")=true)(hm:m ∈ ["NoneType","bool","int","str","list","tuple","dict"]):W.kitOne K (.type m) (.type n)=some (Rr m n):=by
 simp only[Bool.or_eq_true,beq_iff_eq]at h;simp only[List.mem_cons,List.not_mem_nil,or_false]at hm;rcases h with((((rfl|rfl)|rfl)|rfl)|rfl)|rfl <;> rcases hm with rfl|rfl|rfl|rfl|rfl|rfl|rfl <;> rfl
theorem JZ{t:T}{m:String}(h:t.tyN=some m):m ∈ ["NoneType","bool","int","str","list","tuple","dict"]:=by
 cases t <;> cases h <;> decide
theorem wR:uv K (fun xs H Q=>∃ x T t b,xs = [x,.ty T]/\k7 K H x t/\W.kitOne K t (.type T)=some b/\Q (.bl b) H) QM:=by
 intro dl H vs ts F Q R D r hq k;unfold QM at hq
 split at hq
 ·obtain⟨v,w,F1,F2,rfl,r1,r2⟩:=r.two;have e:=r2.r.tyy;subst e
  split at hq
  ·rename_i m em;exact⟨v,_,_,_,rfl,r1.r.Sx em,LJ hq.1 (JZ em),k _ _ [] H (.refl D) (.c (.b _)) (fun _ z=>nomatch z) List.nodup_nil hq.2⟩
  ·exact hq.elim
 ·exact hq.elim
theorem J6(ns:List Int):preSum (fun i=>ns.getD i 0) ns.length=ns.sum:=by
 have h:∀ n,n<=ns.length->preSum (fun i=>ns.getD i 0) n =(ns.take n).sum:=fun n=>by
  induction n with
  | zero=>intro _;simp[preSum]
  | succ n ih =>
   intro hn;have hn':n<ns.length:=by omega
   show preSum _ n+ns.getD n 0=_;rw[ih (by omega),List.take_add_one,List.getElem?_eq_getElem hn',List.getD_eq_getElem?_getD,List.getElem?_eq_getElem hn']
   simp only[Option.toList_some,List.sum_append,List.sum_cons,List.sum_nil,Option.getD_some,Int.add_zero]
 rw[h _ (Nat.le_refl _),List.take_length]
theorem FI{ns:List Int}{us:List Value}{i:Nat}{v:Value}(r:Vals (ns.map V.int) us)(h:us[i]? = some v):∃ t,v = .int (ns.getD i 0) t:=by
 have hl:=r.length;rw[List.length_map]at hl;have hi:i<ns.length:=by have:=(List.getElem?_eq_some_iff.mp h).1;omega
 obtain⟨u,h1,t,h2⟩:=r.get (i:=i) (x:=.int ns[i]) (by simp[hi])
 rw[h]at h1;cases h1;exact⟨t,by rw[h2];simp[List.getD,hi]⟩
theorem pA(hK:X.K=K)(hc:X.calm=true):c7 X (.builtin "sum") (fun xs H Q=>∃(l:Addr)(ns:List Int),xs = [.ref l]/\SqL K H l (ns.map V.int)/\Q (.int ns.sum) H):=by
 subst hK;intro pins s σ H xs us Q I r h;obtain⟨l,ns,rfl,hl,q⟩:=h;obtain⟨u,rfl,ru⟩:=vals1 r;cases ru;obtain⟨its,rv,pl,hz⟩:=I.list hl;have hlt:l<s.heap.objs.size:=by obtain⟨_,e,_⟩:=pl.isList;exact Heap.lt_size e
 have hlen:its.toArray.size=ns.length:=by
  have e:=rv.length;rw[List.length_map]at e;simp[e]
 refine call_sum_walkG (wpAny_pyIter_list pl.isList ?_);refine⟨s.heap.objs.size,[s.heap.objs.size,l],[s.heap.objs.size],its.toArray.size,_,_,fun i=>ns.getD i 0,rfl,Walks.list (show X.A.in1.handled=none from I.ok.hd hc) s.heap.objs.size l (Nat.ne_of_lt hlt) its.toArray,⟨⟨_,Heap.get?_push_size _ rfl,rfl,rfl⟩,pl.isList.push _⟩,?_,?_,fun h' tk t' hk=>?_⟩
 ·intro b hb;rw[Heap.size_push];rcases List.mem_cons.mp hb with e|hb
  ·rw[e];exact Nat.lt_succ_self _
  ·rw[List.mem_singleton.mp hb];exact Nat.lt_succ_of_lt hlt
 ·intro i v hP;exact FI rv (by simpa using hP)
 ·refine⟨.int ns.sum,H,I.kept (t':=tk) (h':=h') fun b o e=>hk b o (by simpa using Nat.ne_of_lt (Heap.lt_size e)) (Heap.get?_push_of_some _ e),⟨t',?_⟩,q⟩
  rw[hlen,J6]
abbrev ins:List T->Option (List Int):=picks asI
theorem av.ins{dl:Dl}{H:Hp}{vs:List V}{ts:List T}{F:List Addr}{bs:List Int}(h:av K dl H vs ts F)(e:L2.ins ts=some bs):vs=bs.map V.int :=
 h.picks (f:=asI) (fun v t F a h e=>by cases t <;> first |(cases e;exact h.int.1)|cases e) e
def Qy:QC:=fun ts Q=>match ts with
 | [.l xs]=>∃ bs,ins xs=some bs/\Q (.i bs.sum)
 | _=>False
theorem wO:uv K (fun xs H Q=>∃(l:Addr)(ns:List Int),xs = [.ref l]/\SqL K H l (ns.map V.int)/\Q (.int ns.sum) H) Qy:=by
 intro dl H vs ts F Q R D r hq k;unfold Qy at hq
 split at hq
 ·obtain⟨v,rfl,r'⟩:=r.one;obtain⟨p,vs,G,rfl,rfl,h1,h2⟩:=r'.r.lst;obtain⟨bs,hb,hq⟩:=hq;have e:=h2.ins hb;subst e;exact⟨p,bs,rfl,SqL.of h1,k _ _ [] H (.refl D) (.c (.i _)) (fun _ z=>nomatch z) List.nodup_nil hq⟩
 ·exact hq.elim
end
structure iG where
 nx:Sq->Prop
 rt:T->Prop
 bk:Sq->Prop:=fun _=>False
 ct:Sq->Prop:=fun _=>False
abbrev QS:=iG->Sq->Prop
structure Rel(K:W.Frag)(dl:Dl)(H₀:Hp)(hs:List (V×T))(H:Hp)(σ:St)(q:Sq)(F:Nat->List Addr):Prop where
 d:Dls dl H
 g:∀(i:Nat)(x:Sl)(t:T),q[i]? = some x->x.get=some t->∃ v,σ[i]? = some (some v)/\Rp K dl H v t (F i)
 n:∀(i:Nat)(x:Sl),q[i]? = some x->x.get=none->F i = []
 z:∀(i:Nat),q.length<=i->F i = []
 o:∀(i:Nat)(t:T),q[i]? = some (.o t) ->(F i).Nodup/\(∀ b∈F i,H₀ b=none)/\(∀ j,j≠i->∀ b∈F i,b ∉ F j)
 h:∀ p∈hs,∃ Fp,Rp K dl H p.1 p.2 Fp/\∀(i:Nat)(t:T),q[i]? = some (.o t)->∀ b∈F i,b ∉ Fp
 f:∀ b o,H₀ b=some o->Nd dl b->H b=some o
 l:q.length=σ.length
def gC(K:W.Frag)(dl:Dl)(H₀:Hp)(hs:List (V×T))(H:Hp)(σ:St)(q:Sq):Prop:=∃ F,Rel K dl H₀ hs H σ q F
def nS(H:Hp)(b:Addr):Prop:=(∃ xs,H b=some (.lst xs))\/∃ ks,H b=some (.dK ks)
theorem nS.no{H:Hp}{b:Addr}(h:nS H b)(e:H b=none):False:=by
 rcases h with⟨_,h⟩ |⟨_,h⟩
 ·rw[e]at h;cases h
 ·rw[e]at h;cases h
section
variable{X:Cx}{K:W.Frag}{dl:Dl}{H₀ H H':Hp}{hs:List (V×T)}{σ:St}{q:Sq}{F:Nat->List Addr}
theorem Rel.rd(r:Rel K dl H₀ hs H σ q F):RdR K dl H σ q:=⟨r.d,fun i x t h1 h2=>let⟨v,e,p⟩:=r.g i x t h1 h2;⟨v,F i,e,p⟩⟩
theorem Rel.fz(r:Rel K dl H₀ hs H σ q F){b:Addr}(h:H b=none):H₀ b=none:=by
 cases e:H₀ b with
 | none=>rfl
 | some o=>rw[r.f b o e (r.d.nd0 h)]at h;cases h
theorem Rel.oy(r:Rel K dl H₀ hs H σ q F){i:Nat}{b:Addr}(hb:b∈F i):nS H b:=by
 by_cases hi:i<q.length
 ·have e:q[i]? = some q[i]:=by simp[hi]
  cases ex:q[i].get with
  | none=>rw[r.n i _ e ex]at hb;cases hb
  | some t =>
   obtain⟨v,_,p⟩:=r.g i _ t e ex;exact p.r.there b hb
 ·rw[r.z i (by omega)]at hb;cases hb
theorem Rel.evo(r:Rel K dl H₀ hs H σ q F)(e:Evo dl H H'):Rel K dl H₀ hs H' σ q F where
 d:=e.d
 g:=fun i x t h1 h2=>let⟨v,e1,p⟩:=r.g i x t h1 h2;⟨v,e1,p.evo r.d e⟩
 n:=r.n
 z:=r.z
 o:=r.o
 h:=fun p hp=>let⟨Fp,h1,h2⟩:=r.h p hp;⟨Fp,h1.evo r.d e,h2⟩
 f:=fun b o h n=>e.k b o (r.f b o h n) n
 l:=r.l
def DL(F:Nat->List Addr)(i:Nat)(x:List Addr):Nat->List Addr:=fun j=>if j=i then x else F j
theorem bT{i:Nat}{x:List Addr}:DL F i x i=x:=if_pos rfl
theorem a8{i j:Nat}{x:List Addr}(h:j≠i):DL F i x j=F j:=if_neg h
theorem get_set{α:Type}{xs:List α}{i j:Nat}{x y:α}(h:(xs.set i x)[j]? = some y):(j=i/\y=x/\i<xs.length)\/(j≠i/\xs[j]? = some y):=by
 by_cases e:j=i
 ·subst e;rw[List.getElem?_set_self']at h;by_cases hl:j<xs.length
  ·rw[List.getElem?_eq_getElem hl]at h;exact .inl ⟨rfl,(Option.some.inj h).symm,hl⟩
  ·rw[List.getElem?_eq_none (by omega)]at h;cases h
 ·rw[List.getElem?_set_ne (fun z=>e z.symm)]at h
  exact .inr ⟨e,h⟩
theorem Rel.put{i:Nat}{v:V}{t:T}{F':List Addr}(r:Rel K dl H₀ hs H σ q F)(hi:i<q.length)(e:Evo dl H H')(hv:Rp K dl H' v t F')(hf:∀ b∈F',H b=none)(hn:F'.Nodup):Rel K dl H₀ hs H' (σ.set i (some v)) (q.set i (.o t)) (DL F i F'):=by
 have r':=r.evo e;have out:∀ j,∀ b∈F',b ∉ F j:=fun j b hb hj=>(r.oy hj).no (hf b hb)
 refine⟨e.d,fun j x u h1 h2=>?_,fun j x h1 h2=>?_,fun j hj=>?_,fun j u h1=>?_,fun p hp=>?_,r'.f,by simp[r.l]⟩
 ·rcases get_set h1 with⟨rfl,rfl,_⟩ |⟨ne,h1⟩
  ·cases h2;exact⟨v,by rw[List.getElem?_set_self (by rw[<- r.l];exact hi)],by rw[bT];exact hv⟩
  ·obtain⟨w,h3,h4⟩:=r'.g j x u h1 h2;exact⟨w,by rw[List.getElem?_set_ne (fun z=>ne z.symm)];exact h3,by rw[a8 ne];exact h4⟩
 ·rcases get_set h1 with⟨rfl,rfl,_⟩ |⟨ne,h1⟩
  ·cases h2
  ·rw[a8 ne];exact r.n j x h1 h2
 ·rw[List.length_set]at hj;rw[a8 (by omega)]
  exact r.z j hj
 ·rcases get_set h1 with⟨rfl,_,_⟩ |⟨ne,h1⟩
  ·rw[bT];exact⟨hn,fun b hb=>r.fz (hf b hb),fun k hk b hb=>by rw[a8 hk];exact out k b hb⟩
  ·rw[a8 ne];obtain⟨o1,o2,o3⟩:=r.o j u h1;refine⟨o1,o2,fun k hk b hb=>?_⟩
   by_cases ek:k=i
   ·subst ek;rw[bT];exact fun z=>out j b z hb
   ·rw[a8 ek];exact o3 k hk b hb
 ·obtain⟨Fp,h1,h2⟩:=r.h p hp;refine⟨Fp,h1.evo r.d e,fun j u hj b hb z=>?_⟩
  rcases get_set hj with⟨rfl,_,_⟩ |⟨ne,hj⟩
  ·rw[bT]at hb;exact nS.no (h1.r.there b z) (hf b hb)
  ·rw[a8 ne]at hb;exact h2 j u hj b hb z
theorem Rel.Od{i:Nat}{v:V}{t:T}{F':List Addr}(r:Rel K dl H₀ hs H σ q F)(hi:i<q.length)(hv:Rp K dl H v t F')(hf:∀(j:Nat)(u:T),q[j]? = some (.o u)->j≠i->∀ b∈F j,b ∉ F'):Rel K dl H₀ hs H (σ.set i (some v)) (q.set i (.r t)) (DL F i F'):=by
 refine⟨r.d,fun j x u h1 h2=>?_,fun j x h1 h2=>?_,fun j hj=>?_,fun j u h1=>?_,fun p hp=>?_,r.f,by simp[r.l]⟩
 ·rcases get_set h1 with⟨rfl,rfl,_⟩ |⟨ne,h1⟩
  ·cases h2;exact⟨v,by rw[List.getElem?_set_self (by rw[<- r.l];exact hi)],by rw[bT];exact hv⟩
  ·obtain⟨w,h3,h4⟩:=r.g j x u h1 h2;exact⟨w,by rw[List.getElem?_set_ne (fun z=>ne z.symm)];exact h3,by rw[a8 ne];exact h4⟩
 ·rcases get_set h1 with⟨rfl,rfl,_⟩ |⟨ne,h1⟩
  ·cases h2
  ·rw[a8 ne];exact r.n j x h1 h2
 ·rw[List.length_set]at hj;rw[a8 (by omega)]
  exact r.z j hj
 ·rcases get_set h1 with⟨rfl,e,_⟩ |⟨ne,h1⟩
  ·cases e
  ·rw[a8 ne];obtain⟨o1,o2,o3⟩:=r.o j u h1;refine⟨o1,o2,fun k hk b hb=>?_⟩
   have z:=hf j u h1 ne b hb;by_cases ek:k=i
   ·subst ek;rw[bT];exact z
   ·rw[a8 ek];exact o3 k hk b hb
 ·obtain⟨Fp,h1,h2⟩:=r.h p hp;refine⟨Fp,h1,fun j u hj b hb z=>?_⟩
  rcases get_set hj with⟨rfl,e,_⟩ |⟨ne,hj⟩
  ·cases e
  ·rw[a8 ne]at hb;exact h2 j u hj b hb z
theorem Rel.hold{v:V}{t:T}{F':List Addr}(r:Rel K dl H₀ hs H σ q F)(hv:Rp K dl H v t F')(hf:∀(j:Nat)(u:T),q[j]? = some (.o u)->∀ b∈F j,b ∉ F'):Rel K dl H₀ ((v,t)::hs) H σ q F :=
 ⟨r.d,r.g,r.n,r.z,r.o,fun p hp=>by
  rcases List.mem_cons.mp hp with e|hp
  ·subst e;exact⟨F',hv,hf⟩
  ·exact r.h p hp,r.f,r.l⟩
theorem Rel.down{i:Nat}{t:T}(r:Rel K dl H₀ hs H σ q F)(hi:q[i]? = some (.o t)):Rel K dl H₀ hs H σ (q.set i (.r t)) F:=by
 refine⟨r.d,fun j x u h1 h2=>?_,fun j x h1 h2=>?_,fun j hj=>r.z j (by rw[List.length_set]at hj;exact hj),fun j u h1=>?_,fun p hp=>?_,r.f,by simp[r.l]⟩
 ·rcases get_set h1 with⟨rfl,rfl,_⟩ |⟨ne,h1⟩
  ·cases h2;exact r.g j _ t hi rfl
  ·exact r.g j x u h1 h2
 ·rcases get_set h1 with⟨rfl,rfl,_⟩ |⟨ne,h1⟩
  ·cases h2
  ·exact r.n j x h1 h2
 ·rcases get_set h1 with⟨rfl,e,_⟩ |⟨ne,h1⟩
  ·cases e
  ·exact r.o j u h1
 ·obtain⟨Fp,h1,h2⟩:=r.h p hp;refine⟨Fp,h1,fun j u hj=>?_⟩
  rcases get_set hj with⟨rfl,e,_⟩ |⟨ne,hj⟩
  ·cases e
  ·exact h2 j u hj
theorem Rel.write{i:Nat}{v:V}{t t':T}{F':List Addr}{p:Addr}{o:HO}(r:Rel K dl H₀ hs H σ q F)(hi:q[i]? = some (.o t))(hv:σ[i]? = some (some v))(hp:p∈F i)(ho:∀ xs,H p=some (.lst xs)->∃ ys,o = .lst ys)(hr:Rp K dl (upd H p o) v t' F')(hn:F'.Nodup)
  (hf:∀ b∈F',b∈F i\/(H₀ b=none/\(∀ j,b ∉ F j)/\∀ w u Fp,Rp K dl H w u Fp ->(w,u)∈hs->b ∉ Fp)):Rel K dl H₀ hs (upd H p o) σ (q.set i (.o t')) (DL F i F'):=by
 obtain⟨o1,o2,o3⟩:=r.o i t hi;have hil:i<q.length:=(List.getElem?_eq_some_iff.mp hi).1;obtain⟨v',hv',rp⟩:=r.g i _ t hi rfl;have pn:Nd dl p:=rp.n p hp;have pth:=r.oy hp;have tf:TF H (upd H p o):=⟨fun a vs h=>(by
  rw[ag];exact h;intro z;subst z;rcases pth with⟨_,e⟩ |⟨_,e⟩ <;> rw[h]at e <;> cases e),fun a ob u h=>(by
  rw[ag];exact h;intro z;subst z;rcases pth with⟨_,e⟩ |⟨_,e⟩ <;> rw[h]at e <;> cases e),fun a φ h=>(by
  rw[ag];exact h;intro z;subst z;rcases pth with⟨_,e⟩ |⟨_,e⟩ <;> rw[h]at e <;> cases e),fun a xs h=>(by
  by_cases z:a=p
  ·subst z;obtain⟨ys,e⟩:=ho xs h;exact⟨ys,by rw[ao,e]⟩
  ·exact⟨xs,by rw[ag z];exact h⟩)⟩
 have st:∀{w:V}{u:T}{Fw:List Addr},Rp K dl H w u Fw->p ∉ Fw->Rp K dl (upd H p o) w u Fw:=fun{w u Fw} h np =>
  ⟨h.r.dU tf (fun _ z=>z) fun b hb ob e=>(by
   have ne:b≠p:=by
    intro z;subst z;exact np hb
   rw[ag ne];exact e),h.n⟩
 refine⟨fun d hd=>(r.d d hd).other (pn d hd).1 (pn d hd).2,fun j x u h1 h2=>?_,fun j x h1 h2=>?_,fun j hj=>?_,fun j u h1=>?_,fun w hw=>?_,fun b ob hb nb=>?_,by simp[r.l]⟩
 ·rcases get_set h1 with⟨rfl,rfl,_⟩ |⟨ne,h1⟩
  ·cases h2;exact⟨v,hv,by rw[bT];exact hr⟩
  ·obtain⟨w,h3,h4⟩:=r.g j x u h1 h2;exact⟨w,h3,by rw[a8 ne];exact st h4 (o3 j ne p hp)⟩
 ·rcases get_set h1 with⟨rfl,rfl,_⟩ |⟨ne,h1⟩
  ·cases h2
  ·rw[a8 ne];exact r.n j x h1 h2
 ·rw[List.length_set]at hj;rw[a8 (by omega)]
  exact r.z j hj
 ·rcases get_set h1 with⟨rfl,e,_⟩ |⟨ne,h1⟩
  ·rw[bT];refine⟨hn,fun b hb=>?_,fun k hk b hb=>?_⟩
   ·rcases hf b hb with z|z
    ·exact o2 b z
    ·exact z.1
   ·rw[a8 hk];rcases hf b hb with z|z
    ·exact o3 k hk b z
    ·exact z.2.1 k
  ·rw[a8 ne];obtain⟨p1,p2,p3⟩:=r.o j u h1;refine⟨p1,p2,fun k hk b hb=>?_⟩
   by_cases ek:k=i
   ·subst ek;rw[bT];intro z;rcases hf b z with z|z
    ·exact o3 j ne b z hb
    ·exact z.2.1 j hb
   ·rw[a8 ek];exact p3 k hk b hb
 ·obtain⟨Fp,h1,h2⟩:=r.h w hw;refine⟨Fp,st h1 (h2 i t hi p hp),fun j u hj b hb z=>?_⟩
  rcases get_set hj with⟨rfl,e,_⟩ |⟨ne,hj⟩
  ·rw[bT]at hb;rcases hf b hb with y|y
   ·exact h2 j t hi b y z
   ·exact y.2.2 w.1 w.2 Fp h1 hw z
  ·rw[a8 ne]at hb;exact h2 j u hj b hb z
 ·rw[ag]
  ·exact r.f b ob hb nb
  ·intro z;subst z;rw[o2 b hp]at hb;cases hb
end
structure Co(K:W.Frag)(dl:Dl)(H₀:Hp)(hs:List (V×T))(Dq:iG)(D:Ends):Prop where
 nx:∀ H σ q,gC K dl H₀ hs H σ q->Dq.nx q->D.nx σ H
 bk:∀ H σ q,gC K dl H₀ hs H σ q->Dq.bk q->D.bk σ H
 ct:∀ H σ q,gC K dl H₀ hs H σ q->Dq.ct q->D.ct σ H
 rt:∀ v t F H,Dls dl H->Rp K dl H v t F ->(∀ b∈F,H₀ b=none)->F.Nodup ->(∀ b o,H₀ b=some o->Nd dl b->H b=some o)->Dq.rt t->D.rt v H
def vz(K:W.Frag)(ts:TS)(qs:QS):Prop:=∀(dl:Dl)(H₀:Hp)(hs:List (V×T))(H:Hp)(σ:St)(q:Sq)(Dq:iG)(D:Ends),gC K dl H₀ hs H σ q->qs Dq q->Co K dl H₀ hs Dq D->ts D σ H
structure QPS(X:Cx)(K:W.Frag)(st:Stmt)(ts:TS)(qs:QS):Prop where
 h:PS X st ts
 s:vz K ts qs
structure uw(X:Cx)(K:W.Frag)(st:List Stmt)(ts:TS)(qs:QS):Prop where
 h:PSs X st ts
 s:vz K ts qs
section
variable{X:Cx}{K:W.Frag}{st:Stmt}{rest sa sb:List Stmt}{t u:TS}{qt qu:QS}{e c:Expr}{te:TE}{qe:QE}{tc:TT}{qc:QT}{pos:Pos}
def QG:QS:=fun D q=>D.nx q
def SG(t u:QS):QS:=fun D q=>t { D with nx:=u D } q
theorem a4:uw X K [] ML QG:=⟨m9,fun _ _ _ H σ q _ _ r hq E=>E.nx H σ q r hq⟩
theorem ai(h1:QPS X K st t qt)(h2:uw X K rest u qu):uw X K (st::rest) (P1 t u) (SG qt qu):=⟨aY h1.h h2.h,fun dl H₀ hs H σ q Dq D r hq E =>
 h1.s dl H₀ hs H σ q _ _ r hq ⟨fun H σ q r' hq'=>h2.s dl H₀ hs H σ q _ _ r' hq' E,E.bk,E.ct,E.rt⟩⟩
theorem au(h1:QPS X K st t qt):uw X K [st] t qt:=⟨bp h1.h,h1.s⟩
theorem a5(he:QPF X K e te qe):QPS X K (.Return (some e) pos) (Nt te) (fun D q=>qe q D.rt):=⟨l6 he.h,fun dl H₀ hs H σ q Dq D ⟨F,r⟩ hq E =>
 he.s dl H σ q _ _ r.rd hq fun v t F' H' e1 r1 f1 n1 hz=>E.rt v t F' H' e1.d r1 (fun b hb=>r.fz (f1 b hb)) n1 (r.evo e1).f hz⟩
theorem w6{i:Nat}(he:PE X e (eZ i)):QPS X K (.Return (some e) pos) (Nt (eZ i)) (fun D q=>match q[i]? with|some (.o t)=>D.rt t | _=>False):=⟨l6 he,fun dl H₀ hs H σ q Dq D ⟨F,r⟩ hq E=>by
 split at hq
 ·rename_i t e1;obtain⟨v,hv,rp⟩:=r.g i _ t e1 rfl;obtain⟨o1,o2,o3⟩:=r.o i t e1;exact⟨v,hv,E.rt v t (F i) H r.d rp o2 o1 r.f hq⟩
 ·exact hq.elim⟩
def SJ(c:QT)(t u:QS):QS:=fun D q=>c q fun b=>if b=true then t D q else u D q
theorem bQ(hc:QPT X K c tc qc)(ha:uw X K sa t qt)(hb:uw X K sb u qu):QPS X K (.If c sa sb pos) (P5 tc t u) (SJ qc qt qu):=⟨pQ hc.h ha.h hb.h,fun dl H₀ hs H σ q Dq D ⟨F,r⟩ hq E =>
 hc.s dl H σ q _ _ r.rd hq fun b H' e1 hz=>by
  cases b with
  | true=>exact ha.s dl H₀ hs H' σ q Dq D ⟨F,r.evo e1⟩ hz E
  | false=>exact hb.s dl H₀ hs H' σ q Dq D ⟨F,r.evo e1⟩ hz E⟩
def N4(i:Nat)(qe:QE):QS:=fun D q=>qe q fun t=>D.nx (q.set i (.o t))
theorem Rel.GX{dl:Dl}{H₀ H H':Hp}{hs:List (V×T)}{σ:St}{q:Sq}{F:Nat->List Addr}{i:Nat}{v:V}{t:T}{F':List Addr}(r:Rel K dl H₀ hs H σ q F)(e:Evo dl H H')(hv:Rp K dl H' v t F')(hf:∀ b∈F',H b=none)(hn:F'.Nodup):gC K dl H₀ hs H' (σ.set i (some v)) (q.set i (.o t)):=by
 by_cases hi:i<q.length
 ·exact⟨_,r.put hi e hv hf hn⟩
 ·have hl:=r.l;rw[List.set_eq_of_length_le (by omega),List.set_eq_of_length_le (by omega)]
  exact⟨F,r.evo e⟩
theorem CA{i:Nat}(he:k8 K te qe):vz K (oB te (jw i)) (N4 i qe):=fun dl H₀ hs H σ q Dq D ⟨F,r⟩ hq E=>he dl H σ q _ _ r.rd hq fun v t F' H' e1 r1 f1 n1 hz=>E.nx H' _ _ (r.GX e1 r1 f1 n1) hz
theorem az{i:Nat}{x:Str}{pos':Pos}(hN:X.N.Nodup)(hi:X.N[i]? = some x)(hx:Loc X.env.scope x)(he:QPF X K e te qe)(hs:swapsWith e (some (.Name x pos')) pos.line X.env=pure false:=by rfl)(hf:X.fn x=true\/X.env.scope.names.lookup x=some .local:=by first|exact .inl rfl|exact .inr rfl|assumption) :
  QPS X K (.Assign [.Name x pos'] e pos) (oB te (jw i)) (N4 i qe):=⟨fO hN hi hx he.h hs hf,CA he.s⟩
inductive Sd(tb:QS)(D:iG)(W:Nat->Sq->Prop)(m:Nat)(q:Sq):Prop
 | mk(N:Sq->Prop)(less:∀ q',N q'->∃ m',m'<m/\W m' q')(body:tb { D with nx:=N,ct:=N,bk:=D.nx } q)
inductive WhileI(c:QT)(tb:QS)(D:iG)(q:Sq):Prop
 | mk (W:Nat->Sq->Prop) (h0:∃ m,W m q) (turn:∀ m q,W m q->c q fun b=>if b=true then Sd tb D W m q else D.nx q)
def N2(c:QT)(tb:QS):QS:=fun D q=>WhileI c tb D q
theorem zb(hp:PassesOwn (model X.prog X.w) X.A X.env X.xe)(hc:QPT X K c tc qc)(hb:uw X K rest t qt):QPS X K (.While c rest [] pos) (AV tc t) (N2 qc qt):=⟨zj hp hc.h hb.h,fun dl H₀ hs H σ q Dq D r hq E=>by
 obtain⟨W,⟨m0,w0⟩,turn⟩:=hq;refine⟨fun m σ H=>∃ q,gC K dl H₀ hs H σ q/\W m q,⟨m0,q,r,w0⟩,?_⟩
 rintro m σ H ⟨q,⟨F,r⟩,w⟩
 refine hc.s dl H σ q _ _ r.rd (turn m q w) fun b H1 e1 hz=>?_
 cases b with
 | false=>exact E.nx H1 σ q ⟨F,r.evo e1⟩ hz
 | true =>
  obtain⟨N,hN,hz⟩:=hz;refine⟨fun σ' H'=>∃ q',gC K dl H₀ hs H' σ' q'/\N q',fun σ' H' ⟨q',r',n'⟩=>?_,?_⟩
  ·obtain⟨m',hm,w'⟩:=hN q' n';exact⟨m',hm,q',r',w'⟩
  ·exact hb.s dl H₀ hs H1 σ q _ _ ⟨F,r.evo e1⟩ hz ⟨fun H σ q r n=>⟨q,r,n⟩,fun H σ q r n=>E.nx H σ q r n,fun H σ q r n=>⟨q,r,n⟩,E.rt⟩⟩
end
abbrev PSp:=List T ->(T->Prop)->Prop
def spQ(K:W.Frag)(ps:PSp):Sp:=fun vs H Q _=>∃(dl:Dl)(ts:List T)(F:List Addr)(Qp:T->Prop),Dls dl H/\Rps K dl H vs ts F/\ps ts Qp /\
 ∀ v t F' H',Evo dl H H'->Rp K dl H' v t F' ->(∀ b∈F',H b=none)->F'.Nodup->Qp t->Q v H'
section
variable{X:Cx}{K:W.Frag}{e:Expr}{es:List Expr}{tl:TA}{ql:QA}{pos p:Pos}{x:Str}{k:Nat}{f:Addr}{fd:FuncData}{prs:List Str}{ps:PSp}
def MT(ps:PSp)(ql:QA):QE:=fun q Q=>ql q fun ts=>ps ts Q
theorem Gk{n:Nat}(ha:MC K n tl ql):k8 K (FU (spQ K ps) [] E0 tl) (MT ps ql):=fun dl H σ q Q R rd hq k=>ha dl H σ q _ _ rd hq fun vs ts F H1 e1 r1 _ hz=>by
 show spQ K ps (vs ++ []) H1 R E0;rw[List.append_nil];exact⟨dl,ts,F,Q,e1.d,r1,hz,fun v t F' H' e r f n hz=>k v t F' H' (e1.trans e) r (fun b hb=>e1.free (f b hb)) n hz⟩
theorem aD(F:bG X.prog X.w X.K X.mg X.base CX0 k f fd prs (spQ K ps))(hr:dO k X.A)(hg:Gl X x)(hm:X.mg x=some (.ref f))(hk:W.keepIn X.K (.ref f)=true)(hb:Binds X.K fd prs [])(ha:QPA X K (e::es) tl ql)
  (hdb:(x ==("__debug__":Str))=false:=by decide) (he:starEach (e::es) X.env =(false,eval e X.env)::starEach es X.env:=by rfl) (hpl:(backTo pos (starEach es X.env)).any (·.1)=false:=by rfl) :
  QPF X K (.Call (.Name x p) (e::es) [] pos) (FU (spQ K ps) [] E0 tl) (MT ps ql):=⟨qV F hr hg hm hk hb .nil nh ha.h hdb he hpl,Gk ha.s⟩
end
theorem vL{K:W.Frag}{dl:Dl}{H:Hp}{vs:List V}{ts:List T}{F:List Addr}{n:Nat}(D:Dls dl H)(r:Rps K dl H vs ts F)(hn:vs.length<=n):gC K dl H [] H (vs.map some++List.replicate (n - vs.length) none) (ts.map Sl.r++List.replicate (n - vs.length) .no):=by
 have hl:=r.r.len;have main:∀{vs:List V}{ts:List T}{F:List Addr},av K dl H vs ts F ->(∀ b∈F,Nd dl b)->∃ Fs:Nat->List Addr,(∀(i:Nat)(t:T),ts[i]? = some t->∃ v,vs[i]? = some v/\Rp K dl H v t (Fs i))/\∀ i,ts.length<=i->Fs i = []:=by
  intro vs ts F h
  induction ts generalizing vs F with
  | nil=>intro _;exact⟨fun _=>[],fun i t e=>by simp at e,fun _ _=>rfl⟩
  | cons t ts ih =>
   cases h with
   | @cons v0 _ vs0 _ F1 G1 h1 h2 =>
    intro hn;obtain⟨Fs,g1,g2⟩:=ih h2 fun b hb=>hn b (List.mem_append_right _ hb)
    refine⟨fun i=>match i with | 0=>F1|i+1=>Fs i,fun i u e=>?_,fun i hi=>?_⟩
    ·cases i with
     | zero =>
      simp at e;subst e;exact⟨_,by simp,h1,fun b hb=>hn b (List.mem_append_left _ hb)⟩
     | succ i =>
      obtain⟨v,e1,e2⟩:=g1 i u (by simpa using e)
      exact⟨v,by simpa using e1,e2⟩
    ·cases i with
     | zero=>simp at hi
     | succ i=>exact g2 i (by simpa using hi)
 obtain⟨Fs,g1,g2⟩:=main r.r r.n;have lk:∀(i:Nat)(y:Sl),(ts.map Sl.r++List.replicate (n - vs.length) Sl.no)[i]? = some y ->(∃ t,ts[i]? = some t/\y = .r t)\/(ts.length<=i/\y = .no):=fun i y h=>by
  by_cases hi:i<ts.length
  ·rw[List.getElem?_append_left (by simpa using hi),List.getElem?_map,List.getElem?_eq_getElem hi]at h
   exact .inl ⟨ts[i],by simp,(Option.some.inj h).symm⟩
  ·rw[List.getElem?_append_right (by simpa using hi),List.getElem?_replicate]at h
   split at h
   ·exact .inr ⟨by omega,(Option.some.inj h).symm⟩
   ·cases h
 refine⟨Fs,D,fun i y t h1 h2=>?_,fun i y h1 h2=>?_,fun i hi=>?_,fun i t h1=>?_,fun p hp=>(by cases hp),fun b o h _=>h,by simp[hl]⟩
 ·rcases lk i y h1 with⟨u,e,rfl⟩ |⟨_,rfl⟩
  ·cases h2;obtain⟨v,e1,e2⟩:=g1 i t e;refine⟨v,?_,e2⟩;have hi:i<vs.length:=(List.getElem?_eq_some_iff.mp e1).1;rw[List.getElem?_append_left (by simpa using hi),List.getElem?_map,e1]
   rfl
  ·cases h2
 ·rcases lk i y h1 with⟨u,e,rfl⟩ |⟨hi,rfl⟩
  ·cases h2
  ·exact g2 i hi
 ·refine g2 i ?_;simp at hi;omega
 ·rcases lk i _ h1 with⟨u,e,z⟩ |⟨_,z⟩ <;> cases z
theorem Fun.okQ{P:Program}{w:World}{K:W.Frag}{mg:Str->Option Value}{base:Heap}{x qual:Str}{st:Stmt}{f:Addr}{fd:FuncData}{N ps:List Str}{k:Nat}{psp:PSp}(F:Fun K x qual st f fd)(S:aX N ps (aj st))(len:∀ ts Q,psp ts Q->ts.length=ps.length)
  (nB:∀(cdv:Value)(A:Around)(outer:List Env)(s:Shared)(H:Hp)(E:XK),dO k (A.deeper (envOfC qual (aj st) s.heap.objs.size f cdv)) ->
   ∃ t qs,uw (pq CX0 P w K mg base N qual (aj st) f cdv A outer s H E).nox K (aF st) t qs/\∀ ts Q,psp ts Q->qs { nx:=fun _=>Q .n,rt:=Q } (ts.map Sl.r++List.replicate (N.length - ts.length) .no)):bG P w K mg base CX0 (k+1) f fd ps (spQ K psp):=by
 have hPN:ps.length<=N.length:=by have:=congrArg List.length S.pre;rw[List.length_take]at this;omega
 refine F.ok S (fun vs H Q E h=>?_) (fun cdv A outer s H vs Q E hr h=>?_)
 ·obtain⟨dl,ts,F,Qp,_,r,h,_⟩:=h;rw[r.r.len];exact len ts Qp h
 ·obtain⟨dl,ts,Fp,Qp,D,r,h,fin⟩:=h;obtain⟨t,qs,hb,hq⟩:=nB cdv A outer s H E hr;refine⟨t,hb.h,?_⟩;have hlen:=len ts Qp h;have hl:=r.r.len;have z:=hq ts Qp h;have R:=vL (n:=N.length) D r (by omega)
  rw[<- hl]at z;refine hb.s dl H [] H _ _ _ _ R z ⟨fun H' σ q ⟨F,r'⟩ hz=>?_,fun _ _ _ _ hz=>hz.elim,fun _ _ _ _ hz=>hz.elim,fun v t F H' D' r' f' n' fr hz=>?_⟩
  ·exact fin .non .n [] H' ⟨r'.f,r'.d⟩ ⟨.n,fun _ z=>nomatch z⟩ (fun _ z=>nomatch z) List.nodup_nil hz
  ·exact fin v t F H' ⟨fr,D'⟩ r' f' n' hz
structure Cj(K:W.Frag)(dl:Dl)(J:It)(xs:List T)(hv:List (V×T)):Prop where
 go:∀(H:Hp)(i:Nat),Dls dl H ->(∀ p∈hv,∃ F,Rp K dl H p.1 p.2 F)->i<xs.length->J.go i H
 yld:∀(H:Hp)(i:Nat)(x:T)(fp:V×T->List Addr)(v:V)(H':Hp),Dls dl H ->(∀ p∈hv,Rp K dl H p.1 p.2 (fp p))->xs[i]? = some x->J.yld i H v H'->Evo dl H H'/\∃ F,Rp K dl H' v x F/\∀ b∈F,H b=none\/∃ p∈hv,b∈fp p
 stop:∀(H:Hp),Dls dl H ->(∀ p∈hv,∃ F,Rp K dl H p.1 p.2 F)->J.stop xs.length H
section
variable{X:Cx}{K:W.Frag}{dl:Dl}
theorem xQ{a:Addr}{xs:List T}:Cj K dl (Itl K a) xs [(.ref a,.l xs)] where
 go:=fun H i D h hi=>by
  obtain⟨F,r⟩:=h _ (List.mem_singleton.mpr rfl);obtain⟨p,vs,G,e,_,h1,h2⟩:=r.r.lst;cases e;exact⟨vs,vs[i]'(by rw[h2.len];exact hi),SqL.of h1,by simp[h2.len,hi]⟩
 yld:=fun H i x fp v H' D h hx y=>by
  have r:=h _ (List.mem_singleton.mpr rfl);obtain⟨p,vs,G,e,eF,h1,h2⟩:=r.r.lst;cases e;obtain⟨rfl,y⟩:=y;obtain⟨w,G',hw,rw',hs⟩:=h2.get hx;have e2:=y vs (SqL.of h1);rw[hw]at e2;cases e2;have sub:∀ b∈G',b∈fp (V.ref a,T.l xs):=fun b hb=>by
   rw[eF];exact List.mem_cons_of_mem _ (hs b hb)
  exact⟨.refl D,G',⟨rw',fun b hb=>r.n b (sub b hb)⟩,fun b hb=>.inr ⟨_,List.mem_singleton.mpr rfl,sub b hb⟩⟩
 stop:=fun H D h=>by
  obtain⟨F,r⟩:=h _ (List.mem_singleton.mpr rfl);obtain⟨p,vs,G,e,_,h1,h2⟩:=r.r.lst;cases e;exact⟨vs,SqL.of h1,by rw[h2.len];exact Nat.le_refl _⟩
theorem Iu{a:Addr}{xs:List T}:Cj K dl (Itt K a) xs [(.ref a,.t xs)] where
 go:=fun H i D h hi=>by
  obtain⟨F,r⟩:=h _ (List.mem_singleton.mpr rfl);obtain⟨p,vs,e,h1,h2⟩:=r.r.tup;cases e;exact⟨vs,vs[i]'(by rw[h2.len];exact hi),SqT.of h1,by simp[h2.len,hi]⟩
 yld:=fun H i x fp v H' D h hx y=>by
  have r:=h _ (List.mem_singleton.mpr rfl);obtain⟨p,vs,e,h1,h2⟩:=r.r.tup;cases e;obtain⟨rfl,y⟩:=y;obtain⟨w,G',hw,rw',hs⟩:=h2.get hx;have e2:=y vs (SqT.of h1);rw[hw]at e2;cases e2;exact⟨.refl D,G',⟨rw',fun b hb=>r.n b (hs b hb)⟩,fun b hb=>.inr ⟨_,List.mem_singleton.mpr rfl,hs b hb⟩⟩
 stop:=fun H D h=>by
  obtain⟨F,r⟩:=h _ (List.mem_singleton.mpr rfl);obtain⟨p,vs,e,h1,h2⟩:=r.r.tup;cases e;exact⟨vs,SqT.of h1,by rw[h2.len];exact Nat.le_refl _⟩
theorem Iv{lo:Int}{n:Nat}:Cj K dl (Itr lo n) ((List.range n).map fun i=>.i (lo+(i:Nat))) [] where
 go:=fun H i D h hi=>by
  show i<n;simpa using hi
 yld:=fun H i x fp v H' D h hx y=>by
  obtain⟨rfl,rfl⟩:=y;rw[List.getElem?_map]at hx;cases e:(List.range n)[i]? with
  | none=>rw[e]at hx;cases hx
  | some j =>
   rw[e]at hx;have hj:j=i:=by
    have:=List.getElem?_eq_some_iff.mp e
    obtain⟨h1,h2⟩:=this;simp at h2;exact h2.symm
   subst hj;cases hx;exact⟨.refl D,[],.c (.i _),fun _ z=>nomatch z⟩
 stop:=fun H D h=>by show n<=_;simp
abbrev QI:=Sq ->(List T->Prop)->Prop
def Se(K:W.Frag)(wi:TI)(iq:QI):Prop:=∀(dl:Dl)(H:Hp)(σ:St)(q:Sq)(Q:List T->Prop)(R:It->Hp->Prop),RdR K dl H σ q->iq q Q ->
 (∀ xs J hv H',Evo dl H H'->Cj K dl J xs hv ->(∀ p∈hv,∃ F,Rp K dl H' p.1 p.2 F)->Q xs->R J H')->wi σ H R
structure QPI(X:Cx)(K:W.Frag)(tg iter:Expr)(wi:TI)(iq:QI):Prop where
 h:PI X tg iter wi
 s:Se K wi iq
abbrev QJ:=Sq ->(List T->Sq->Prop)->Prop
def TC(K:W.Frag)(wi:TI)(iq:QJ):Prop:=∀(dl:Dl)(H₀:Hp)(hs:List (V×T))(H:Hp)(σ:St)(q:Sq)(Q:List T->Sq->Prop)(R:It->Hp->Prop),gC K dl H₀ hs H σ q->iq q Q ->
 (∀ xs J hv H' q',gC K dl H₀ (hv++hs) H' σ q'->Cj K dl J xs hv->Q xs q'->R J H')->wi σ H R
structure QPJ(X:Cx)(K:W.Frag)(tg iter:Expr)(wi:TI)(iq:QJ):Prop where
 h:PI X tg iter wi
 s:TC K wi iq
variable{tg e a b:Expr}{te ta tb:TE}{qe qa qb:QE}{tl:TA}{ql:QA}{pos p:Pos}
theorem zp(hK:X.K=K)(h:PE X e te):PI X tg e (C5 K te):=by subst hK;exact qU h
theorem CO(hK:X.K=K)(h:PE X e te):PI X tg e (LX K te):=by subst hK;exact Oq h
def asL(qe:QE):QI:=fun q Q=>qe q fun t=>match t with | .l xs=>Q xs | _=>False
def asT(qe:QE):QI:=fun q Q=>qe q fun t=>match t with | .t xs=>Q xs | _=>False
theorem qS(h:QPE X K e te qe)(hK:X.K=K:=by rfl):QPI X K tg e (C5 K te) (asL qe):=⟨zp hK h.h,fun dl H σ q Q R rd hq k=>h.s dl H σ q _ _ rd hq fun v t F H' e1 r hz=>by
 split at hz
 ·obtain⟨p,vs,G,rfl,rfl,h1,h2⟩:=r.r.lst;exact⟨p,rfl,⟨vs,SqL.of h1⟩,k _ _ _ H' e1 xQ (fun p hp=>by rw[List.mem_singleton.mp hp];exact⟨_,r⟩) hz⟩
 ·exact hz.elim⟩
theorem jP(h:QPE X K e te qe)(hK:X.K=K:=by rfl):QPI X K tg e (LX K te) (asT qe):=⟨CO hK h.h,fun dl H σ q Q R rd hq k=>h.s dl H σ q _ _ rd hq fun v t F H' e1 r hz=>by
 split at hz
 ·obtain⟨p,vs,rfl,h1,h2⟩:=r.r.tup;exact⟨p,rfl,⟨vs,SqT.of h1⟩,k _ _ _ H' e1 Iu (fun p hp=>by rw[List.mem_singleton.mp hp];exact⟨_,r⟩) hz⟩
 ·exact hz.elim⟩
def Gu(lo:Int)(n:Nat):List T:=(List.range n).map fun i=>.i (lo+(i:Nat))
theorem lX{lo:Int}{n i:Nat}{x:T}(h:(Gu lo n)[i]? = some x):x = .i (lo+(i:Nat))/\i<n:=by
 unfold Gu at h;rw[List.getElem?_map]at h;obtain⟨j,hj,rfl⟩:=Option.map_eq_some_iff.mp h;obtain⟨h1,h2⟩:=List.getElem?_eq_some_iff.mp hj;simp at h1 h2;subst h2;exact⟨rfl,h1⟩
theorem fE{lo:Int}{n:Nat}:(Gu lo n).length=n:=by simp[Gu]
def R9(ql:QA):QI:=fun q Q=>ql q fun ts=>match ts with | [.i n]=>-(2 ^ 62)<=n/\n<2 ^ 62/\Q (Gu 0 n.toNat) | _=>False
theorem oO(hg:Gl X "range")(hm:X.mg "range" = none)(ha:QPA X K [a] tl ql)(hs:starEach [a] X.env = [(false,eval a X.env)]:=by rfl):QPI X K tg (.Call (.Name "range" p) [a] [] pos) (IB tl) (R9 ql):=⟨vP hg hm ha.h hs,fun dl H σ q Q R rd hq k=>ha.s dl H σ q _ _ rd hq fun vs ts F H' e1 r _ hz=>by
 split at hz
 ·obtain⟨v,rfl,r'⟩:=r.one;obtain⟨rfl,_⟩:=r'.r.int;exact⟨_,rfl,hz.1,hz.2.1,k _ _ [] H' e1 Iv (fun _ z=>nomatch z) hz.2.2⟩
 ·exact hz.elim⟩
def asJ(iq:QI):QJ:=fun q Q=>iq q fun xs=>Q xs q
theorem kD(hg:Gl X "range")(hm:X.mg "range" = none)(ha:QPA X K [a] tl ql)(hs:starEach [a] X.env = [(false,eval a X.env)]:=by rfl):QPJ X K tg (.Call (.Name "range" p) [a] [] pos) (IB tl) (asJ (R9 ql)):=⟨vP hg hm ha.h hs,fun dl H₀ hs H σ q Q R ⟨F0,r0⟩ hq k=>ha.s dl H σ q _ _ r0.rd hq fun vs ts F H' e1 r _ hz=>by
 split at hz
 ·obtain⟨v,rfl,r'⟩:=r.one;obtain⟨rfl,_⟩:=r'.r.int;exact⟨_,rfl,hz.1,hz.2.1,k _ _ [] H' q ⟨F0,r0.evo e1⟩ Iv hz.2.2⟩
 ·exact hz.elim⟩
theorem iS(h:QPF X K e te qe)(hK:X.K=K:=by rfl):QPJ X K tg e (LX K te) (asJ (asT qe)):=⟨CO hK h.h,fun dl H₀ hs H σ q Q R ⟨F0,r0⟩ hq k=>h.s dl H σ q _ _ r0.rd hq fun v t F H' e1 r f n hz=>by
 split at hz
 ·have r1:=(r0.evo e1).hold r fun j u hj b hb z=>(r0.oy hb).no (f b z)
  obtain⟨p,vs,rfl,h1,h2⟩:=r.r.tup;exact⟨p,rfl,⟨vs,SqT.of h1⟩,k _ _ _ H' q ⟨F0,r1⟩ Iu hz⟩
 ·exact hz.elim⟩
def asN(i:Nat):QJ:=fun q Q=>match q[i]? with
 | some (.o (.l xs))=>Q xs (q.set i (.r (.l xs)))
 | some (.r (.l xs))=>Q xs q
 | _=>False
theorem KA{i:Nat}(h:PE X e (eZ i))(hK:X.K=K:=by rfl):QPJ X K tg e (C5 K (eZ i)) (asN i):=⟨zp hK h,fun dl H₀ hs H σ q Q R ⟨F0,r0⟩ hq k=>by
 unfold asN at hq
 split at hq
 ·rename_i xs e1;obtain⟨v,hv,r⟩:=r0.g i _ _ e1 rfl;obtain⟨o1,o2,o3⟩:=r0.o i _ e1;have r1:=(r0.down e1).hold r fun j u hj b hb=>by
   rcases get_set hj with⟨_,z,_⟩ |⟨ne,hj⟩
   ·cases z
   ·exact(r0.o j u hj).2.2 i (fun z=>ne z.symm) b hb
  obtain⟨p,vs,G,rfl,_,h1,h2⟩:=r.r.lst;exact⟨_,hv,p,rfl,⟨vs,SqL.of h1⟩,k _ _ _ H _ ⟨F0,r1⟩ xQ hq⟩
 ·rename_i xs e1;obtain⟨v,hv,r⟩:=r0.g i _ _ e1 rfl;have r1:=r0.hold r fun j u hj b hb=>(r0.o j u hj).2.2 i (fun z=>by subst z;rw[e1]at hj;cases hj) b hb
  obtain⟨p,vs,G,rfl,_,h1,h2⟩:=r.r.lst;exact⟨_,hv,p,rfl,⟨vs,SqL.of h1⟩,k _ _ _ H _ ⟨F0,r1⟩ xQ hq⟩
 ·exact hq.elim⟩
inductive Tg where
 | nm(i:Nat)|tp (is:List Nat)
def qq(q:Sq):List Nat->List T->Option Sq
 | [],[]=>some q
 | i::is,x::xs=>if i<q.length then qq (q.set i (.r x)) is xs else none
 | _,_=>none
def Tg.put(g:Tg)(x:T)(q:Sq):Option Sq:=match g with
 | .nm i=>if i<q.length then some (q.set i (.r x))else none
 | .tp is=>match x with | .t xs=>qq q is xs | _=>none
def xZ:List Nat->TGs
 | []=>RT
 | i::is=>M8 (jw i) (xZ is)
def Tg.h(K:W.Frag):Tg->TG
 | .nm i=>jw i
 | .tp is=>Pk K is.length (xZ is)
theorem vM{H₀ H:Hp}{hs:List (V×T)}:∀{is:List Nat}{vs:List V}{xs:List T}{G:List Addr}{σ:St}{q q':Sq}{F:Nat->List Addr}{R:St->Hp->Prop},Rel K dl H₀ hs H σ q F->av K dl H vs xs G ->(∀ b∈G,Nd dl b) ->
  (∀(j:Nat)(u:T),q[j]? = some (.o u)->∀ b∈F j,b ∉ G)->qq q is xs=some q' ->(∀ σ',gC K dl H₀ hs H σ' q'->R σ' H)->xZ is vs σ H R
 | [],vs,xs,G,σ,q,q',F,R,r,rs,_,_,hp,k=>by
  cases xs with
  | cons _ _=>cases hp
  | nil =>
   cases rs;cases hp;exact⟨rfl,k σ ⟨F,r⟩⟩
 | i::is,vs,xs,G,σ,q,q',F,R,r,rs,hn,ho,hp,k=>by
  cases xs with
  | nil=>cases hp
  | cons x xs =>
   cases rs with
   | cons r1 r2 =>
    unfold qq at hp;by_cases hi:i<q.length
    ·rw[if_pos hi]at hp;refine⟨_,_,rfl,?_⟩;have r':=r.Od hi ⟨r1,fun b hb=>hn b (List.mem_append_left _ hb)⟩ fun j u hj _ b hb z=>ho j u hj b hb (List.mem_append_left _ z)
     refine vM r' r2 (fun b hb=>hn b (List.mem_append_right _ hb)) (fun j u hj b hb z=>?_) hp k
     rcases get_set hj with⟨_,z',_⟩ |⟨ne,hj⟩
     ·cases z'
     ·rw[a8 ne]at hb;exact ho j u hj b hb (List.mem_append_right _ z)
    ·rw[if_neg hi]at hp;cases hp
theorem Gx{H₀ H:Hp}{hs:List (V×T)}{g:Tg}{v:V}{x:T}{G:List Addr}{σ:St}{q q':Sq}{F:Nat->List Addr}{R:St->Hp->Prop}(r:Rel K dl H₀ hs H σ q F)(rx:Rp K dl H v x G)
  (ho:∀(j:Nat)(u:T),q[j]? = some (.o u)->∀ b∈F j,b ∉ G) (hp:g.put x q=some q') (k:∀ σ',gC K dl H₀ hs H σ' q'->R σ' H):g.h K v σ H R:=by
 cases g with
 | nm i =>
  replace hp:(if i<q.length then some (q.set i (.r x))else none)=some q':=hp
  by_cases hi:i<q.length
  ·rw[if_pos hi]at hp;cases hp;exact k _ ⟨_,r.Od hi rx fun j u hj _=>ho j u hj⟩
  ·rw[if_neg hi]at hp;cases hp
 | tp is =>
  cases x with
  | t xs =>
   replace hp:qq q is xs=some q':=hp
   obtain⟨p,vs,rfl,h1,h2⟩:=rx.r.tup;have hl:∀{is:List Nat}{xs:List T}{q q':Sq},qq q is xs=some q'->xs.length=is.length:=fun{is}=>by
    induction is with
    | nil=>intro xs q q' h;cases xs with
     | nil=>rfl
     | cons _ _=>cases h
    | cons i is ih=>intro xs q q' h;cases xs with
     | nil=>cases h
     | cons x xs =>
      unfold qq at h;by_cases hi:i<q.length
      ·rw[if_pos hi]at h;simp[ih h]
      ·rw[if_neg hi]at h;cases h
   exact⟨p,vs,rfl,SqT.of h1,by rw[h2.len];exact hl hp,vM r h2 rx.n ho hp k⟩
  | _=>cases hp
end
section
variable{X:Cx}{K:W.Frag}{dl:Dl}{H₀ H:Hp}{hs:List (V×T)}{σ:St}{q:Sq}{F:Nat->List Addr}
theorem Rel.Cq{hv:List (V×T)}(r:Rel K dl H₀ (hv++hs) H σ q F):Rel K dl H₀ hs H σ q F:=⟨r.d,r.g,r.n,r.z,r.o,fun p hp=>r.h p (List.mem_append_right _ hp),r.f,r.l⟩
theorem Rel.fps{hv:List (V×T)}(r:Rel K dl H₀ (hv++hs) H σ q F):∃ fp:V×T->List Addr,∀ p∈hv,Rp K dl H p.1 p.2 (fp p)/\∀(i:Nat)(t:T),q[i]? = some (.o t)->∀ b∈F i,b ∉ fp p:=by
 classical
 refine⟨fun p=>if h:p∈hv then(r.h p (List.mem_append_left _ h)).choose else [],fun p hp=>?_⟩
 have z:=(r.h p (List.mem_append_left _ hp)).choose_spec;simp only[dif_pos hp];exact z
inductive TL(g:Tg)(qb:QS)(D:iG)(xs:List T)(q0:Sq):Prop
 | mk(I:Nat->Sq->Prop)(h0:I 0 q0)(step:∀ i x q,xs[i]? = some x->I i q->∃ q',g.put x q=some q'/\qb { D with nx:=I (i+1),ct:=I (i+1),bk:=D.nx } q')(fin:∀ q,I xs.length q->D.nx q)
def SK(iq:QJ)(g:Tg)(qb:QS):QS:=fun D q=>iq q fun xs q0=>TL g qb D xs q0
theorem cT{tg iter:Expr}{body:List Stmt}{wi:TI}{iq:QJ}{g:Tg}{tb:TS}{qb:QS}{pos:Pos}(hp:PassesOwn (model X.prog X.w) X.A X.env X.xe)(hc:X.calm=true)(hi:QPJ X K tg iter wi iq)(hg:PG X tg (g.h K))(hb:uw X K body tb qb)
  (hs:∀ x,foldedSetIterable iter X.env x=pure x:=by intro _;rfl):QPS X K (.For tg iter body [] pos) (P6 wi (g.h K) tb) (SK iq g qb):=⟨Ba hp hc hi.h hg hb.h hs,fun dl H₀ hs H σ q Dq D r hq E=>by
 refine hi.s dl H₀ hs H σ q _ _ r hq fun xs J hv H1 q1 r1 it hz=>?_
 obtain⟨I,i0,turn,fin⟩:=hz;refine⟨fun i m σ H=>m=xs.length - i/\i<=xs.length/\∃ q,gC K dl H₀ (hv++hs) H σ q/\I i q,⟨xs.length,by simp,Nat.zero_le _,q1,r1,i0⟩,?_⟩
 rintro i m σ H ⟨rfl,hi',q,⟨F,r⟩,hI⟩
 have held:∀ p∈hv,∃ F,Rp K dl H p.1 p.2 F:=fun p hp=>let⟨Fp,h,_⟩:=r.h p (List.mem_append_left _ hp);⟨Fp,h⟩
 by_cases hlt:i<xs.length
 ·refine .inr ⟨it.go H i r.d held hlt,fun σ' H'=>∃ q,gC K dl H₀ (hv++hs) H' σ' q/\I (i+1) q,fun σ' H' h=>⟨xs.length - (i+1),by omega,rfl,hlt,h⟩,fun v H' y=>?_⟩
  obtain⟨fp,hfp⟩:=r.fps;have hx:xs[i]? = some xs[i]:=by simp[hlt]
  obtain⟨e1,G,rx,hG⟩:=it.yld H i xs[i] fp v H' r.d (fun p hp=>(hfp p hp).1) hx y
  obtain⟨q',hq',hz⟩:=turn i xs[i] q hx hI;refine Gx (r.evo e1) rx (fun j u hj b hb z=>?_) hq' fun σ2 r2=>hb.s dl H₀ (hv++hs) H' σ2 q' _ _ r2 hz ⟨fun H σ q r n=>⟨q,r,n⟩,fun H σ q ⟨F,r⟩ n=>E.nx H σ q ⟨F,r.Cq⟩ n,fun H σ q r n=>⟨q,r,n⟩,E.rt⟩
  rcases hG b z with h |⟨p,hp,h⟩
  ·exact(r.oy hb).no h
  ·exact(hfp p hp).2 j u hj b hb h
 ·have e:i=xs.length:=by omega
  subst e;exact .inl ⟨it.stop H r.d held,E.nx H σ q ⟨F,r.Cq⟩ (fin q hI)⟩⟩
def kb(cap:List (Option Nat))(q:Sq):Sq:=cap.map fun o=>match o with
 | none=>.no
 | some i=>match q[i]? with
  | some (.o t)=>.r t
  | some (.r t)=>.r t
  | _=>.no
theorem Kv{cap:List (Option Nat)}(r:RdR K dl H σ q):RdR K dl H (nM cap σ) (kb cap q):=⟨r.d,fun j x t h1 h2=>by
 unfold kb at h1;rw[List.getElem?_map]at h1;cases e:cap[j]? with
 | none=>rw[e]at h1;cases h1
 | some o =>
  rw[e]at h1;cases o with
  | none=>cases h1;cases h2
  | some i =>
   have go:∀ y:Sl,q[i]? = some y->y.get=some t->∃ v F,(nM cap σ)[j]? = some (some v)/\Rp K dl H v t F:=fun y hy ht=>by
    obtain⟨v,F,h3,h4⟩:=r.g i y t hy ht;refine⟨v,F,?_,h4⟩;unfold nM;rw[List.getElem?_map,e];show some ((σ[i]?).join)=_;rw[h3];rfl
   replace h1:(match q[i]? with|some (.o t)=>Sl.r t|some (.r t)=>.r t | _=>.no)=x:=Option.some.inj h1
   split at h1
   ·rename_i u eq;subst h1;cases h2;exact go _ eq rfl
   ·rename_i u eq;subst h1;cases h2;exact go _ eq rfl
   ·subst h1;cases h2⟩
theorem RdR.set{i:Nat}{v:V}{x:T}{G:List Addr}(r:RdR K dl H σ q)(hl:i < σ.length)(rx:Rp K dl H v x G):RdR K dl H (σ.set i (some v)) (q.set i (.r x)):=⟨r.d,fun j y t h1 h2=>by
 rcases get_set h1 with⟨rfl,rfl,_⟩ |⟨ne,h1⟩
 ·cases h2;exact⟨v,G,by rw[List.getElem?_set_self hl],rx⟩
 ·obtain⟨w,F,h3,h4⟩:=r.g j y t h1 h2;exact⟨w,F,by rw[List.getElem?_set_ne (fun z=>ne z.symm)];exact h3,h4⟩⟩
theorem RdR.any{i:Nat}{o:Option V}(r:RdR K dl H σ q)(hn:q[i]? = some .no):RdR K dl H (σ.set i o) q:=⟨r.d,fun j y t h1 h2=>by
 obtain⟨w,F,h3,h4⟩:=r.g j y t h1 h2;refine⟨w,F,?_,h4⟩;rw[List.getElem?_set_ne]
 ·exact h3
 ·intro z;subst z;rw[hn]at h1;cases h1;cases h2⟩
def Tg.ixs:Tg->List Nat
 | .nm i=>[i]
 | .tp is=>is
theorem y9:∀{is:List Nat}{vs:List V}{xs:List T}{G:List Addr}{σ:St}{q q0 q':Sq}{R:St->Hp->Prop},RdR K dl H σ q->RdR K dl H σ q0->σ.length=q.length->av K dl H vs xs G ->(∀ b∈G,Nd dl b) ->(∀ i∈is,q0[i]? = some .no)->qq q is xs=some q' ->
  (∀ σ',RdR K dl H σ' q'->RdR K dl H σ' q0->σ'.length=σ.length->R σ' H)->xZ is vs σ H R
 | [],vs,xs,G,σ,q,q0,q',R,r,r0,_,rs,_,_,hp,k=>by
  cases xs with
  | cons _ _=>cases hp
  | nil =>
   cases rs;cases hp;exact⟨rfl,k σ r r0 rfl⟩
 | i::is,vs,xs,G,σ,q,q0,q',R,r,r0,hl,rs,hn,hf,hp,k=>by
  cases xs with
  | nil=>cases hp
  | cons x xs =>
   cases rs with
   | cons r1 r2 =>
    unfold qq at hp;by_cases hi:i<q.length
    ·rw[if_pos hi]at hp;refine⟨_,_,rfl,?_⟩;refine y9 (r.set (by omega) ⟨r1,fun b hb=>hn b (List.mem_append_left _ hb)⟩) (r0.any (hf i List.mem_cons_self)) (by simp[hl]) r2 (fun b hb=>hn b (List.mem_append_right _ hb)) (fun j hj=>hf j (List.mem_cons_of_mem _ hj)) hp fun σ' a b c=>k σ' a b (by simpa using c)
    ·rw[if_neg hi]at hp;cases hp
theorem zh:∀{is:List Nat}{xs:List T}{q q':Sq},qq q is xs=some q'->xs.length=is.length
 | [],[],_,_,_=>rfl
 | [],_::_,_,_,h=>by cases h
 | _::_,[],_,_,h=>by cases h
 | i::is,x::xs,q,q',h=>by
  unfold qq at h;by_cases hi:i<q.length
  ·rw[if_pos hi]at h;simp[zh h]
  ·rw[if_neg hi]at h;cases h
theorem Qb{g:Tg}{v:V}{x:T}{G:List Addr}{q':Sq}{R:St->Hp->Prop}(r:RdR K dl H σ q)(hl:σ.length=q.length)(rx:Rp K dl H v x G)(hf:∀ i∈g.ixs,q[i]? = some .no)(hp:g.put x q=some q')
  (k:∀ σ',RdR K dl H σ' q'->RdR K dl H σ' q->σ'.length=σ.length->R σ' H):g.h K v σ H R:=by
 cases g with
 | nm i =>
  replace hp:(if i<q.length then some (q.set i (.r x))else none)=some q':=hp
  by_cases hi:i<q.length
  ·rw[if_pos hi]at hp;cases hp;exact k _ (r.set (by omega) rx) (r.any (hf i (List.mem_singleton.mpr rfl))) (by simp)
  ·rw[if_neg hi]at hp;cases hp
 | tp is =>
  cases x with
  | t xs =>
   replace hp:qq q is xs=some q':=hp
   obtain⟨p,vs,rfl,h1,h2⟩:=rx.r.tup;exact⟨p,vs,rfl,SqT.of h1,by rw[h2.len];exact zh hp,y9 r r hl h2 rx.n hf hp k⟩
  | _=>cases hp
def MQ:QT:=fun _ Q=>Q true
theorem Gf:mJ K Ct MQ:=fun dl H σ q Q R rd hq k=>k true H (.refl rd.d) hq
inductive CompI(cap:List (Option Nat))(g:Tg)(tst:QT)(qe:QE)(q:Sq)(Q:T->Prop)(xs:List T):Prop
 | mk (hl:xs.length<sizeLine) (I:Nat->List T->Prop) (h0:I 0 []) (step:∀ i x ys,xs[i]? = some x->I i ys->∃ q',g.put x (kb cap q)=some q'/\tst q' fun b=>if b=true then qe q' fun y=>I (i+1) (ys ++ [y])else I (i+1) ys) (fin:∀ ys,I xs.length ys->Q (.l ys))
def GR(cap:List (Option Nat))(iq:QI)(g:Tg)(tst:QT)(qe:QE):QE:=fun q Q=>iq q fun xs=>CompI cap g tst qe q Q xs
theorem y3{cap:List (Option Nat)}{wi:TI}{iq:QI}{g:Tg}{tst:TT}{oN:QT}{te:TE}{qe:QE}(hi:Se K wi iq)(ht:mJ K tst oN)(he:k8 K te qe)(hf:(g.ixs.all fun i=>cap[i]? == some none)=true):k8 K (vH cap wi (g.h K) tst te) (GR cap iq g oN qe):=by
 intro dl H σ q Q R rd hq k;refine hi dl H σ q _ _ rd hq fun xs J hv H1 e1 it held hz=>?_
 obtain⟨hlen,I,i0,turn,fin⟩:=hz;have rd1:=Kv (cap:=cap) (rd.evo e1);have hno:∀ i∈g.ixs,(kb cap q)[i]? = some .no:=fun i hi=>by
  have z:=List.all_eq_true.mp hf i hi;have z:cap[i]? = some none:=by simpa using z
  unfold kb;rw[List.getElem?_map,z];rfl
 have hcl:(nM cap σ).length =(kb cap q).length:=by simp[nM,kb]
 refine⟨fun i m vs σ' H'=>m=xs.length - i/\i<=xs.length/\∃ ts F,Evo dl H1 H'/\RdR K dl H' σ' (kb cap q)/\σ'.length =(kb cap q).length/\(∀ p∈hv,∃ F,Rp K dl H' p.1 p.2 F)/\Rps K dl H' vs ts F/\(∀ b∈F,H b=none)/\F.Nodup/\vs.length<=i/\I i ts,
  ⟨xs.length,by simp,Nat.zero_le _,[],[],.refl e1.d,rd1,hcl,held,⟨.nil,fun _ z=>nomatch z⟩,(fun _ z=>nomatch z),List.nodup_nil,Nat.le_refl _,i0⟩,?_⟩
 rintro i m vs σ' H' ⟨rfl,hi',ts,F,e2,rd2,hl2,Ad,rs,fr,nd,hvl,hI⟩
 by_cases hlt:i<xs.length
 ·refine .inr ⟨it.go H' i e2.d Ad hlt,by omega,fun vs2 σ2 H2=>∃ ts F,Evo dl H1 H2/\RdR K dl H2 σ2 (kb cap q)/\σ2.length =(kb cap q).length/\(∀ p∈hv,∃ F,Rp K dl H2 p.1 p.2 F)/\Rps K dl H2 vs2 ts F/\(∀ b∈F,H b=none)/\F.Nodup/\vs2.length<=i+1/\I (i+1) ts,
   fun vs2 σ2 H2 h=>⟨xs.length - (i+1),by omega,rfl,hlt,h⟩,fun v H2 y=>?_⟩
  have hx:xs[i]? = some xs[i]:=by simp[hlt]
  obtain⟨fp,hfp⟩:∃ fp:V×T->List Addr,∀ p∈hv,Rp K dl H' p.1 p.2 (fp p):=by
   classical
   refine⟨fun p=>if h:p∈hv then(Ad p h).choose else [],fun p hp=>?_⟩
   simp only[dif_pos hp];exact(Ad p hp).choose_spec
  obtain⟨e3,G,rx,hG⟩:=it.yld H' i xs[i] fp v H2 e2.d hfp hx y;obtain⟨q',hq',hz⟩:=turn i xs[i] ts hx hI;have M6:∀{H3:Hp},Evo dl H' H3->∀ p∈hv,∃ F,Rp K dl H3 p.1 p.2 F:=fun{H3} e p hp=>let⟨F,r⟩:=Ad p hp;⟨F,r.evo e2.d e⟩
  refine Qb (rd2.evo e3) hl2 rx hno hq' fun σ3 r3 r30 l3=>?_
  refine ht dl H2 σ3 q' _ _ r3 hz fun b H4 e4 hz=>?_
  cases b with
  | false=>exact⟨ts,F,(e2.trans e3).trans e4,r30.evo e4,by omega,M6 (e3.trans e4),(rs.evo e2.d e3).evo e3.d e4,fr,nd,by omega,hz⟩
  | true =>
   refine he dl H4 σ3 q' _ _ (r3.evo e4) hz fun w t G' H5 e5 rw' f5 n5 hz=>?_
   have E:=(e2.trans e3).trans (e4.trans e5);have rs5:=((rs.evo e2.d e3).evo e3.d (e4.trans e5));refine⟨ts ++ [t],F++(G' ++ []),E,r30.evo (e4.trans e5),by omega,M6 (e3.trans (e4.trans e5)),⟨rs5.r.append (.cons rw'.r .nil),fun b hb=>?_⟩,fun b hb=>?_,?_,by simp;omega,hz⟩
   ·rcases List.mem_append.mp hb with hb|hb
    ·exact rs.n b hb
    ·rw[List.append_nil]at hb;exact rw'.n b hb
   ·rcases List.mem_append.mp hb with hb|hb
    ·exact fr b hb
    ·rw[List.append_nil]at hb;exact((e1.trans e2).trans (e3.trans e4)).free (f5 b hb)
   ·rw[List.append_nil];refine List.nodup_append.mpr ⟨nd,n5,fun x hx y hy exy=>?_⟩
    subst exy;have rs4:=(rs.evo e2.d e3).evo e3.d e4;exact nS.no (rs4.r.there x hx) (f5 x hy)
 ·have e:i=xs.length:=by omega
  subst e;refine .inl ⟨it.stop H' e2.d Ad,by omega,fun D hD=>?_⟩
  exact k _ _ _ _ ((e1.trans e2).new hD) (rs.lst e2.d hD) (fun b hb=>by
   rcases List.mem_cons.mp hb with e|hb
   ·rw[e];exact(e1.trans e2).free hD
   ·exact fr b hb) (rs.fresh hD nd) (fin ts hI)
structure QB(X:Cx)(K:W.Frag)(N':List Str)(sc:Scope)(tg:Expr)(g:Tg)(ifs:List Expr)(tst:TT)(oN:QT)(elt:Expr)(te:TE)(qe:QE):Prop where
 b:∀ cl C s₂ H₂ fp,PG (blk X N' sc cl C s₂ H₂ fp) tg (g.h K)/\PTs (blk X N' sc cl C s₂ H₂ fp) ifs tst/\PE (blk X N' sc cl C s₂ H₂ fp) elt te
 t:mJ K tst oN
 e:k8 K te qe
theorem fb{N':List Str}{sc:Scope}{tg elt:Expr}{g:Tg}{te:TE}{qe:QE}(h:∀ cl C s₂ H₂ fp,PG (blk X N' sc cl C s₂ H₂ fp) tg (g.h K)/\QPF (blk X N' sc cl C s₂ H₂ fp) K elt te qe):QB X K N' sc tg g [] Ct MQ elt te qe :=
 ⟨fun cl C s₂ H₂ fp=>⟨(h cl C s₂ H₂ fp).1,CM,(h cl C s₂ H₂ fp).2.h⟩,Gf,(h [] 0 X.s₀ (fun _=>none) []).2.s⟩
theorem GL{N':List Str}{sc:Scope}{tg elt c:Expr}{g:Tg}{tst:TT}{oN:QT}{te:TE}{qe:QE}(h:∀ cl C s₂ H₂ fp,PG (blk X N' sc cl C s₂ H₂ fp) tg (g.h K)/\QPT (blk X N' sc cl C s₂ H₂ fp) K c tst oN/\QPF (blk X N' sc cl C s₂ H₂ fp) K elt te qe):QB X K N' sc tg g [c] tst oN elt te qe :=
 ⟨fun cl C s₂ H₂ fp=>⟨(h cl C s₂ H₂ fp).1,CL (h cl C s₂ H₂ fp).2.1.h,(h cl C s₂ H₂ fp).2.2.h⟩,(h [] 0 X.s₀ (fun _=>none) []).2.1.s,(h [] 0 X.s₀ (fun _=>none) []).2.2.s⟩
theorem du{tg iter elt:Expr}{ifs:List Expr}{sc:Scope}{pos:Pos}{N':List Str}{cap:List (Option Nat)}{wi:TI}{iq:QI}{g:Tg}{tst:TT}{oN:QT}{te:TE}{qe:QE}(hc:X.calm=true)(hi:QPI X K tg iter wi iq)(vh:nW X sc N' cap)(hb:QB X K N' sc tg g ifs tst oN elt te qe)
  (hf:(g.ixs.all fun i=>cap[i]? == some none)=true:=by rfl)
  (iy:sc.kind = .function:=by rfl) (iz:∀ y∈sc.names,y.2 ≠ .cell:=by decide) (ja:∀ y∈sc.names,y.2 = .local->sc.names.lookup y.1=some .local:=by decide)
  (jv:(sc.names.all fun y=>y.2 != .free ||(X.env.kindOf y.1==some .cell||X.env.kindOf y.1==some .free))=true:=by rfl)
  (hs:∀ x,foldedSetIterable iter X.env x=pure x:=by intro _;rfl):QPF X K (.ListComp elt [⟨tg,iter,ifs,0⟩] sc pos) (vH cap wi (g.h K) tst te) (GR cap iq g oN qe) :=
 ⟨CP hc hi.h vh hb.b iy iz ja jv hs,y3 hi.s hb.t hb.e hf⟩
theorem CI{i:Nat}{y:Str}{tg iter elt:Expr}{ifs:List Expr}{sc:Scope}{pos rJ py:Pos}{N':List Str}{cap:List (Option Nat)}{wi:TI}{iq:QI}{g:Tg}{tst:TT}{oN:QT}{te:TE}{qe:QE}(hN:X.N.Nodup)(hi':X.N[i]? = some y)(hy:Loc X.env.scope y)
  (hc:X.calm=true) (hi:QPI X K tg iter wi iq) (vh:nW X sc N' cap) (hb:QB X K N' sc tg g ifs tst oN elt te qe)
  (hf':(g.ixs.all fun i=>cap[i]? == some none)=true:=by rfl)
  (hsw:swapsWith (.ListComp elt [⟨tg,iter,ifs,0⟩] sc pos) (some (.Name y py)) rJ.line X.env=pure true:=by rfl)
  (hf:X.fn y=true\/X.env.scope.names.lookup y=some .local:=by first|exact .inl rfl|exact .inr rfl|assumption)
  (iy:sc.kind = .function:=by rfl) (iz:∀ y∈sc.names,y.2 ≠ .cell:=by decide) (ja:∀ y∈sc.names,y.2 = .local->sc.names.lookup y.1=some .local:=by decide)
  (jv:(sc.names.all fun y=>y.2 != .free ||(X.env.kindOf y.1==some .cell||X.env.kindOf y.1==some .free))=true:=by rfl)
  (hs:∀ x,foldedSetIterable iter X.env x=pure x:=by intro _;rfl):QPS X K (.Assign [.Name y py] (.ListComp elt [⟨tg,iter,ifs,0⟩] sc pos) rJ) (oB (vH cap wi (g.h K) tst te) (jw i)) (N4 i (GR cap iq g oN qe)) :=
 ⟨CN hN hi' hy hc hi.h vh hb.b hsw hf iy iz ja jv hs,CA (y3 hi.s hb.t hb.e hf')⟩
end
section
variable{X:Cx}{K:W.Frag}{dl:Dl}{H₀ H:Hp}{hs:List (V×T)}{σ:St}{q:Sq}{F:Nat->List Addr}{e o:Expr}{te:TE}{qe:QE}{pos apos bc:Pos}
theorem aN.uniq{v:V}{t:T}{F:List Addr}(h:aN K dl H v t F):∀{F':List Addr},aN K dl H v t F'->F=F' :=
 aN.rec (motive_1:=fun v t F _=>∀{F'},aN K dl H v t F'->F=F') (motive_2:=fun v t F _=>∀{F'},av K dl H v t F'->F=F') (motive_3:=fun v t F _=>∀{F'},a7 K dl H v t F'->F=F')
  (fun h=>(h.im rfl).symm) (fun _ _ h=>(h.im rfl).symm) (fun _ _ h=>(h.im rfl).symm) (fun _ _ h=>(h.im rfl).symm) (fun _ _ h=>(h.im rfl).symm)
  (fun h1 _ ih _ h=>by obtain⟨a,vs,e,h2,r⟩:=h.tup;cases e;rw[h1]at h2;cases h2;exact ih r)
  (fun h1 _ ih _ h=>by obtain⟨a,vs,G,e,rfl,h2,r⟩:=h.lst;cases e;rw[h1]at h2;cases h2;rw[ih r])
  (fun h1 _ ih _ h=>by obtain⟨a,vs,G,e,rfl,h2,r⟩:=h.dic;cases e;rw[h1]at h2;cases h2;rw[ih r])
  (fun _ _ h=>(h.im rfl).symm) (fun _ _ h=>(h.im rfl).symm) (fun _ _ h=>(h.im rfl).symm) (fun _ _ _ _ h=>(h.im rfl).symm) (fun _ _ h=>(h.im rfl).symm) (fun _ _ _ _ h=>(h.im rfl).symm)
  (fun h=>by cases h;rfl) (fun _ _ i1 i2 _ h=>by cases h with|cons h2 r2=>rw[i1 h2,i2 r2])
  (fun h=>by cases h;rfl) (fun _ _ i1 i2 _ h=>by cases h with|cons h2 r2=>rw[i1 h2,i2 r2]) h
theorem Rel.L3{H':Hp}(r:Rel K dl H₀ hs H σ q F)(e:Evo dl H H'){p:V×T}(hp:p∈hs){Fp:List Addr}(h:Rp K dl H' p.1 p.2 Fp){b:Addr}(hb:H b=none):b ∉ Fp:=fun z=>by
 obtain⟨Fq,h1,_⟩:=r.h p hp;have e1:=(h1.evo r.d e).r.uniq h.r;subst e1;exact nS.no (h1.r.there b z) hb
theorem Rel.wX{i:Nat}{p:Addr}{ws:List V}{xs ys:List T}{G G':List Addr}{H':Hp}(r:Rel K dl H₀ hs H σ q F)(hi:q[i]? = some (.o (.l xs)))(hv:σ[i]? = some (some (.ref p)))(hF:F i=p::G)(e:Evo dl H H')
  (rs:av K dl H' ws ys G') (hn:G'.Nodup) (hG:∀ b∈G',b∈G\/(H b=none/\Nd dl b)):gC K dl H₀ hs (upd H' p (.lst ws)) σ (q.set i (.o (.l ys))):=by
 have r':=r.evo e;obtain⟨o1,o2,o3⟩:=r.o i _ hi;obtain⟨v',hv',rp⟩:=r'.g i _ _ hi rfl;rw[hv]at hv';cases hv';obtain⟨p2,vs2,G2,e2,eF,h1,h2⟩:=rp.r.lst;cases e2;rw[hF]at eF;cases eF;rw[hF]at o1;have pG:p ∉ G:=(List.nodup_cons.mp o1).1;have pth:nS H p:=r.oy (i:=i) (by rw[hF];exact List.mem_cons_self)
 have pG':p ∉ G':=fun z=>by
  rcases hG p z with z|z
  ·exact pG z
  ·exact pth.no z.1
 have pn:Nd dl p:=rp.n p (by rw[hF];exact List.mem_cons_self)
 have tf:TF H' (upd H' p (.lst ws)):=⟨fun a us h=>(by
  rw[ag];exact h;intro z;subst z;rw[h]at h1;cases h1),fun a ob u h=>(by
  rw[ag];exact h;intro z;subst z;rw[h]at h1;cases h1),fun a φ h=>(by
  rw[ag];exact h;intro z;subst z;rw[h]at h1;cases h1),fun a xs' h=>(by
  by_cases z:a=p
  ·subst z;exact⟨_,ao⟩
  ·exact⟨xs',by rw[ag z];exact h⟩)⟩
 have rs2:av K dl (upd H' p (.lst ws)) ws ys G':=rs.dU tf (fun _ z=>z) fun b hb ob eb=>by
  have ne:b≠p:=by
   intro z;subst z;exact pG' hb
  rw[ag ne];exact eb
 refine⟨_,r'.write (t':=.l ys) (F':=p::G') hi hv (by rw[hF];exact List.mem_cons_self) (fun _ _=>⟨_,rfl⟩) ⟨.l ao rs2,fun b hb=>?_⟩ (List.nodup_cons.mpr ⟨pG',hn⟩) fun b hb=>?_⟩
 ·rcases List.mem_cons.mp hb with z|hb
  ·rw[z];exact pn
  ·rcases hG b hb with z|z
   ·exact rp.n b (by rw[hF];exact List.mem_cons_of_mem _ z)
   ·exact z.2
 ·rcases List.mem_cons.mp hb with z|hb
  ·rw[z,hF];exact .inl List.mem_cons_self
  ·rcases hG b hb with z|z
   ·rw[hF];exact .inl (List.mem_cons_of_mem _ z)
   ·exact .inr ⟨r.fz z.1,fun j hj=>(r.oy hj).no z.1,fun w u Fp h1 h2=>r.L3 e (p:=(w,u)) h2 h1 z.1⟩
def xg(i:Nat)(qe:QE):QS:=fun D q=>match q[i]? with
 | some (.o (.l xs))=>xs.length<sizeLine/\qe q fun t=>D.nx (q.set i (.o (.l (xs ++ [t]))))
 | _=>False
theorem Bo(hK:X.K=K){i:Nat}(ho:PE X o (eZ i))(he:PE X e te)(dJ:attributeBase o "append" X.env (eval o X.env)=eval o X.env:=by rfl)
  (mD:((backTo bc (starEach [e] X.env)).all (fun x=>!x.1)&&(backToKw bc (keywordEach [] X.env)).all (fun x=>x.1.isSome)
   && decide (([e]:List Expr).length+([]:List Keyword).length+(if([]:List Keyword).isEmpty then 0 else 1)<30))=true:=by rfl)
  (dI:(apos.endLine==bc.line)=true:=by rfl) (hs:starEach [e] X.env =(false,eval e X.env)::starEach [] X.env:=by rfl) (gx:(backTo bc (starEach [] X.env)).any (·.1)=false:=by rfl) :
  PE X (.Call (.Attribute o "append" apos) [e] [] bc) (tBM K "list" qQ (eZ i) (cM te kO)):=by
 subst hK;exact su PySem.F.plainAttrs_list PySem.F.slot_list_append PySem.F.type_list_append ip ho (aQ he bE hs) dJ mD dI hs gx
theorem A3{i:Nat}(he:k8 K te qe):vz K (yW (tBM K "list" qQ (eZ i) (cM te kO))) (xg i qe):=fun dl H₀ hs H σ q Dq D ⟨F,r⟩ hq E=>by
 unfold xg at hq
 split at hq
 ·rename_i xs ei;obtain⟨hz,hq⟩:=hq;obtain⟨v,hv,rp⟩:=r.g i _ _ ei rfl;obtain⟨o1,o2,o3⟩:=r.o i _ ei;obtain⟨p,vs,G,rfl,eF,h1,h2⟩:=rp.r.lst;refine⟨_,hv,.inl ⟨rfl,vs,SqL.of h1⟩,he dl H σ q _ _ r.rd hq fun w t F' H' e1 r1 f1 n1 hz'=>?_⟩
  have pn:Nd dl p:=rp.n p (by rw[eF];exact List.mem_cons_self)
  refine⟨p,vs,w,rfl,rfl,e1.k p _ h1 pn,by rw[h2.len];exact hz,?_⟩
  have hG:∀ b∈G,Nd dl b:=fun b hb=>rp.n b (by rw[eF];exact List.mem_cons_of_mem _ hb)
  have rs2:av K dl H' vs xs G:=h2.dU (e1.tf r.d) (fun _ z=>z) fun b hb o eo=>e1.k b o eo (hG b hb)
  refine E.nx _ σ _ (r.wX ei hv eF e1 (rs2.append (.cons r1.r .nil)) ?_ fun b hb=>?_) hz'
  ·rw[List.append_nil];rw[eF]at o1;refine List.nodup_append.mpr ⟨(List.nodup_cons.mp o1).2,n1,fun x hx y hy exy=>?_⟩
   subst exy;exact nS.no (h2.there x hx) (f1 x hy)
  ·rcases List.mem_append.mp hb with hb|hb
   ·exact .inl hb
   ·rw[List.append_nil]at hb;exact .inr ⟨f1 b hb,r1.n b hb⟩
 ·exact hq.elim
theorem cD{i:Nat}{rJ:Pos}(ho:PE X o (eZ i))(he:QPF X K e te qe)(hK:X.K=K:=by rfl)(dJ:attributeBase o "append" X.env (eval o X.env)=eval o X.env:=by rfl)
  (mD:((backTo bc (starEach [e] X.env)).all (fun x=>!x.1)&&(backToKw bc (keywordEach [] X.env)).all (fun x=>x.1.isSome)
   && decide (([e]:List Expr).length+([]:List Keyword).length+(if([]:List Keyword).isEmpty then 0 else 1)<30))=true:=by rfl)
  (dI:(apos.endLine==bc.line)=true:=by rfl) (hs:starEach [e] X.env =(false,eval e X.env)::starEach [] X.env:=by rfl) (gx:(backTo bc (starEach [] X.env)).any (·.1)=false:=by rfl)
  (hsw:swapsWith (.Call (.Attribute o "append" apos) [e] [] bc) none rJ.line X.env=pure false:=by rfl) :
  QPS X K (.Expr (.Call (.Attribute o "append" apos) [e] [] bc) rJ) (yW (tBM K "list" qQ (eZ i) (cM te kO))) (xg i qe):=⟨eg (Bo hK ho he.h dJ mD dI hs gx) hsw,A3 he.s⟩
def xf(i:Nat)(qe:QE):QS:=fun D q=>match q[i]? with
 | some (.o (.l xs))=>qe q fun t=>match t with
  | .l ys=>xs.length+ys.length<=sizeLine/\D.nx (q.set i (.o (.l (xs++ys))))
  | _=>False
 | _=>False
theorem Bn(hK:X.K=K){i:Nat}(ho:PE X o (eZ i))(he:PE X e te)(dJ:attributeBase o "extend" X.env (eval o X.env)=eval o X.env:=by rfl)
  (mD:((backTo bc (starEach [e] X.env)).all (fun x=>!x.1)&&(backToKw bc (keywordEach [] X.env)).all (fun x=>x.1.isSome)
   && decide (([e]:List Expr).length+([]:List Keyword).length+(if([]:List Keyword).isEmpty then 0 else 1)<30))=true:=by rfl)
  (dI:(apos.endLine==bc.line)=true:=by rfl) (hs:starEach [e] X.env =(false,eval e X.env)::starEach [] X.env:=by rfl) (gx:(backTo bc (starEach [] X.env)).any (·.1)=false:=by rfl) :
  PE X (.Call (.Attribute o "extend" apos) [e] [] bc) (tBM K "list" qP (eZ i) (cM te kO)):=by
 subst hK;exact su PySem.F.plainAttrs_list PySem.F.slot_list_extend PySem.F.type_list_extend Et ho (aQ he bE hs) dJ mD dI hs gx
theorem A0{i:Nat}(he:k8 K te qe):vz K (yW (tBM K "list" qP (eZ i) (cM te kO))) (xf i qe):=fun dl H₀ hs H σ q Dq D ⟨F,r⟩ hq E=>by
 unfold xf at hq
 split at hq
 ·rename_i xs ei;obtain⟨v,hv,rp⟩:=r.g i _ _ ei rfl;obtain⟨o1,o2,o3⟩:=r.o i _ ei;obtain⟨p,vs,G,rfl,eF,h1,h2⟩:=rp.r.lst;refine⟨_,hv,.inl ⟨rfl,vs,SqL.of h1⟩,he dl H σ q _ _ r.rd hq fun w t F' H' e1 r1 f1 n1 hz'=>?_⟩
  split at hz'
  ·rename_i ys _;obtain⟨p2,ws,G2,rfl,rfl,h3,h4⟩:=r1.r.lst;have pn:Nd dl p:=rp.n p (by rw[eF];exact List.mem_cons_self)
   refine⟨p,p2,vs,ws,rfl,rfl,e1.k p _ h1 pn,h3,by rw[h2.len,h4.len];exact hz'.1,?_⟩
   have hG:∀ b∈G,Nd dl b:=fun b hb=>rp.n b (by rw[eF];exact List.mem_cons_of_mem _ hb)
   have rs2:av K dl H' vs xs G:=h2.dU (e1.tf r.d) (fun _ z=>z) fun b hb o eo=>e1.k b o eo (hG b hb)
   refine E.nx _ σ _ (r.wX ei hv eF e1 (rs2.append h4) ?_ fun b hb=>?_) hz'.2
   ·rw[eF]at o1;refine List.nodup_append.mpr ⟨(List.nodup_cons.mp o1).2,(List.nodup_cons.mp n1).2,fun x hx y hy exy=>?_⟩
    subst exy;exact nS.no (h2.there x hx) (f1 x (List.mem_cons_of_mem _ hy))
   ·rcases List.mem_append.mp hb with hb|hb
    ·exact .inl hb
    ·exact .inr ⟨f1 b (List.mem_cons_of_mem _ hb),r1.n b (List.mem_cons_of_mem _ hb)⟩
  ·exact hz'.elim
 ·exact hq.elim
theorem vN{i:Nat}{rJ:Pos}(ho:PE X o (eZ i))(he:QPF X K e te qe)(hK:X.K=K:=by rfl)(dJ:attributeBase o "extend" X.env (eval o X.env)=eval o X.env:=by rfl)
  (mD:((backTo bc (starEach [e] X.env)).all (fun x=>!x.1)&&(backToKw bc (keywordEach [] X.env)).all (fun x=>x.1.isSome)
   && decide (([e]:List Expr).length+([]:List Keyword).length+(if([]:List Keyword).isEmpty then 0 else 1)<30))=true:=by rfl)
  (dI:(apos.endLine==bc.line)=true:=by rfl) (hs:starEach [e] X.env =(false,eval e X.env)::starEach [] X.env:=by rfl) (gx:(backTo bc (starEach [] X.env)).any (·.1)=false:=by rfl)
  (hsw:swapsWith (.Call (.Attribute o "extend" apos) [e] [] bc) none rJ.line X.env=pure false:=by rfl) :
  QPS X K (.Expr (.Call (.Attribute o "extend" apos) [e] [] bc) rJ) (yW (tBM K "list" qP (eZ i) (cM te kO))) (xf i qe):=⟨eg (Bn hK ho he.h dJ mD dI hs gx) hsw,A0 he.s⟩
end
section
variable{X:Cx}{K:W.Frag}{dl:Dl}{H₀ H:Hp}{hs:List (V×T)}{σ:St}{q:Sq}{F:Nat->List Addr}{a b e o c:Expr}{te ta tb tk tv:TE}{qe qa qb qk qv:QE}{pos apos bc:Pos}
theorem av.last:∀{ts:List T}{x:T}{vs:List V}{F:List Addr},av K dl H vs (ts ++ [x]) F->∃ us w F1 F2,vs=us ++ [w]/\av K dl H us ts F1/\aN K dl H w x F2/\F=F1++F2
 | [],x,vs,F,h=>by
  cases h with
  | cons h1 h2 =>
   cases h2;exact⟨[],_,[],_,rfl,.nil,h1,by simp⟩
 | t::ts,x,vs,F,h=>by
  cases h with
  | cons h1 h2 =>
   obtain⟨us,w,F1,F2,rfl,r1,r2,rfl⟩:=av.last h2;exact⟨_::us,w,_,F2,rfl,.cons h1 r1,r2,by rw[List.append_assoc]⟩
def N5(i j:Nat):QS:=fun D q=>match q[i]? with
 | some (.o (.l xs))=>∃ ys x,xs=ys ++ [x]/\T.ims xs=true/\i≠j/\D.nx ((q.set i (.o (.l ys))).set j (.o x))
 | _=>False
theorem gw{xs ys:List T}:T.ims (xs++ys) =(T.ims xs&&T.ims ys):=by
 induction xs with
 | nil=>rfl
 | cons x r ih=>show(x.im&&T.ims (r++ys)) =((x.im&&T.ims r)&&T.ims ys);rw[ih,Bool.and_assoc]
theorem Kk{i j:Nat}:vz K (oB (J5 K "list" NT (eZ i)) (jw j)) (N5 i j):=fun dl H₀ hs H σ q Dq D ⟨F,r⟩ hq E=>by
 unfold N5 at hq
 split at hq
 ·rename_i xs ei;obtain⟨ys,x,rfl,him,hij,hq⟩:=hq;obtain⟨v,hv,rp⟩:=r.g i _ _ ei rfl;obtain⟨p,vs,G,rfl,eF,h1,h2⟩:=rp.r.lst;obtain⟨us,w,F1,F2,rfl,r1,r2,rfl⟩:=h2.last;rw[gw,Bool.and_eq_true]at him;obtain rfl:=r1.im him.1;have hx:x.im=true:=by have:=him.2;simpa [T.ims]using this
  obtain rfl:=r2.im hx;refine⟨_,hv,.inl ⟨rfl,_,SqL.of h1⟩,p,_,w,rfl,rfl,h1,by simp,?_⟩
  rw[List.dropLast_concat];obtain⟨F3,r3⟩:=r.wX (H':=H) (ws:=us) (ys:=ys) (G':=[]) ei hv eF (.refl r.d) r1 List.nodup_nil (fun _ z=>nomatch z)
  have tf:aN K dl (upd H p (.lst us)) w x []:=by
   have tf:TF H (upd H p (.lst us)):=⟨fun a us' h=>(by
    rw[ag];exact h;intro z;subst z;rw[h]at h1;cases h1),fun a ob u h=>(by
    rw[ag];exact h;intro z;subst z;rw[h]at h1;cases h1),fun a φ h=>(by
    rw[ag];exact h;intro z;subst z;rw[h]at h1;cases h1),fun a xs' h=>(by
    by_cases z:a=p
    ·subst z;exact⟨_,ao⟩
    ·exact⟨xs',by rw[ag z];exact h⟩)⟩
   exact r2.dU tf (fun _ z=>z) fun _ z=>nomatch z
  exact E.nx _ _ _ (r3.GX (i:=j) (.refl r3.d) (.c tf) (fun _ z=>nomatch z) List.nodup_nil) hq
 ·exact hq.elim
theorem GD{i j:Nat}{x:Str}{pos':Pos}(hN:X.N.Nodup)(hi:X.N[j]? = some x)(hx:Loc X.env.scope x)(ho:PE X o (eZ i))(hK:X.K=K:=by rfl)(dJ:attributeBase o "pop" X.env (eval o X.env)=eval o X.env:=by rfl)(dI:(apos.endLine==bc.line)=true:=by rfl)
  (hs:swapsWith (.Call (.Attribute o "pop" apos) [] [] bc) (some (.Name x pos')) pos.line X.env=pure false:=by rfl) (hf:X.fn x=true\/X.env.scope.names.lookup x=some .local:=by first|exact .inl rfl|exact .inr rfl|assumption) :
  QPS X K (.Assign [.Name x pos'] (.Call (.Attribute o "pop" apos) [] [] bc) pos) (oB (J5 K "list" NT (eZ i)) (jw j)) (N5 i j) :=
 ⟨by subst hK;exact fO hN hi hx (so PySem.F.plainAttrs_list PySem.F.slot_list_pop PySem.F.type_list_pop xA ho dJ dI) hs hf,Kk⟩
def Qw(g:Tg)(qe:QE):QS:=fun D q=>qe q fun t=>t.im=true/\∃ q',g.put t q=some q'/\D.nx q'
theorem Kh{g:Tg}(he:ki K te qe):vz K (oB te (g.h K)) (Qw g qe):=fun dl H₀ hs H σ q Dq D ⟨F,r⟩ hq E=>he dl H σ q _ _ r.rd hq fun v t F' H' e1 r1 ⟨him,q',hq',hz⟩=>by
 obtain rfl:=r1.r.im him;exact Gx (r.evo e1) r1 (fun _ _ _ _ _ z=>nomatch z) hq' fun σ' r'=>E.nx _ _ _ r' hz
theorem NV{tg:Expr}{g:Tg}(he:QPE X K e te qe)(hg:PG X tg (g.h K))(hs:swapsWithSole [tg] e pos.line X.env=pure false:=by rfl)(hw:swappedStores [tg] e X.env=pure none:=by rfl)
  (h1:(assignEach [tg] X.env).map (·.2) = [assign tg X.env]:=by rfl):QPS X K (.Assign [tg] e pos) (oB te (g.h K)) (Qw g qe):=⟨GY he.h hg hs hw h1,Kh he.s⟩
def QD(i j:Nat)(qa qb:QE):QS:=fun D q=>qa q fun t=>t.im=true/\qb q fun u=>u.im=true/\D.nx ((q.set i (.o t)).set j (.o u))
theorem Kl{i j:Nat}(ha:ki K ta qa)(hb:ki K tb qb):vz K (Nv i j (cM ta (cM tb kO))) (QD i j qa qb):=fun dl H₀ hs H σ q Dq D ⟨F,r⟩ hq E=>by
 refine ha dl H σ q _ _ r.rd hq fun v t F1 H1 e1 r1 ⟨m1,hq⟩=>hb dl H1 σ q _ _ (r.rd.evo e1) hq fun w u F2 H2 e2 r2 hPP=>?_
 obtain⟨m2,hq⟩:=hPP;obtain rfl:=r1.r.im m1;obtain rfl:=r2.r.im m2;refine⟨v,w,rfl,?_⟩;obtain⟨F1,R1⟩:=r.GX (i:=i) (e1.trans e2) (r1.evo e1.d e2) (fun _ z=>nomatch z) List.nodup_nil
 exact E.nx _ _ _ (R1.GX (.refl R1.d) r2 (fun _ z=>nomatch z) List.nodup_nil) hq
def T.key:T->Option Key
 | .i x=>some (.inl x)
 | .s x=>some (.inr x)
 | _=>none
theorem aN.key{v:V}{t:T}{F:List Addr}{k:Key}(h:aN K dl H v t F)(e:t.key=some k):v=kV k:=by
 cases h <;> first |(cases e;rfl)|cases e
def dA(ks:List (Key×T))(k:Key):Option T:=(ks.find? fun p=>decide (p.1=k)).map (·.2)
def xh(ks:List (Key×T))(k:Key)(t:T):List (Key×T):=if(ks.any fun p=>decide (p.1=k))=true then ks.map (fun p=>if p.1=k then(p.1,t)else p)else ks ++ [(k,t)]
theorem a7.look{vs:List (Key×V)}{ts:List (Key×T)}{F:List Addr}(k:Key)(h:a7 K dl H vs ts F):(dA ts k=none/\fZ vs k=none)\/∃ t v G,dA ts k=some t/\fZ vs k=some v/\aN K dl H v t G/\∀ b∈G,b∈F :=
 h.ind (M:=fun vs ts F=>(dA ts k=none/\fZ vs k=none)\/∃ t v G,dA ts k=some t/\fZ vs k=some v/\aN K dl H v t G/\∀ b∈G,b∈F) (.inl ⟨rfl,rfl⟩) fun k0 v x vs ts F G h r ih=>by
  by_cases e:k0=k
  ·subst e;exact .inr ⟨_,_,_,by simp[dA],by simp[fZ],h,fun b hb=>List.mem_append_left _ hb⟩
  ·rcases ih with⟨h1,h2⟩ |⟨t,v,G,h1,h2,h3,h4⟩
   ·refine .inl ⟨?_,?_⟩
    ·unfold dA at h1 ⊢;rw[List.find?_cons,decide_eq_false e];exact h1
    ·unfold fZ at h2 ⊢;rw[List.find?_cons,decide_eq_false e];exact h2
   ·refine .inr ⟨t,v,G,?_,?_,h3,fun b hb=>List.mem_append_right _ (h4 b hb)⟩
    ·unfold dA at h1 ⊢;rw[List.find?_cons,decide_eq_false e];exact h1
    ·unfold fZ at h2 ⊢;rw[List.find?_cons,decide_eq_false e];exact h2
mutual
def T.imk:List (Key×T)->Bool
 | []=>true
 | (_,x)::r=>x.im&&T.imk r
end
theorem a7.im{vs:List (Key×V)}{ts:List (Key×T)}{F:List Addr}(h:a7 K dl H vs ts F):T.imk ts=true->F = []:=h.ind (M:=fun _ t F=>T.imk t=true->F = []) (fun _=>rfl) (fun _ _ _ _ _ _ _ h _ ih=>BL h.im ih)
theorem a7.keys{vs:List (Key×V)}{ts:List (Key×T)}{F:List Addr}(h:a7 K dl H vs ts F)(k:Key):(vs.any fun p=>decide (p.1=k))=ts.any fun p=>decide (p.1=k) :=
 h.ind (M:=fun vs ts _=>(vs.any fun p=>decide (p.1=k))=ts.any fun p=>decide (p.1=k)) rfl fun _ _ _ _ _ _ _ _ _ ih=>by rw[List.any_cons,List.any_cons,ih]
theorem a7.put{k:Key}{w:V}{t:T}(hw:aN K dl H w t []):∀{vs:List (Key×V)}{ts:List (Key×T)},a7 K dl H vs ts []->a7 K dl H (putK vs k w) (xh ts k t) []:=by
 have mp:∀{vs:List (Key×V)}{ts:List (Key×T)}{F:List Addr},a7 K dl H vs ts F->F = []->a7 K dl H (vs.map fun p=>if p.1=k then(p.1,w)else p) (ts.map fun p=>if p.1=k then(p.1,t)else p) []:=by
  intro vs ts F h
  induction ts generalizing vs F with
  | nil=>intro _;cases h;exact .nil
  | cons p ts ih =>
   cases h with
   | @cons k0 v x vs _ F1 F2 h1 h2 =>
    intro e;obtain⟨e1,e2⟩:=List.append_eq_nil_iff.mp e;subst e1 e2;have z:=ih h2 rfl;rw[List.map_cons,List.map_cons];by_cases e0:k0=k
    ·show a7 K dl H ((if k0=k then(k0,w)else(k0,v))::_) ((if k0=k then(k0,t)else(k0,x))::_) ([] ++ [])
     rw[if_pos e0,if_pos e0];exact .cons hw z
    ·show a7 K dl H ((if k0=k then(k0,w)else(k0,v))::_) ((if k0=k then(k0,t)else(k0,x))::_) ([] ++ [])
     rw[if_neg e0,if_neg e0];exact .cons h1 z
 have sn:∀{vs:List (Key×V)}{ts:List (Key×T)}{F:List Addr},a7 K dl H vs ts F->a7 K dl H (vs ++ [(k,w)]) (ts ++ [(k,t)]) F:=by
  intro vs ts F h
  induction ts generalizing vs F with
  | nil=>cases h;exact .cons (F:=[]) hw .nil
  | cons p ts ih =>
   cases h with
   | cons h1 h2=>exact .cons h1 (ih h2)
 intro vs ts h;unfold putK xh;rw[h.keys k]
 split
 ·exact mp h rfl
 ·exact sn h
theorem Rel.NQ{i:Nat}{p:Addr}{ws:List (Key×V)}{xs ys:List (Key×T)}{H':Hp}(r:Rel K dl H₀ hs H σ q F)(hi:q[i]? = some (.o (.d xs)))(hv:σ[i]? = some (some (.ref p)))(e:Evo dl H H')
  (rs:a7 K dl H' ws ys []):gC K dl H₀ hs (upd H' p (.dK ws)) σ (q.set i (.o (.d ys))):=by
 have r':=r.evo e;obtain⟨v',hv',rp⟩:=r'.g i _ _ hi rfl;rw[hv]at hv';cases hv';obtain⟨p2,vs2,G2,e2,eF,h1,h2⟩:=rp.r.dic;cases e2;have pn:Nd dl p:=rp.n p (by rw[eF];exact List.mem_cons_self)
 have tf:TF H' (upd H' p (.dK ws)):=⟨fun a us h=>(by
  rw[ag];exact h;intro z;subst z;rw[h]at h1;cases h1),fun a ob u h=>(by
  rw[ag];exact h;intro z;subst z;rw[h]at h1;cases h1),fun a φ h=>(by
  rw[ag];exact h;intro z;subst z;rw[h]at h1;cases h1),fun a xs' h=>(by
  have ne:a≠p:=by
   intro z;subst z;rw[h]at h1;cases h1
  exact⟨xs',by rw[ag ne];exact h⟩)⟩
 have rs2:a7 K dl (upd H' p (.dK ws)) ws ys []:=rs.dU tf (fun _ z=>z) fun _ z=>nomatch z
 exact⟨_,r'.write (t':=.d ys) (F':=[p]) hi hv (by rw[eF];exact List.mem_cons_self) (fun xs' h=>by rw[h1]at h;cases h) ⟨.d ao rs2,fun b hb=>by rw[List.mem_singleton.mp hb];exact pn⟩ (by simp) fun b hb=>by rw[List.mem_singleton.mp hb,eF];exact .inl List.mem_cons_self⟩
def GP(i:Nat)(qk qv:QE):QS:=fun D q=>match q[i]? with
 | some (.o (.d xs))=>qv q fun t=>qk q fun u=>match u.key with
  | some k=>xs.length<sizeLine/\T.imk xs=true/\t.im=true/\D.nx (q.set i (.o (.d (xh xs k t))))
  | none=>False
 | _=>False
theorem Kj{i:Nat}(hk:ki K tk qk)(hv:ki K tv qv):vz K (Gr (eZ i) tk tv) (GP i qk qv):=fun dl H₀ hs H σ q Dq D ⟨F,r⟩ hq E=>by
 unfold GP at hq
 split at hq
 ·rename_i xs ei;refine hv dl H σ q _ _ r.rd hq fun w t F1 H1 e1 r1 hq=>?_
  obtain⟨v,hv',rp⟩:=(r.evo e1).g i _ _ ei rfl;refine⟨v,hv',hk dl H1 σ q _ _ (r.rd.evo e1) hq fun y u F2 H2 e2 r2 hq=>?_⟩
  split at hq
  ·rename_i k ek;obtain⟨hz,hm,ht,hq⟩:=hq;obtain rfl:=r1.r.im ht;have rp2:=rp.evo e1.d e2;obtain⟨p,vs,G,rfl,eF,h1,h2⟩:=rp2.r.dic;obtain rfl:=h2.im hm;rw[r2.r.key ek];exact⟨p,_,rfl,yO.k h1 (by rw[h2.len];exact hz),E.nx _ _ _ (r.NQ ei hv' (e1.trans e2) (a7.put (r1.evo e1.d e2).r h2)) hq⟩
  ·exact hq.elim
 ·exact hq.elim
theorem NX{i:Nat}{pos':Pos}(hu:X.A.units+1<cLine)(ho:PE X o (eZ i))(hk:QPE X K a tk qk)(hv:QPE X K b tv qv)(hs:swapsWith b (some (.Subscript o a pos')) pos.line X.env=pure false:=by rfl) :
  QPS X K (.Assign [.Subscript o a pos'] b pos) (Gr (eZ i) tk tv) (GP i qk qv):=⟨qT hu ho hk.h hv.h hs,Kj hk.s hv.s⟩
theorem KH:QPF X K (.Dict [] [] pos) FQ (qC (.d [])):=⟨Hm,fun dl H σ q Q R rd hq k=>fun p hp=>k _ _ [p] _ ((Evo.refl rd.d).new hp) ⟨.d ao .nil,fun b hb=>by rw[List.mem_singleton.mp hb];exact rd.d.nd0 hp⟩ (fun b hb=>by rw[List.mem_singleton.mp hb];exact hp) (by simp) hq⟩
def QR(neg:Bool):Q2:=fun t u Q=>match u with
 | .d ks=>match t.key with
  | some k=>Q (.b (if neg then !(dA ks k).isSome else(dA ks k).isSome))
  | none=>False
 | _=>False
def Qo(neg:Bool):R2:=fun y x H Q=>∃ a o,x = .ref a/\km H a y o/\Q (.bl (if neg then !o.isSome else o.isSome)) H
theorem Bg(hu:X.A.units+1<cLine):OpR X (compareOp .In) (Qo false):=by
 intro pins s σ H y x u v Q I ry rx h;obtain⟨a,o,rfl,g,q⟩:=h;cases rx;exact Tq hu I g ry fun s' I'=>⟨.bl _,H,I',rfl,q⟩
theorem wU{neg:Bool}:fL K (Qo neg) (QR neg):=by
 intro dl H x y t u F G Q R D r1 r2 hq k;unfold QR at hq
 split at hq
 ·split at hq
  ·rename_i k0 ek;obtain⟨p,vs,G,rfl,_,h1,h2⟩:=r2.r.dic;rw[r1.r.key ek];refine⟨p,_,rfl,km.k h1,k _ _ [] H (.refl D) (.c (.b _)) (fun _ z=>nomatch z) List.nodup_nil ?_⟩
   have e:∀{ks:List (Key×T)},a7 K dl H vs ks G ->(fZ vs k0).isSome =(dA ks k0).isSome:=fun{ks} h2=>by
    rcases h2.look k0 with⟨z1,z2⟩ |⟨_,_,_,z1,z2,_⟩
    ·rw[z1,z2];rfl
    ·rw[z1,z2];rfl
   rw[e h2];exact hq
  ·exact hq.elim
 ·exact hq.elim
def Oa:Q2:=fun t u Q=>match t with
 | .d ks=>match u.key with
  | some k=>∃ x,dA ks k=some x/\Q x
  | none=>False
 | _=>qIx t u Q
def Ql:R2:=fun x y H Q=>∃ a kvs k v,x = .ref a/\y=kV k/\H a=some (.dK kvs)/\fZ kvs k=some v/\Q v H
theorem LP:IxR X Ql:=by
 intro value slice pins s σ H x y v u Q I rx ry h hs;obtain⟨a,kvs,k,w,rfl,rfl,ha,hv,q⟩:=h;cases rx;obtain⟨z,hd,vs,rel,dd⟩:=p8 I.hok (Rd.of ha);obtain⟨w',hw,rw'⟩:=iE.some_of (v:=w) (o:=valueAt vs k) (by rw[<- hv];exact rel.val k)
 exact subscriptTail_builtinR (x:=w') dd.typeIs PySem.F.slot_dict_getitem.lookup (wpAny_getItem_of (Q:=fun r s'=>r=w'/\EP X pins σ Q r s') (pY ry) dd.mapOf hw ⟨rfl,w,H,I.tok _,rw',q⟩) hs
def NU(K:W.Frag):R2:=fun x y H Q=>rIx K x y H Q\/Ql x y H Q
theorem SX(hK:X.K=K):IxR X (NU K):=by subst hK;exact BF.or LP
theorem Ko:MB K (NU K) Oa:=by
 intro dl H x y t u F G Q R D r1 r2 hq k;unfold Oa at hq
 split at hq
 ·split at hq
  ·rename_i k0 ek;obtain⟨z,hz,hq⟩:=hq;obtain⟨p,vs,G,rfl,eF,h1,h2⟩:=r1.r.dic;rw[r2.r.key ek];rcases h2.look k0 with⟨z1,z2⟩ |⟨t,v,G',z1,z2,z3,z4⟩
   ·rw[z1]at hz;cases hz
   ·rw[z1]at hz;cases hz;exact .inr ⟨p,vs,k0,v,rfl,rfl,h1,z2,k v _ G' H (.refl D) (Rp.sub z3 r1.n fun b hb=>by rw[eF];exact List.mem_cons_of_mem _ (z4 b hb)) hq⟩
  ·exact hq.elim
 ·exact .inl (Gi dl H x y t u F G Q R D r1 r2 hq k)
theorem lZ(ha:QPE X K a ta qa)(hb:QPE X K b tb qb)(hs:rh b:=by intro _ _;rfl)(hK:X.K=K:=by rfl):QPE X K (.Subscript a b pos) (tOp (NU K) ta tb) (qOp Oa qa qb):=⟨pR (SX hK) ha.h hb.h hs,AY Ko ha.s hb.s⟩
def GQ(qd qk qx:QE):QE:=fun q Q=>qd q fun d=>match d with
 | .d ks=>qk q fun u=>match u.key with
  | some k=>qx q fun x=>Q ((dA ks k).getD x)
  | none=>False
 | _=>False
theorem KD{d f:Expr}{td tx:TE}{qd qx:QE}(hu:X.A.units+1<cLine)(hd:QPE X K d td qd)(hk:QPE X K e tk qk)(hx:QPE X K f tx qx)(m:M2 X d "get" apos e f bc:=by exact⟨rfl,rfl,rfl,rfl⟩):QPE X K (.Call (.Attribute d "get" apos) [e,f] [] bc) (FR td tk tx) (GQ qd qk qx) :=
 ⟨Hn hu hd.h hk.h hx.h m,fun dl H σ q Q R rd hq k=>hd.s dl H σ q _ _ rd hq fun v t F H1 e1 r1 hq=>by
  split at hq
  ·obtain⟨p,vs,G,rfl,eF,h1,h2⟩:=r1.r.dic;refine⟨p,rfl,.inl ⟨vs,Rd.of h1⟩,hk.s dl H1 σ q _ _ (rd.evo e1) hq fun y u F2 H2 e2 r2 hq=>?_⟩
   split at hq
   ·rename_i k0 ek;refine hx.s dl H2 σ q _ _ ((rd.evo e1).evo e2) hq fun z w F3 H3 e3 r3 hq=>?_
    have rp:=(r1.evo e1.d e2).evo e2.d e3;obtain⟨p',vs',G',e',eF',h1',h2'⟩:=rp.r.dic;cases e';rw[r2.r.key ek];refine⟨_,km.k h1',?_⟩;rcases h2'.look k0 with⟨z1,z2⟩ |⟨t,v,G2,z1,z2,z3,z4⟩
    ·rw[z2];rw[z1]at hq;exact k _ _ F3 H3 ((e1.trans e2).trans e3) r3 hq
    ·rw[z2];rw[z1]at hq;exact k _ _ G2 H3 ((e1.trans e2).trans e3) (Rp.sub z3 rp.n fun b hb=>by rw[eF'];exact List.mem_cons_of_mem _ (z4 b hb)) hq
   ·exact hq.elim
  ·exact hq.elim⟩
def R8:T->Option Str
 | .s x=>some x
 | _=>none
abbrev txs:List T->Option (List Str):=picks R8
theorem av.txs{vs:List V}{ts:List T}{F:List Addr}{bs:List Str}(h:av K dl H vs ts F)(e:L2.txs ts=some bs):vs=bs.map V.str :=
 h.picks (f:=R8) (fun v t F a h e=>by cases t <;> first |(cases e;exact h.str.1)|cases e) e
theorem wJ(bs:List Str):txs (bs.map T.s)=some bs:=by
 induction bs with
 | nil=>rfl
 | cons b r ih=>show(txs (r.map T.s)).map (b :: ·)=_;rw[ih];rfl
def QL(qo qe:QE):QE:=fun q Q=>qo q fun s=>match s with
 | .s sep=>qe q fun t=>match t with
  | .l xs=>∃ ys,txs xs=some ys/\(ys.map (·.length)).sum+ys.length*sep.length<=16777216/\Q (.s (Txt.join sep ys))
  | _=>False
 | _=>False
theorem kE{qo:QE}{to:TE}(ho:QPE X K o to qo)(he:QPE X K e te qe)(hK:X.K=K:=by rfl)(dJ:attributeBase o "join" X.env (eval o X.env)=eval o X.env:=by rfl)
  (mD:((backTo bc (starEach [e] X.env)).all (fun x=>!x.1)&&(backToKw bc (keywordEach [] X.env)).all (fun x=>x.1.isSome)
   && decide (([e]:List Expr).length+([]:List Keyword).length+(if([]:List Keyword).isEmpty then 0 else 1)<30))=true:=by rfl)
  (dI:(apos.endLine==bc.line)=true:=by rfl) (hs:starEach [e] X.env =(false,eval e X.env)::starEach [] X.env:=by rfl) (gx:(backTo bc (starEach [] X.env)).any (·.1)=false:=by rfl) :
  QPF X K (.Call (.Attribute o "join" apos) [e] [] bc) (tBM K "str" (rJoin K) to (cM te kO)) (QL qo qe):=⟨by
 subst hK;exact su PySem.F.plainAttrs_str PySem.F.slot_str_join PySem.F.type_str_join LB ho.h (aQ he.h bE hs) dJ mD dI hs gx,fun dl H σ q Q R rd hq k=>ho.s dl H σ q _ _ rd hq fun v t F H1 e1 r1 hq=>by
  split at hq
  ·obtain⟨rfl,_⟩:=r1.r.str;refine⟨rfl,he.s dl H1 σ q _ _ (rd.evo e1) hq fun w u F2 H2 e2 r2 hq=>?_⟩
   split at hq
   ·obtain⟨ys,hy,hz,hq⟩:=hq;obtain⟨p,vs,G,rfl,eF,h1,h2⟩:=r2.r.lst;have ev:=h2.txs hy;subst ev;exact⟨_,p,ys,rfl,rfl,SqL.of h1,hz,k _ _ [] H2 (e1.trans e2) (.c (.s _)) (fun _ z=>nomatch z) List.nodup_nil hq⟩
   ·exact hq.elim
  ·exact hq.elim⟩
def MS(i:Nat)(qk qv:QE):QS:=fun D q=>qv q fun t=>match q[i]? with
 | some (.o (.l xs))=>qk q fun u=>match u with
  | .i k=>∃ j,ixN xs.length k=some j/\T.ims xs=true/\t.im=true/\D.nx (q.set i (.o (.l (xs.set j t))))
  | _=>False
 | _=>False
end
def x6(vs ws:List V):Bool:=vs.length==ws.length&&(List.range vs.length).all fun j=>match vs[j]?,ws[j]? with|some x,some y=>eqV x y | _,_=>false
section
variable{X:Cx}{K:W.Frag}
theorem Vals.at'{vs:List V}{its:List Value}(r:Vals vs its){j:Nat}(h:j<its.toArray.size):∃ v,vs[j]? = some v/\RelV v its.toArray[j]:=by
 have hl:=r.length;have hj:j<its.length:=by simpa using h
 have hv:j<vs.length:=by omega
 obtain⟨u,h1,h2⟩:=r.get (i:=j) (x:=vs[j]) (by simp[hv])
 have:its[j]? = some its[j]:=by simp[hj]
 rw[this]at h1;cases h1;exact⟨vs[j],by simp[hv],by simpa using h2⟩
theorem qY{vs:List V}{j:Nat}{v:V}(h:vs.all gJ=true)(e:vs[j]? = some v):gJ v=true:=List.all_eq_true.mp h v (List.mem_of_getElem? e)
def Qm(K:W.Frag):R2:=fun x y H Q=>∃ p q vs ws,x = .ref p/\y = .ref q/\((SqL K H p vs/\SqL K H q ws)\/(SqT K H p vs/\SqT K H q ws))/\vs.all gJ=true/\ws.all gJ=true/\Q (.bl (x6 vs ws)) H
theorem Ow(hu:X.A.units+1<cLine):OpR X (compareOp .Eq) (Qm X.K):=by
 intro pins s σ H x y v u Q I rx ry h;obtain⟨p,q,vs,ws,rfl,rfl,hs,f1,f2,k⟩:=h;cases rx;cases ry;rcases hs with⟨h1,h2⟩ |⟨h1,h2⟩
 ·obtain⟨its,r1,p1,_⟩:=I.list h1;obtain⟨eU,r2,p2,_⟩:=I.list h2;have l1:=r1.length;have l2:=r2.length;by_cases hl:its.length=eU.length
  ·refine SeqAt.eq_listAt (e:=fun j=>match vs[j]?,ws[j]? with|some x,some y=>eqV x y | _,_=>false) p1.isList p2.isList (by simpa using hl) (by omega) (fun j g1 g2=>?_) ⟨.bl _,H,I,rfl,?_⟩
   ·obtain⟨a,ea,ra⟩:=r1.at' g1;obtain⟨b,eb,rb⟩:=r2.at' g2;simp only[ea,eb];exact tJ ra rb (qY f1 ea) (qY f2 eb)
   ·have e:x6 vs ws =(List.range its.toArray.size).all fun j=>match vs[j]?,ws[j]? with|some x,some y=>eqV x y | _,_=>false:=by
     unfold x6;rw[show(vs.length==ws.length)=true from by simp;omega,Bool.true_and,List.size_toArray,l1]
    rw[<- e];exact k
  ·refine SeqAt.eq_list_lengthsAt p1.isList p2.isList (by simpa using hl) (by omega) ⟨.bl _,H,I,rfl,?_⟩
   have e:x6 vs ws=false:=by
    unfold x6;rw[show(vs.length==ws.length)=false from by simp;omega,Bool.false_and]
   rw[<- e];exact k
 ·obtain⟨its,r1,p1,_⟩:=I.tuple h1;obtain⟨eU,r2,p2,_⟩:=I.tuple h2;have l1:=r1.length;have l2:=r2.length;refine SeqAt.eq_tupleAt (e:=fun j=>match vs[j]?,ws[j]? with|some x,some y=>eqV x y | _,_=>false) (show s.heap.IsTuple p its.toArray from p1) (show s.heap.IsTuple q eU.toArray from p2) (by omega) (fun j g1 g2=>?_) ⟨.bl _,H,I,rfl,?_⟩
  ·obtain⟨a,ea,ra⟩:=r1.at' g1;obtain⟨b,eb,rb⟩:=r2.at' g2;simp only[ea,eb];exact tJ ra rb (qY f1 ea) (qY f2 eb)
  ·have e:x6 vs ws =((List.range (min its.toArray.size eU.toArray.size)).all (fun j=>match vs[j]?,ws[j]? with|some x,some y=>eqV x y | _,_=>false)&&its.toArray.size==eU.toArray.size):=by
    unfold x6;rw[List.size_toArray,List.size_toArray,<- l1,<- l2,Bool.and_comm];by_cases hl:vs.length=ws.length
    ·rw[hl,Nat.min_self]
    ·rw[show(vs.length==ws.length)=false from by simpa using hl,Bool.and_false,Bool.and_false]
   rw[<- e];exact k
def eqF(xs ys:List T):Bool:=x6 (xs.map T.v) (ys.map T.v)
def QQ:Q2:=fun t u Q=>match t,u with
 | .l xs,.l ys=>(fls xs&&fls ys)=true/\Q (.b (eqF xs ys))
 | .t xs,.t ys=>(fls xs&&fls ys)=true/\Q (.b (eqF xs ys))
 | t,u=>qEq t u Q
def Qn(K:W.Frag):R2:=fun x y H Q=>rEq x y H Q\/Qm K x y H Q
theorem cX(hu:X.A.units+1<cLine)(hK:X.K=K):OpR X (compareOp .Eq) (Qn K):=by subst hK;exact vV.or (Ow hu)
theorem bX:fL K (Qn K) QQ:=by
 intro dl H x y t u F G Q R D r1 r2 hq k;unfold QQ at hq
 split at hq
 ·obtain⟨p,vs,G1,rfl,rfl,h1,h2⟩:=r1.r.lst;obtain⟨p',vs',G2,rfl,rfl,h3,h4⟩:=r2.r.lst;obtain⟨f,hq⟩:=hq;rw[Bool.and_eq_true]at f;obtain⟨rfl,rfl⟩:=h2.vs f.1;obtain⟨rfl,rfl⟩:=h4.vs f.2;exact .inr ⟨p,p',_,_,rfl,rfl,.inl ⟨SqL.of h1,SqL.of h3⟩,tH f.1,tH f.2,k _ _ [] H (.refl D) (.c (.b _)) (fun _ z=>nomatch z) List.nodup_nil hq⟩
 ·obtain⟨p,vs,rfl,h1,h2⟩:=r1.r.tup;obtain⟨p',vs',rfl,h3,h4⟩:=r2.r.tup;obtain⟨f,hq⟩:=hq;rw[Bool.and_eq_true]at f;obtain⟨rfl,rfl⟩:=h2.vs f.1;obtain⟨rfl,rfl⟩:=h4.vs f.2;exact .inr ⟨p,p',_,_,rfl,rfl,.inr ⟨SqT.of h1,SqT.of h3⟩,tH f.1,tH f.2,k _ _ [] H (.refl D) (.c (.b _)) (fun _ z=>nomatch z) List.nodup_nil hq⟩
 ·exact .inl (NM dl H x y t u F G Q R D r1 r2 hq k)
end
end L2
namespace PySem
open Sem (wp)
section
variable{prog:Program}{w:World}{A:Around}{E:Value->Shared->Prop}
theorem qE:typeLookup (.type "tuple") "keys" = pure none:=am_miss_of_fast (by decide +kernel)
theorem sV:typeLookup (.type "list") "keys" = pure none:=am_miss_of_fast (by decide +kernel)
set_option maxRecDepth 8000 in
theorem qF{s:Shared}{a:Addr}{o:Obj}{xs:Array Value}{k:Nat}{Q:Option Value->Shared->Prop}
  (hx:s.heap.get? a=some o) (hc:o.cls = .type "tuple") (IH:o.data = .seq xs k) (hd:o.dict=none) (hA:A.handled=none)
  (h:∀ h' tk,(∀ b o,s.heap.get? b=some o->h'.get? b=some o)->Q none { s with heap:=h',toks:=tk }) :
  wpAny (model prog w) A (getAttr? (.ref a) "keys") Q E s:=by
 obtain⟨c,dct,dat,sl⟩:=o;simp only at hc IH hd;subst hc IH hd;obtain⟨hp,g,d,tk,os⟩:=s;have hT:∀ tk',(⟨hp,g,d,tk',os⟩:Shared).TypeIs (.ref a) "tuple":=fun _=>⟨_,hx,rfl⟩
 have f1:=sub_AttributeError;have f3:=F.slot_tuple_getattribute.lookup;have f4:=F.slot_tuple_getattribute.bind (.ref a);have f5:=am_tuple_getattr_none;unfold getAttr? getAttrBy? getAttrBy
 repeat (any_goals (first|assumption|exact hT _ |((with_reducible show wpAny _ _ (call (Value.builtin "tuple.__getattribute__") _ _) _ _ _);refine call_meets F.slot_tuple_getattribute (hT _) am_entry_tuple_getattribute (F.args_tuple_getattribute_2 _ _) (meets_getattribute_miss_tuple a xs k sl "keys" _ qE (by decide +kernel) (by decide +kernel)) ⟨hx,hA,fun h' tk' e hx'=>?_⟩)|wp_step))
 obtain⟨t',u',he⟩:=hx'.there;show wpAny _ _ (getattributeRaised _ _ _ _ _ _ _) _ _ _;unfold getattributeRaised
 repeat (any_goals (first|assumption|wp_step))
 exact h _ _ hx'.keeps
set_option maxRecDepth 8000 in
theorem sU{s:Shared}{a:Addr}{o:Obj}{xs:Array Value}{k:Nat}{Q:Option Value->Shared->Prop}
  (hx:s.heap.get? a=some o) (hc:o.cls = .type "list") (IH:o.data = .seq xs k) (hd:o.dict=none) (hA:A.handled=none)
  (h:∀ h' tk,(∀ b o,s.heap.get? b=some o->h'.get? b=some o)->Q none { s with heap:=h',toks:=tk }) :
  wpAny (model prog w) A (getAttr? (.ref a) "keys") Q E s:=by
 obtain⟨c,dct,dat,sl⟩:=o;simp only at hc IH hd;subst hc IH hd;obtain⟨hp,g,d,tk,os⟩:=s;have hT:∀ tk',(⟨hp,g,d,tk',os⟩:Shared).TypeIs (.ref a) "list":=fun _=>⟨_,hx,rfl⟩
 have f1:=sub_AttributeError;have f3:=F.slot_list_getattribute.lookup;have f4:=F.slot_list_getattribute.bind (.ref a);have f5:=am_list_getattr_none;unfold getAttr? getAttrBy? getAttrBy
 repeat (any_goals (first|assumption|exact hT _ |((with_reducible show wpAny _ _ (call (Value.builtin "list.__getattribute__") _ _) _ _ _);refine call_meets F.slot_list_getattribute (hT _) am_entry_list_getattribute (F.args_list_getattribute_2 _ _) (meets_getattribute_miss_list a xs k sl "keys" _ sV (by decide +kernel) (by decide +kernel)) ⟨hx,hA,fun h' tk' e hx'=>?_⟩)|wp_step))
 obtain⟨t',u',he⟩:=hx'.there;show wpAny _ _ (getattributeRaised _ _ _ _ _ _ _) _ _ _;unfold getattributeRaised
 repeat (any_goals (first|assumption|wp_step))
 exact h _ _ hx'.keeps
end
end PySem
namespace PySem
open Sem (wp)
namespace F
theorem eI:entryFor table "dict.update.loop" = some Builtin.«dict.update.loop»:=entryFor_of_tree (by kernel_rfl)
theorem bq:plainId "dict.update.loop" = true:=by decide +kernel
end F
section
variable{prog:Program}{w:World}{A:Around}{R:Result->Shared->Prop}{I:Addr}{fp wr:List Addr}{n:Nat}{P:Nat->Value->Prop}{St:Nat->Heap->Prop}{κ:Type} [DecidableEq κ] {knd:KeyKind prog w κ}
theorem uE(kvs:List (κ×Value))(k:κ)(v:Value):(stored kvs k v).length<=kvs.length+1:=by
 unfold stored
 split <;> simp
theorem uX(kvs:List (κ×Value)):∀(more:List (κ×Value)),(merged kvs more).length<=kvs.length+more.length:=by
 intro more
 induction more generalizing kvs with
 | nil=>exact Nat.le_refl _
 | cons p r ih =>
  have h1:=ih (stored kvs p.1 p.2);have h2:=uE kvs p.1 p.2;show(merged (stored kvs p.1 p.2) r).length<=_;simp only[List.length_cons];omega
theorem g8(W:Walks prog w A.in1 I fp wr n P St)(S:Addr)(hSf:S ∉ fp)(res:Value)(h0:Heap)(kvs pairs:List (κ×Value))(hsz:kvs.length+pairs.length<=sizeLine)(hnl:pairs.length=n)
  (hp:∀ i v,P i v->∃(a:Addr)(o:Obj)(key val:Value)(k:κ)(m:Nat),v = .ref a/\pairs[i]? = some (k,val)/\knd.is k key=true/\h0.get? a=some o/\o.cls = .type "tuple" /\ o.data = .seq #[key,val] m/\a ∉ wr/\a≠S) :
  ∀(j i:Nat)(s:Shared),n - i=j->i<=n->St i s.heap->s.heap.DictOf knd S (merged kvs (pairs.take i)) ->(∀ b o,b ∉ wr->b≠S->h0.get? b=some o->s.heap.get? b=some o) ->
  (∀ h' tk,(∀ b o,b ∉ wr->b≠S->s.heap.get? b=some o->h'.get? b=some o)->h'.DictOf knd S (merged kvs pairs)->R (.ok (.ret res)) { s with heap:=h',toks:=tk }) ->
  codeAny (model prog w) A (.builtin "dict.update.loop" ⟨[.ref S,.ref I,rawInt i,res],[]⟩) R s:=by
 have hSw:S ∉ wr:=fun h=>hSf (W.sub _ h)
 intro j
 induction j with
 | zero =>
  intro i s hk hi hst hS hk0 hR;have hin:i=n:=by omega
  subst hin;refine codeAny_builtin F.eI ?_;rw[Around.under_plainId F.bq _];show wpAny _ A.in1 (pyNext (.ref I) >>= _) _ _ s;refine wpAny_bind (W.done s _ _ hst fun h' tk hk'=>?_)
  show wpAny _ A.in1 (Builtin.Dict.addKeywords S [] >>= _) _ _ _;refine wpAny_bind (wpAny_pure (wpAny_pure (hR h' tk (fun b o hb _ e=>hk' b o hb e) ?_)))
  rw[<- hnl,List.take_length]at hS;obtain⟨o,es,ep,ho,r⟩:=hS;exact⟨o,es,ep,hk' S o hSw ho,r⟩
 | succ j ih =>
  intro i s hk hi hst hS hk0 hR;have hlt:i<n:=by omega
  refine codeAny_builtin F.eI ?_;rw[Around.under_plainId F.bq _];show wpAny _ A.in1 (pyNext (.ref I) >>= _) _ _ s;refine wpAny_bind (W.item i s _ _ hlt hst fun v h' tk hP O9 hk'=>?_)
  obtain⟨a,o,key,val,k,m,rfl,hpi,Pe,ho,hc,hd,haw,haS⟩:=hp i v hP;have ho':h'.get? a=some o:=hk' a o haw (hk0 a o haw haS ho);have hS':h'.DictOf knd S (merged kvs (pairs.take i)):=by
   obtain⟨o,es,ep,ho,r⟩:=hS;exact⟨o,es,ep,hk' S o hSw ho,r⟩
  show wpAny _ A.in1 (holding [Value.ref a] _ >>= _) _ _ _;refine wpAny_bind (wpAny_holding ?_);refine wpAny_bind (wpAny_tryCatch ?_);unfold Builtin.Dict.pairItems;refine wpAny_bind (wpAny_typeOf (T:="tuple") ⟨o,ho',hc⟩ ?_);rw[if_pos (by decide)]
  refine wpAny_bind (wpAny_seqItems ho' hd (wpAny_pure ?_));show wpAny _ A.in1 (holding [key,val] (dictSet S key val)) _ _ _;have hml:(merged kvs (pairs.take i)).length<=sizeLine:=by
   have h1:=uX kvs (pairs.take i);rw[List.length_take]at h1;omega
  refine wpAny_holding (wpAny_dictSet_pairs (hsz:=hml) Pe hS' fun h'' RQ hsb=>?_)
  have e:=merged_take_succ kvs pairs i (k,val) hpi;rw[<- e]at RQ;have fr:∀ b o,b≠S->h'.get? b=some o->h''.get? b=some o:=fun b o hb eb=>(hsb.2 b hb).trans eb
  refine wpAny_pure ⟨plainId_quiet F.bq _,ih (i+1) _ (by omega) hlt (W.frame _ _ _ O9 fun b hb o eb=>fr b o (fun z=>hSf (z▸hb)) eb) RQ (fun b o hb hbS eb=>fr b o hbS (hk' b o hb (hk0 b o hb hbS eb))) fun h3 tk3 hk3 hS3=>?_⟩
  exact hR h3 tk3 (fun b o hb hbS eb=>hk3 b o hb hbS (fr b o hbS (hk' b o hb eb))) hS3
end
end PySem
namespace PySem
open Sem (wp)
section
variable{prog:Program}{w:World}{A:Around}{E:Value->Shared->Prop}{s:Shared}{κ:Type} [DecidableEq κ] {knd:KeyKind prog w κ}
theorem oq{S p:Addr}{its:Array Value}{kvs pairs:List (κ×Value)}{id:String}{res:Value}{R:Result->Shared->Prop}(hh:A.handled=none)(hS:s.heap.DictOf knd S kvs)(hpS:p≠S)
  (ho:∃(o:Obj)(n:Nat),s.heap.get? p=some o/\o.dict=none/\o.data = .seq its n/\(o.cls = .type "tuple" \/ o.cls = .type "list")) (hsz:kvs.length+pairs.length<=sizeLine) (hnl:pairs.length=its.size)
  (hp:∀(i:Nat)(v:Value),its[i]? = some v->∃(a:Addr)(o:Obj)(key val:Value)(k:κ)(m:Nat),v = .ref a/\pairs[i]? = some (k,val)/\knd.is k key=true/\s.heap.get? a=some o/\o.cls = .type "tuple" /\ o.data = .seq #[key,val] m)
  (hR:∀ h' tk,(∀ b o,b≠S->s.heap.get? b=some o->h'.get? b=some o)->h'.DictOf knd S (merged kvs pairs)->R (.ok (.ret res)) { s with heap:=h',toks:=tk }) :
  wpAny (model prog w) A.in1 (Builtin.Dict.updateFrom id S (.ref p) [] res) (fun fin s'=>match fin with | .done f=>R (.ok f) s' | .again c'=>c'.quiet=true/\codeAny (model prog w) A c' R s') (fun e s'=>R (.error e) s') s:=by
 obtain⟨o,n,hg,hdn,hdt,hcl⟩:=ho;have T2:p<s.heap.objs.size:=Heap.lt_size hg;have T6:S<s.heap.objs.size:=by obtain⟨_,_,_,e,_⟩:=hS;exact Heap.lt_size e
 have fin:∀(h1:Heap)(tk:Nat)(h2:Heap)(I:Addr)(St:Nat->Heap->Prop),(∀ b o,s.heap.get? b=some o->h1.get? b=some o) ->(∀ b o,h1.get? b=some o->h2.get? b=some o)->h1.objs.size<=I->Walks prog w A.in1 I [I,p] [I] its.size (fun i v=>its[i]? = some v) St->St 0 h2 ->
   codeAny (model prog w) A (.builtin "dict.update.loop" ⟨[.ref S,.ref I,rawInt 0,res],[]⟩) R { s with heap:=h2,toks:=tk }:=by
  intro h1 tk h2 I St k1 k2 hI W hst;have lt1:∀ b o,s.heap.get? b=some o->b≠I:=fun b o e z=>by
   have:b<h1.objs.size:=Heap.lt_size (k1 b o e)
   exact absurd (Nat.lt_of_lt_of_le this hI) (by rw[z];exact Nat.lt_irrefl _)
  have hSI:S ∉ [I,p]:=fun z=>by
   obtain⟨o,_,_,e,_⟩:=hS;rcases List.mem_cons.mp z with z|z
   ·exact lt1 S o e z
   ·exact hpS (List.mem_singleton.mp z).symm
  refine g8 (knd:=knd) W S hSI res s.heap kvs pairs hsz hnl (fun i v hP=>?_) its.size 0 _ rfl (Nat.zero_le _) hst ?_ (fun b o _ _ e=>k2 b o (k1 b o e)) fun h' tk' hk hS'=>?_
  ·obtain⟨a,oa,key,val,k,m,e1,e2,e3,e4,e5,e6⟩:=hp i v hP;refine⟨a,oa,key,val,k,m,e1,e2,e3,e4,e5,e6,fun z=>lt1 a oa e4 (List.mem_singleton.mp z),fun z=>?_⟩
   obtain⟨o,_,_,e,hc,hd,_⟩:=hS;rw[<- z,e4]at e;cases e;rw[e6]at hd;cases hd
  ·obtain⟨o,es,ep,e,r⟩:=hS;exact⟨o,es,ep,k2 _ _ (k1 _ _ e),r⟩
  ·exact hR h' tk' (fun b o hb e=>hk b o (fun z=>lt1 b o e (List.mem_singleton.mp z)) hb (k2 b o (k1 b o e))) hS'
 unfold Builtin.Dict.updateFrom;rcases hcl with hcl|hcl
 ·refine wpAny_bind (wpAny_typeOf (T:="tuple") ⟨o,hg,hcl⟩ ?_);rw[if_pos (by decide)]
  refine wpAny_bind (qF hg hcl hdt hdn hh fun h1 tk k1=>?_)
  rw[if_pos (show(none:Option Value).isNone=true from rfl)];refine wpAny_bind (wpAny_rule ?_);have hT:h1.IsTuple p its:=⟨o,k1 _ _ hg,hcl,n,hdt⟩;refine wpAny_bind (wpAny_pyIter_tuple hT ?_);refine wpAny_pure ⟨plainId_quiet F.bq _,?_⟩;exact fin h1 tk _ h1.objs.size _ k1 (fun b o e=>Heap.get?_push_of_some _ e) (Nat.le_refl _) (Walks.tuple (show A.in1.handled=none from hh) _ p (Nat.ne_of_lt (Heap.lt_size (k1 _ _ hg))) its) ⟨⟨_,Heap.get?_push_size _ rfl,rfl,rfl⟩,hT.push _⟩
 ·refine wpAny_bind (wpAny_typeOf (T:="list") ⟨o,hg,hcl⟩ ?_);rw[if_pos (by decide)]
  refine wpAny_bind (sU hg hcl hdt hdn hh fun h1 tk k1=>?_)
  rw[if_pos (show(none:Option Value).isNone=true from rfl)];refine wpAny_bind (wpAny_rule ?_);have hT:h1.IsList p its:=⟨o,k1 _ _ hg,hcl,n,hdt⟩;refine wpAny_bind (wpAny_pyIter_list hT ?_);refine wpAny_pure ⟨plainId_quiet F.bq _,?_⟩;exact fin h1 tk _ h1.objs.size _ k1 (fun b o e=>Heap.get?_push_of_some _ e) (Nat.le_refl _) (Walks.list (show A.in1.handled=none from hh) _ p (Nat.ne_of_lt (Heap.lt_size (k1 _ _ hg))) its) ⟨⟨_,Heap.get?_push_size _ rfl,rfl,rfl⟩,hT.push _⟩
end
end PySem
namespace L2
open PySem PySem.Spec PyProof.Rows
section
variable{X:Cx}{K:W.Frag}
theorem Inv.Np{pins:List (Addr×Obj)}{σ:St}{H:Hp}{s:Shared}{a:Addr}{xs:List V}(I:Inv X pins σ H s)(h:H a=some (.tup xs)):∃ its:List Value,Vals xs its/\mL s.heap a its.toArray/\xs.length<=sizeLine:=by
 obtain⟨z,its,r,p⟩:=(show bK X.prog X.w H s.heap a (.tup xs)from I.hok a _ h);exact⟨its,r,p,z⟩
theorem Hr{pins:List (Addr×Obj)}{σ:St}{H:Hp}{s:Shared}(I:Inv X pins σ H s):∀{ps:List Addr}{kvs:List (Key×V)}{us:List Value},Vals (ps.map V.ref) us->ps.length=kvs.length ->(∀(i:Nat)(p:Addr)(kv:Key×V),ps[i]? = some p->kvs[i]? = some kv->H p=some (.tup [kV kv.1,kv.2])) ->
  ∃ pairs:List (Key×Value),KV kvs pairs/\∀(i:Nat)(v:Value),us[i]? = some v->∃(a:Addr)(o:Obj)(key val:Value)(k:Key)(m:Nat),v = .ref a/\pairs[i]? = some (k,val)/\(bH X.prog X.w).is k key=true/\s.heap.get? a=some o/\o.cls = .type "tuple" /\ o.data = .seq #[key,val] m:=by
 intro ps
 induction ps with
 | nil =>
  intro kvs us r hl _;have e:kvs = []:=by cases kvs with|nil=>rfl|cons _ _=>simp at hl
  subst e;cases r;exact⟨[],.nil,fun i v h=>by simp at h⟩
 | cons p ps ih =>
  intro kvs us r hl h;cases kvs with
  | nil=>simp at hl
  | cons kv kvs =>
   cases r with
   | @cons _ u _ us r1 r2 =>
    obtain⟨pairs,h1,h2⟩:=ih (kvs:=kvs) (us:=us) r2 (by simpa using hl) fun i p kv e1 e2=>h (i+1) p kv (by simpa using e1) (by simpa using e2)
    have hp:=h 0 p kv (by simp) (by simp)
    obtain⟨its,ri,⟨o,ho,hc,m,hd⟩,_⟩:=I.tuple (SqT.of (K:=X.K) hp);cases ri with
    | @cons _ key _ rest k1 k2 =>
     cases k2 with
     | @cons _ val _ TN k3 k4 =>
      cases k4;refine⟨(kv.1,val)::pairs,.cons ⟨rfl,k3⟩ h1,fun i v hv=>?_⟩
      cases i with
      | zero =>
       simp at hv;subst hv
       cases(show u=Value.ref p from r1)
       exact⟨p,o,key,val,kv.1,m,rfl,by simp,pY k1,ho,hc,hd⟩
      | succ i =>
       obtain⟨a,oa,SW,Sv,k,m',e1,e2,e3⟩:=h2 i v (by simpa using hv)
       exact⟨a,oa,SW,Sv,k,m',e1,by simpa using e2,e3⟩
def wY:List V->Hp->VK->Prop:=fun xs H Q=>∃(p:Addr)(ps:List Addr)(kvs:List (Key×V)),xs = [.ref p]/\(H p=some (.tup (ps.map V.ref))\/H p=some (.lst (ps.map V.ref)))/\ps.length=kvs.length /\
 (∀(i:Nat)(a:Addr)(kv:Key×V),ps[i]? = some a->kvs[i]? = some kv->H a=some (.tup [kV kv.1,kv.2]))/\∀ d,H d=none->Q (.ref d) (upd H d (.dK (fV [] kvs)))
theorem nN(hc:X.calm=true):c7 X (.type "dict") wY:=by
 intro pins s σ H xs us Q I r h;obtain⟨p,ps,kvs,rfl,hp,hl,hps,q⟩:=h;obtain⟨u,rfl,ru⟩:=vals1 r;cases ru;have hh:X.A.handled=none:=I.ok.hd hc;obtain⟨its,rv,hz,ob⟩:∃ its:List Value,Vals (ps.map V.ref) its/\(ps.map V.ref).length<=sizeLine/\∃(o:Obj)(n:Nat),s.heap.get? p=some o/\o.dict=none/\o.data = .seq its.toArray n/\(o.cls = .type "tuple" \/ o.cls = .type "list"):=by
  rcases hp with hp|hp
  ·obtain⟨its,rv,⟨⟨o,ho,h1,n,h2⟩,o',ho',h3⟩,hz⟩:=I.Np hp;rw[ho]at ho';cases ho';exact⟨its,rv,hz,o,n,ho,h3,h2,.inl h1⟩
  ·obtain⟨hz,its,n,rv,e⟩:=(show bK X.prog X.w H s.heap p (.lst (ps.map V.ref))from I.hok p _ hp);exact⟨its,rv,hz,_,n,e,rfl,rfl,.inr rfl⟩
 obtain⟨pairs,kv,Pb⟩:=Hr I rv hl hps;refine callType_codes (Q₁:=fun obj s₁=>obj = .ref s.heap.objs.size/\s₁ ={ s with heap:=s.heap.push { cls:=.type "dict",data:=.dict #[] } }) F.kt_called_dict (F.kt_typeCall_dict_1 _) F.entry_dict_init (kt_code_dict_new _ ⟨rfl,rfl⟩) ?_
 rintro obj s₁ ⟨rfl,rfl⟩
 have Pd:(s.heap.push { cls:=.type "dict",data:=.dict #[] }).DictOf (bH X.prog X.w) s.heap.objs.size []:=Heap.DictOf.new s.heap;refine⟨Pd.typeIs,F.args_dict_init_2 _ _,?_⟩;unfold Builtin.«dict.__init__»;refine wpAny_bind ?_;unfold Builtin.Dict.selfAndRest;refine wpAny_bind (wpAny_notOrdered_dict Pd.typeIs ?_);show wpAny _ _ (pure (s.heap.objs.size,[Value.ref p])) _ _ _;refine wpAny_pure ?_;show wpAny _ _ (Builtin.Dict.updateFrom "dict.__init__" s.heap.objs.size (.ref p) [] .none) _ _ _;obtain⟨o,n,ho,hdn,hdt,hcl⟩:=ob;have hlv:=rv.length;rw[List.length_map]at hlv hz;have hkl:=kv.length;refine oq (A:=X.A.in1) (knd:=bH X.prog X.w) (kvs:=[]) (pairs:=pairs) (its:=its.toArray) hh Pd (Nat.ne_of_lt (Heap.lt_size ho)) ⟨o,n,Heap.get?_push_of_some _ ho,hdn,hdt,hcl⟩ (by simp only[List.length_nil];omega) (by rw[List.size_toArray];omega) (fun i v hv=>?_) fun h' tk hk hd=>?_
 ·obtain⟨a,oa,key,val,k,m,e1,e2,e3,e4,e5,e6⟩:=Pb i v (by simpa using hv)
  exact⟨a,oa,key,val,k,m,e1,e2,e3,Heap.get?_push_of_some _ e4,e5,e6⟩
 ·refine⟨rfl,.ref s.heap.objs.size,_,I.laid (t':=tk) (h':=h') (a:=s.heap.objs.size) (o:=.dK (fV [] kvs)) (fun b u e=>hk b u (Nat.ne_of_lt (Heap.lt_size e)) (Heap.get?_push_of_some _ e)) (Nat.le_refl _) ?_,rfl,q _ (I.hok.fresh (Nat.le_refl _))⟩
  refine BX ?_ ?_ (KV.merge kv .nil) hd
  ·have:=gZ kvs []
   simp only[List.length_nil]at this;omega
  ·have:=I.big
   exact beq_eq_false_iff_ne.mpr (Nat.ne_of_gt this)
end
def jR:List T->Option (List (Key×T))
 | []=>some []
 | .t [k,x]::r=>match k.key,jR r with
  | some k,some r=>some ((k,x)::r)
  | _,_=>none
 | _=>none
def fh(ks more:List (Key×T)):List (Key×T):=more.foldl (fun acc p=>xh acc p.1 p.2) ks
section
variable{X:Cx}{K:W.Frag}{dl:Dl}{H:Hp}
theorem av.pairs:∀{vs:List V}{xs:List T}{F:List Addr}{kts:List (Key×T)},av K dl H vs xs F->F = []->jR xs=some kts ->
  ∃(ps:List Addr)(kvs:List (Key×V)),vs=ps.map V.ref/\ps.length=kvs.length/\(∀(i:Nat)(a:Addr)(kv:Key×V),ps[i]? = some a->kvs[i]? = some kv->H a=some (.tup [kV kv.1,kv.2]))/\a7 K dl H kvs kts []
 | _,_,_,kts,.nil,_,h=>by
  cases h;exact⟨[],[],rfl,rfl,fun i a kv h=>by simp at h,.nil⟩
 | _,x::xs,_,kts,.cons (F:=F1) h r,e,q=>by
  obtain⟨e1,e2⟩:=List.append_eq_nil_iff.mp e;unfold jR at q
  split at q
  ·rename_i z;cases z
  ·rename_i k y r' z;cases z
   split at q
   ·rename_i k0 r0 ek er;cases q;obtain⟨ps,kvs,rfl,hl,ht,hk⟩:=av.pairs r e2 er;obtain⟨a,ws,rfl,ha,hws⟩:=h.tup;cases hws with
    | @cons w1 _ _ _ G1 G2 w1r w2r =>
     cases w2r with
     | @cons w2 _ _ _ G3 G4 h2 h3 =>
      cases h3;have e3:=w1r.key ek;subst e3;obtain⟨z1,z2⟩:=List.append_eq_nil_iff.mp e1;rw[List.append_nil]at z2;subst z1 z2;refine⟨a::ps,(k0,w2)::kvs,rfl,by simp[hl],fun i b kv h1 h2=>?_,.cons (F:=[]) h2 hk⟩
      cases i with
      | zero =>
       simp at h1 h2;subst h1 h2;exact ha
      | succ i=>exact ht i b kv (by simpa using h1) (by simpa using h2)
   ·cases q
  ·cases q
theorem a7.fh{kvs':List (Key×V)}{kts':List (Key×T)}{kvs:List (Key×V)}{kts:List (Key×T)}{F:List Addr}(h:a7 K dl H kvs kts F):F = []->∀{vs:List (Key×V)}{ts:List (Key×T)},a7 K dl H vs ts []->a7 K dl H (fV vs kvs) (L2.fh ts kts) [] :=
 h.ind (M:=fun kvs kts F=>F = []->∀{vs:List (Key×V)}{ts:List (Key×T)},a7 K dl H vs ts []->a7 K dl H (fV vs kvs) (L2.fh ts kts) []) (fun _ _ _ h=>h) fun _ _ _ _ _ _ _ h1 _ ih e _ _ h=>by
  obtain⟨e1,e2⟩:=List.append_eq_nil_iff.mp e;subst e1;exact ih e2 (a7.put h1 h)
def CJ:QC:=fun ts Q=>match ts with
 | [.t xs]=>T.ims xs=true/\∃ kts,jR xs=some kts/\Q (.d (fh [] kts))
 | [.l xs]=>T.ims xs=true/\∃ kts,jR xs=some kts/\Q (.d (fh [] kts))
 | _=>False
theorem rP:uv K wY CJ:=by
 intro dl H vs ts F Q R D r hq k;have go:∀(p:Addr)(ws:List V)(xs:List T),vs = [.ref p] ->(H p=some (.tup ws)\/H p=some (.lst ws))->av K dl H ws xs [] ->(∃ kts,jR xs=some kts/\Q (.d (fh [] kts)))->wY vs H R:=by
  rintro p ws xs rfl hp rs ⟨kts,e,hq⟩
  obtain⟨ps,kvs,rfl,hl,ht,hk⟩:=rs.pairs rfl e;refine⟨p,ps,kvs,rfl,hp,hl,ht,fun d hd=>?_⟩
  have ev:=(Evo.refl D).new (o:=.dK (fV [] kvs)) hd;have h2:a7 K dl H (fV [] kvs) (fh [] kts) []:=a7.fh (kvs':=[]) (kts':=[]) hk rfl .nil;exact k _ _ [d] _ ev ⟨.d ao (h2.dU (ev.tf D) (fun _ z=>z) fun _ z=>nomatch z),fun b hb=>by rw[List.mem_singleton.mp hb];exact D.nd0 hd⟩ (fun b hb=>by rw[List.mem_singleton.mp hb];exact hd) (by simp) hq
 unfold CJ at hq
 split at hq
 ·obtain⟨v,rfl,r'⟩:=r.one;obtain⟨p,ws,rfl,h1,h2⟩:=r'.r.tup;have e:=h2.im hq.1;subst e;exact go p ws _ rfl (.inl h1) h2 hq.2
 ·obtain⟨v,rfl,r'⟩:=r.one;obtain⟨p,ws,G,rfl,_,h1,h2⟩:=r'.r.lst;have e:=h2.im hq.1;subst e;exact go p ws _ rfl (.inr h1) h2 hq.2
 ·exact hq.elim
end
section
variable{X:Cx}{K:W.Frag}{a b:Expr}{ta tb:TE}{qa qb:QE}{pos:Pos}
theorem NY{i j:Nat}{x y:Str}{px py pt:Pos}{kt k2 pt2}(hc:X.calm=true)(hN:X.N.Nodup)(hi:X.N[i]? = some x)(hj:X.N[j]? = some y)(hij:i≠j)
  (hx:X.env.scope.names.lookup x=some .local) (hy:X.env.scope.names.lookup y=some .local) (ha:QPE X K a ta qa) (hb:QPE X K b tb qb)
  (hw:swappedStores [.Tuple [.Name x px,.Name y py] kt pt] (.Tuple [a,b] k2 pt2) X.env=pure (some [x,y]))
  (hs:swapsWithSole [.Tuple [.Name x px,.Name y py] kt pt] (.Tuple [a,b] k2 pt2) pos.line X.env=pure false:=by rfl)
  (h1:starEach [a,b] X.env =(false,eval a X.env)::starEach [b] X.env:=by rfl) (h2:starEach [b] X.env =(false,eval b X.env)::starEach [] X.env:=by rfl) :
  QPS X K (.Assign [.Tuple [.Name x px,.Name y py] kt pt] (.Tuple [a,b] k2 pt2) pos) (Nv i j (cM ta (cM tb kO))) (QD i j qa qb) :=
 ⟨Og hc hN hi hj hij hx hy (aQ ha.h (aQ hb.h bE h2) h1) hw hs,Kl ha.s hb.s⟩
def l7:PSp:=fun ts Q=>match ts with
 | [.jc,.i m]=>0<m/\m<18446744073709551616/\∀ r,0<=r->r<m->Q (.i r)
 | _=>False
theorem tL{P:Program}{w:World}{K:W.Frag}{mg:Str->Option Value}{base:Heap}{k:Nat}{f:Addr}{fd:FuncData}{ps:List Str}(F:bG P w K mg base CX0 k f fd ps F4):bG P w K mg base CX0 k f fd ps (spQ K l7):=by
 refine F.imp fun vs H Q E h=>?_
 obtain⟨dl,ts,Fp,Qp,D,r,h,fin⟩:=h;unfold l7 at h
 split at h
 ·obtain⟨v,w',F1,F2,rfl,r1,r2⟩:=r.two;obtain⟨a,l,rfl,hm,_⟩:=r1.r.dea;obtain⟨rfl,_⟩:=r2.r.int;refine⟨a,l,_,rfl,D _ hm,h.1,h.2.1,fun r H' r0 r1' D' K'=>fin _ _ [] H' ⟨fun b o e n=>K' b o e (n _ hm).1 (n _ hm).2,fun p hp=>?_⟩ (.c (.i _)) (fun _ z=>nomatch z) List.nodup_nil (h.2.2 r r0 r1')⟩
  by_cases e:p =(a,l)
  ·rw[e];exact D'
  ·obtain⟨s1,n1,l1,Q1⟩:=D p hp;obtain⟨s2,n2,l2,Q2⟩:=D _ hm;obtain⟨s3,n3,l3,Q3⟩:=D';have pa:p.1≠a:=fun z=>by
    have z1:=Q1.hd;have z2:=Q2.hd;rw[z]at z1;rw[z1]at z2;have z3:dk s1 n1 p.2=dk s2 n2 l:=by injection (Option.some.inj z2)
    have z4:=congrArg (fun kv=>fZ kv (.inr "left":Key)) z3
    simp only[Dc]at z4;exact e (Prod.ext z (V.ref.inj (Option.some.inj z4)))
   have pl:p.1≠l:=cv Q1.hd Q2.hl (fun z=>nomatch z)
   have p2a:p.2≠a:=cv Q1.hl Q2.hd (fun z=>nomatch z)
   by_cases p2l:p.2=l
   ·exact⟨s1,n1,l3,K' _ _ Q1.hd pa pl,by rw[p2l];exact Q3.hl,Q1.s0,Q1.s1,Q1.n0,Q3.l0⟩
   ·exact⟨s1,n1,l1,K' _ _ Q1.hd pa pl,K' _ _ Q1.hl p2a p2l,Q1.s0,Q1.s1,Q1.n0,Q1.l0⟩
 ·exact h.elim
end
section
variable{X:Cx}{K:W.Frag}{a b c e o:Expr}{ta tb tk tv te:TE}{qa qb qk qv qe:QE}{pos pos':Pos}
theorem av.set{dl:Dl}{H:Hp}{w:V}{t:T}(hw:aN K dl H w t []):∀{vs:List V}{xs:List T}{F:List Addr}(j:Nat),av K dl H vs xs F->F = []->av K dl H (vs.set j w) (xs.set j t) []
 | _,_,_,_,.nil,_=>.nil
 | _,_,_,0,.cons h r,e=>by
  obtain⟨e1,e2⟩:=List.append_eq_nil_iff.mp e;subst e1 e2;exact .cons (F:=[]) hw r
 | _,_,_,j+1,.cons h r,e=>by
  obtain⟨e1,e2⟩:=List.append_eq_nil_iff.mp e;subst e1 e2;exact .cons (F:=[]) h (av.set hw j r rfl)
theorem Gh{i:Nat}(hk:ki K tk qk)(hv:ki K tv qv):vz K (oB tv (Pl (eZ i) tk GA)) (MS i qk qv):=fun dl H₀ hs H σ q Dq D ⟨F,r⟩ hq E=>by
 refine hv dl H σ q _ _ r.rd hq fun w t F1 H1 e1 r1 hq=>?_
 split at hq
 ·rename_i xs ei;obtain⟨v,hv',rp⟩:=(r.evo e1).g i _ _ ei rfl;refine⟨v,hv',hk dl H1 σ q _ _ (r.rd.evo e1) hq fun y u F2 H2 e2 r2 hq=>?_⟩
  split at hq
  ·obtain⟨j,hj,hm,ht,hq⟩:=hq;obtain⟨rfl,_⟩:=r2.r.int;obtain rfl:=r1.r.im ht;have rp2:=rp.evo e1.d e2;obtain⟨p,vs,G,rfl,eF,h1,h2⟩:=rp2.r.lst;have eG:=h2.im hm;subst eG;refine⟨p,vs,_,j,rfl,rfl,h1,by rw[h2.len];exact hj,?_⟩
   exact E.nx _ _ _ (r.wX ei hv' eF (e1.trans e2) (av.set (r1.evo e1.d e2).r j h2 rfl) List.nodup_nil fun _ z=>nomatch z) hq
  ·exact hq.elim
 ·exact hq.elim
theorem CH{i:Nat}(ho:PE X o (eZ i))(hk:QPE X K a tk qk)(hv:QPE X K b tv qv)(hs:swapsWithSole [.Subscript o a pos'] b pos.line X.env=pure false:=by rfl)(hw:swappedStores [.Subscript o a pos'] b X.env=pure none:=by rfl)
  (h1:(assignEach [.Subscript o a pos'] X.env).map (·.2) = [assign (.Subscript o a pos') X.env]:=by rfl)
  (ha:∀ v,assign (.Subscript o a pos') X.env v =(do
   let ov <- holding [v] (eval o X.env)
   let iv <- holding [v,ov] (eval a X.env)
   standAt pos'
   holding [v,ov,iv] (setItem ov iv v)
   release [v,ov,iv] []):=by intro _;rfl):QPS X K (.Assign [.Subscript o a pos'] b pos) (oB tv (Pl (eZ i) tk GA)) (MS i qk qv) :=
 ⟨GY hv.h (Ou ho hk.h set_list ha) hs hw h1,Gh hk.s hv.s⟩
end
section
variable{X:Cx}{K:W.Frag}{dl:Dl}
def AJ(xs ys:List T):List T:=(xs.zip ys).map fun p=>.t [p.1,p.2]
theorem Fi{xs ys:List T}:(AJ xs ys).length=min xs.length ys.length:=by simp[AJ]
variable{tg e a b:Expr}{te ta tb:TE}{qe qa qb:QE}{tl:TA}{ql:QA}{pos p:Pos}
end
section
variable{X:Cx}{K:W.Frag}{e a b:Expr}{tl:TA}{ql:QA}{pos p gE p2:Pos}{dl:Dl}
def zf(ql:QA):QE:=fun q Q=>ql q fun ts=>match ts with | [.t xs,.t ys]=>T.ims xs=true/\T.ims ys=true/\Q (.l (AJ xs ys)) | _=>False
theorem DP{H2:Hp}{vs:List V}{xs:List T}{F:List Addr}(h:av K dl H2 vs xs F):F = []->∀{ws:List V}{ys:List T}{G:List Addr},av K dl H2 ws ys G->G = []->∀{ps:List Addr},ps.length=min vs.length ws.length ->
  (∀(j:Nat) p x y,ps[j]? = some p->vs[j]? = some x->ws[j]? = some y->H2 p=some (.tup [x,y]))->av K dl H2 (ps.map V.ref) (AJ xs ys) [] :=
 h.ind (M:=fun vs xs F=>F = []->∀{ws:List V}{ys:List T}{G:List Addr},av K dl H2 ws ys G->G = []->∀{ps:List Addr},ps.length=min vs.length ws.length ->
  (∀(j:Nat) p x y,ps[j]? = some p->vs[j]? = some x->ws[j]? = some y->H2 p=some (.tup [x,y]))->av K dl H2 (ps.map V.ref) (AJ xs ys) []) (fun _ _ _ _ _ _ ps hl _=>by
   have e:ps = []:=List.length_eq_zero_iff.mp (by rw[hl];exact Nat.zero_min _)
   subst e;exact .nil) fun v x vs xs F G h _ ih e ws ys G' h' e' ps hl hp=>by
  obtain⟨e1,e2⟩:=List.append_eq_nil_iff.mp e;subst e1;cases h' with
  | nil =>
   have e:ps = []:=List.length_eq_zero_iff.mp (by rw[hl];exact Nat.min_zero _)
   subst e;exact .nil
  | cons h' r' =>
   obtain⟨e3,e4⟩:=List.append_eq_nil_iff.mp e';subst e3;cases ps with
   | nil=>simp at hl
   | cons p ps =>
    exact av.cons (F:=[]) (.t (hp 0 p _ _ rfl rfl rfl) (av.cons (F:=[]) h (av.cons (F:=[]) h' .nil))) (ih e2 r' e4 (by simp at hl;omega) fun j p x y h1 h2 h3=>hp (j+1) p x y h1 h2 h3)
theorem y0(ha:MC K 2 tl ql):k8 K (rG K tl) (zf ql):=by
 intro dl H σ q Q R rd hq k;refine ha dl H σ q _ _ rd hq fun vs ts F H1 e1 r1 _ hz=>?_
 split at hz
 ·rename_i xs ys;obtain⟨v,w,F1,F2,rfl,r1',r2'⟩:=r1.two;obtain⟨l1,vs1,rfl,h1,h2⟩:=r1'.r.tup;obtain⟨l2,vs2,rfl,h3,h4⟩:=r2'.r.tup;obtain⟨i1,i2,hz⟩:=hz;obtain rfl:=h2.im i1;obtain rfl:=h4.im i2;refine⟨l1,l2,vs1,vs2,rfl,SqT.of h1,SqT.of h3,fun H2 L ps hL hl hn hf hk hLL hp=>?_⟩
  have sm:∀ b o,H1 b=some o->H2 b=some o:=fun b o e=>by
   rw[hk b (fun z=>by rw[(hf b z).1]at e;cases e) (fun z=>by rw[z,hL]at e;cases e)]
   exact e
  have ev:Evo dl H1 H2:=⟨fun b o e _=>sm b o e,fun p hp=>by
   obtain⟨s,n,ls,D⟩:=e1.d p hp;exact⟨s,n,ls,sm _ _ D.hd,sm _ _ D.hl,D.s0,D.s1,D.n0,D.l0⟩⟩
  obtain⟨_,TU,z1,b1,c1⟩:=(r1'.evo e1.d ev).r.tup;cases z1;rw[sm _ _ h1]at b1;cases b1;obtain⟨_,TR,z2,b2,c2⟩:=(r2'.evo e1.d ev).r.tup;cases z2;rw[sm _ _ h3]at b2;cases b2;exact k _ _ [L] H2 (e1.trans ev) ⟨.l hLL (DP c1 rfl c2 rfl hl hp),fun b hb=>by rw[List.mem_singleton.mp hb];exact e1.d.nd0 hL⟩ (fun b hb=>by rw[List.mem_singleton.mp hb];exact e1.free hL) (by simp) hz
 ·exact hz.elim
theorem A7(hK:X.K=K)(hg:Gl X "list")(hm:X.mg "list" = none)(hg2:Gl X "zip")(hm2:X.mg "zip" = none)(ha:QPA X K [a,b] tl ql)
  (hs:starEach [a,b] X.env = [(false,eval a X.env),(false,eval b X.env)]:=by rfl) (hs2:starEach [b] X.env = [(false,eval b X.env)]:=by rfl)
  (hs3:starEach [.Call (.Name "zip" p2) [a,b] [] gE] X.env =(false,eval (.Call (.Name "zip" p2) [a,b] [] gE) X.env)::starEach [] X.env:=by rfl) (hc:X.calm=true:=by rfl) :
  QPF X K (.Call (.Name "list" p) [.Call (.Name "zip" p2) [a,b] [] gE] [] pos) (rG K tl) (zf ql):=⟨by subst hK;exact Bc hg hm hg2 hm2 ha.h hs hs2 hs3 hc,y0 ha.s⟩
end
def rK(K:W.Frag):Sp:=fun vs H Q _=>∃(a:Addr)(ns:List Int),vs = [.ref a]/\FzL K H a (ns.map V.int)/\ns.length<=63/\∀ H',Q (.bl true) H'
theorem RU{K:W.Frag}{H:Hp}{a:Addr}{xs:List V}(h:MD H)(hS:SqL K H a xs):FzL K H a xs:=by
 rcases hS with(z |⟨o,z⟩)|z
 ·rcases h a with e |⟨o,ys,e⟩
  ·rw[e]at z;cases z
  ·rw[e]at z;cases z
 ·exact .inl ⟨o,z⟩
 ·exact .inr z
theorem FzL.same{K:W.Frag}{H H':Hp}{a:Addr}{xs:List V}(h:FzL K H a xs)(s:mK H H'):FzL K H' a xs:=by
 rcases h with⟨o,z⟩|z
 ·exact .inl ⟨o,s _ _ z⟩
 ·exact .inr z
theorem Fun.SS{P:Program}{w:World}{K:W.Frag}{mg:Str->Option Value}{base:Heap}{x qual:Str}{st:Stmt}{f:Addr}{fd:FuncData}{N:List Str}{k n:Nat}{s1:Stmt}{rest:List Stmt}(F:Fun K x qual st f fd)(S:aX N ["_law_script"] (aj st))(hN:N.length=n+2)(hst:aF st=s1::rest)
  (nB:∀(cdv:Value)(A:Around)(outer:List Env)(s:Shared)(H:Hp)(E:XK),dO k (A.deeper (envOfC qual (aj st) s.heap.objs.size f cdv)) ->
   ∃ t1 t qs,PS (pq CX0 P w K mg base N qual (aj st) f cdv A outer s H E).nox s1 t1/\uw (pq CX0 P w K mg base N qual (aj st) f cdv A outer s H E).nox K rest t qs /\
    (∀(a:Addr)(ns:List Int)(D:Ends),SqL K H a (ns.map V.int)->ns.length<=63 ->(∀(d l:Addr)(H':Hp),H d=none->H l=none->uB H' d l->mK H H'->D.nx ([some (.ref a),some (.ref d)]++List.replicate n none) H')->t1 D ([some (.ref a),none]++List.replicate n none) H) /\
    ∀ ns:List Int,ns.length<=63->qs { nx:=fun _=>False,rt:=fun t=>t = .b true } ([.r (.z ns),.r .jc]++List.replicate n .no)):bG P w K mg base CX0 (k+1) f fd ["_law_script"] (rK K):=by
 refine F.ok S (fun vs H Q E h=>?_) (fun cdv A outer s H vs Q E hr h=>?_)
 ·obtain⟨a,ns,rfl,_⟩:=h;rfl
 ·obtain⟨a,ns,rfl,hS,hlen,k⟩:=h;obtain⟨t1,t,qs,h1,hb,r1,hq⟩:=nB cdv A outer s H E hr;rw[hst];refine⟨_,aY h1 hb.h,?_⟩;have es:start N [V.ref a] = [some (.ref a),none]++List.replicate n none:=by
   unfold start;rw[hN];rfl
  rw[es];refine r1 a ns _ hS.sq hlen fun d l H' hd hl D1 sm=>?_
  have Dq:Dls [(d,l)] H':=fun p hp=>by rw[List.mem_singleton.mp hp];exact D1
  have rp:Rps K [(d,l)] H' [.ref a,.ref d] [.z ns,.jc] ([]++([] ++ [])):=⟨.cons (.z (hS.same sm)) (.cons (.x (l:=l) (List.mem_singleton.mpr rfl)) .nil),fun _ z=>nomatch z⟩
  have R:=vL (n:=n+2) Dq rp (by simp)
  refine hb.s [(d,l)] H' [] H' _ _ _ _ R (hq ns hlen) ⟨fun _ _ _ _ z=>z.elim,fun _ _ _ _ z=>z.elim,fun _ _ _ _ z=>z.elim,fun v t F H2 _ r' _ _ _ hz=>?_⟩
  subst hz;obtain⟨rfl,_⟩:=r'.r.bl;exact k H2
section
variable{X:Cx}{K:W.Frag}{dl:Dl}
def v8(xs:List T):List T:=xs.zipIdx.map fun p=>.t [.i (p.2:Nat),p.1]
theorem nE{xs:List T}{i:Nat}{z:T}(h:(v8 xs)[i]? = some z):∃ x,xs[i]? = some x/\z = .t [.i (i:Nat),x]:=by
 unfold v8 at h;rw[List.getElem?_map]at h;obtain⟨p,hp,rfl⟩:=Option.map_eq_some_iff.mp h;rw[List.getElem?_zipIdx]at hp;obtain⟨x,hx,rfl⟩:=Option.map_eq_some_iff.mp hp;exact⟨x,hx,by simp⟩
theorem iB{xs:List T}:(v8 xs).length=xs.length:=by simp[v8]
theorem LQ{a:Addr}{xs:List T}:Cj K dl (Ite K true a) (v8 xs) [(.ref a,.t xs)] where
 go:=fun H i D h hi=>by
  obtain⟨F,r⟩:=h (.ref a,.t xs) (by simp)
  obtain⟨p,vs,e,h1,h2⟩:=r.r.tup;cases e;rw[iB]at hi;have l1:i<vs.length:=by rw[h2.len];omega
  exact⟨vs,vs[i],SqT.of h1,by simp[l1]⟩
 yld:=fun H i x fp v H' D h hx y=>by
  have r:=h (.ref a,.t xs) (by simp)
  obtain⟨p,vs,e,h1,h2⟩:=r.r.tup;cases e;obtain⟨x1,hx1,rfl⟩:=nE hx;obtain⟨w1,G1,hw1,rw1,hs1⟩:=h2.get hx1;obtain⟨q,u1,hq,rfl,rfl,y1'⟩:=y;have e1:=y1' vs (SqT.of h1);rw[hw1]at e1;cases e1;have rs:Rps K dl H [.int (i:Nat),w1] [.i (i:Nat),x1] ([]++(G1 ++ [])):=Rps.cons ⟨.i _,fun _ z=>nomatch z⟩ (Rps.cons ⟨rw1,fun b hb=>r.n b (hs1 b hb)⟩ ⟨.nil,fun _ z=>nomatch z⟩)
  refine⟨(Evo.refl D).new hq,_,rs.tup D hq,fun c hb=>.inr ?_⟩
  rw[List.append_nil]at hb;exact⟨_,by simp,hs1 c hb⟩
 stop:=fun H D h=>by
  obtain⟨F,r⟩:=h (.ref a,.t xs) (by simp)
  obtain⟨p,vs,e,h1,h2⟩:=r.r.tup;cases e;exact⟨vs,SqT.of h1,by rw[iB,h2.len];exact Nat.le_refl _⟩
variable{tg e a b c:Expr}{te ta tb:TE}{qe qa qb:QE}{tl:TA}{ql:QA}{pos p:Pos}
theorem Hf{elts:List Expr}{x1}{pos':Pos}{ta:TA}{tp:Bool}(hK:X.K=K)(hg:Gl X "enumerate")(hm:X.mg "enumerate" = none)(Ag:bootBuiltins "enumerate" = some (.type "enumerate"))(ha:PA X [a] ta)(hs:starEach [a] X.env = [(false,eval a X.env)]) :
  PI X (.Tuple elts x1 pos') (.Call (.Name "enumerate" p) [a] [] pos) (IC K tp ta):=by subst hK;exact K0 hg hm Ag ha hs
theorem Rps.three{dl:Dl}{H:Hp}{vs:List V}{t u z:T}{F:List Addr}(h:Rps K dl H vs [t,u,z] F):∃ v w x F1 F2 F3,vs = [v,w,x]/\Rp K dl H v t F1/\Rp K dl H w u F2/\Rp K dl H x z F3:=by
 obtain⟨r,n⟩:=h;cases r with
 | cons r1 r2 =>
  obtain⟨w,x,F2,F3,rfl,h2,h3⟩:=Rps.two ⟨r2,fun b hb=>n b (List.mem_append_right _ hb)⟩
  exact⟨_,w,x,_,_,_,rfl,⟨r1,fun b hb=>n b (List.mem_append_left _ hb)⟩,h2,h3⟩
theorem av.snoc{H:Hp}{v:V}{t:T}(hv:aN K dl H v t []){vs:List V}{ts:List T}{F:List Addr}(h:av K dl H vs ts F):F = []->av K dl H (vs ++ [v]) (ts ++ [t]) [] :=
 h.ind (M:=fun vs ts F=>F = []->av K dl H (vs ++ [v]) (ts ++ [t]) []) (fun _=>.cons (F:=[]) (G:=[]) hv .nil) fun _ _ _ _ _ _ h _ ih e=>by
  obtain⟨e1,e2⟩:=List.append_eq_nil_iff.mp e;subst e1;exact .cons (F:=[]) (G:=[]) h (ih e2)
theorem av.rev{H:Hp}{vs:List V}{ts:List T}{F:List Addr}(h:av K dl H vs ts F):F = []->av K dl H vs.reverse ts.reverse [] :=
 h.ind (M:=fun vs ts F=>F = []->av K dl H vs.reverse ts.reverse []) (fun _=>.nil) fun _ _ _ _ _ _ h _ ih e=>by
  obtain⟨e1,e2⟩:=List.append_eq_nil_iff.mp e;subst e1;rw[List.reverse_cons,List.reverse_cons];exact av.snoc h (ih e2) rfl
variable{o:Expr}{apos bc:Pos}
end
section
variable{X:Cx}{K:W.Frag}{dl:Dl}{H:Hp}{v:V}{F:List Addr}
theorem aN.exc{C:Addr}{ns:List Str}{ts:List T}(h:aN K dl H v (.xc C ns ts) F):∃ a b vs,v = .ref a/\F = []/\ExH H a C b (ns.zip vs)/\av K dl H vs ts []:=h.inv
end
section
variable{X:Cx}{K:W.Frag}{e:Expr}{es:List Expr}{te:TE}{qe:QE}{tl:TA}{ql:QA}{pos p p2:Pos}{f x y:Str}{fn fsN ps:List Str}{C C' fa:Addr}{bm bm':List Value}{zX:Option Addr}{k:Nat}{fd:FuncData}
def Kw(K:W.Frag)(fn:List Str)(c:Value):List V->Hp->VK->Prop:=fun xs H Q=>∃ a C b fs bm ini r y,xs = [.ref a,y]/\RelV y c/\ExH H a C b fs/\fA K fn C bm ini/\W.kitOne K (.ref C) c=some r/\Q (.bl r) H
theorem m8{a:Addr}{u:Value}(h:RelV (.ref a) u):u = .ref a:=h
theorem Ax{c:Value}(hc:∀ y u,RelV y u->RelV y c->u=c):c7 X (.builtin "isinstance") (Kw X.K fn c):=by
 intro pins s σ H xs us Q I r h;obtain⟨a,C,b,fs,bm,ini,rb,y,rfl,ry,ex,cx,ek,q⟩:=h;cases r with
 | cons h1 r2 =>
  cases r2 with
  | cons h2 r3 =>
   cases r3
   cases(m8 h1)
   cases hc _ _ h2 ry;exact O5 I ex cx ek fun tk=>⟨.bl rb,H,I.tok tk,rfl,q⟩
def Ob(K:W.Frag)(fn:List Str)(c:Value)(qe:QE):QE:=fun q Q=>qe q fun t=>match t with
 | .xc C _ _=>∃ bm ini,fA K fn C bm ini/\Q (.b ((Value.ref C::bm).contains c))
 | _=>False
theorem CC{c:Value}{y:V}(ry:RelV y c)(hk:∀ C bm ini,fA K fn C bm ini->W.kitOne K (.ref C) c=some ((Value.ref C::bm).contains c))(h:ki K te qe):k8 K (tCB (Kw K fn c) (cM te (cM (tC y) kO))) (Ob K fn c qe):=by
 intro dl H σ q Q R rd hq k;refine h dl H σ q _ _ rd hq fun v t F H1 e1 r1 hz=>?_
 split at hz
 ·obtain⟨bm,ini,cx,hz⟩:=hz;obtain⟨a,b,vs,rfl,rfl,ex,rs⟩:=r1.r.exc;exact⟨a,_,b,_,bm,ini,_,y,rfl,ry,ex,cx,hk _ bm ini cx,k _ _ [] H1 e1 ⟨.b _,fun _ z=>nomatch z⟩ (fun _ z=>nomatch z) List.nodup_nil hz⟩
 ·exact hz.elim
theorem l5(hK:X.K=K)(c':fA K fn C' bm' zX)(hg:Gl X "isinstance")(hm:X.mg "isinstance" = none)(hg2:Gl X y)(hm2:X.mg y=some (.ref C'))(h:QPE X K e te qe)(hd:(y ==("__debug__":Str))=false:=by decide)
  (he:starEach [e,.Name y p2] X.env =(false,eval e X.env)::starEach [.Name y p2] X.env:=by rfl) (he2:starEach [.Name y p2] X.env =(false,eval (.Name y p2) X.env)::starEach [] X.env:=by rfl) (hpl:(backTo pos (starEach [.Name y p2] X.env)).any (·.1)=false:=by rfl) :
  QPF X K (.Call (.Name "isinstance" p) [e,.Name y p2] [] pos) (tCB (Kw K fn (.ref C')) (cM te (cM (tC (.ref C')) kO))) (Ob K fn (.ref C') qe):=by
 subst hK;exact⟨il (Ax fun y u h1 h2=>by
  cases y with
  | ref b=>cases(m8 h1);cases(m8 h2);rfl
  | non=>cases(show Value.ref C'=Value.none from h2)
  | bl b=>cases(show Value.ref C'=Value.bool b from h2)
  | int i=>obtain⟨_,z⟩:=(show ∃ t,Value.ref C'=Value.int i t from h2);cases z
  | str i=>obtain⟨_,z⟩:=(show ∃ t,Value.ref C'=Value.str i t from h2);cases z
  | flt i=>obtain⟨_,z⟩:=(show ∃ t,Value.ref C'=Value.float i t from h2);cases z
  | ty n=>cases(show Value.ref C'=Value.type n from h2)
  | byt i=>(obtain⟨_,z⟩:=h2;cases z)) hg hm rfl (aQ h.h (aQ (Hl hg2 hm2 hd) bE he2) he) (by decide) (by decide) he hpl,CC (y:=.ref C') rfl (fun C bm ini c=>LK c c') h.s⟩
theorem N0{n:String}(hK:X.K=K)(hT:W.kitMeta n=true)(hg:Gl X "isinstance")(hm:X.mg "isinstance" = none)(hg2:Gl X y)(hm2:X.mg y=none)(hv:bootBuiltins y=some (.type n))(h:QPE X K e te qe)(hn:y ≠ "__name__":=by decide)(hd:(y ==("__debug__":Str))=false:=by decide)
  (he:starEach [e,.Name y p2] X.env =(false,eval e X.env)::starEach [.Name y p2] X.env:=by rfl) (he2:starEach [.Name y p2] X.env =(false,eval (.Name y p2) X.env)::starEach [] X.env:=by rfl) (hpl:(backTo pos (starEach [.Name y p2] X.env)).any (·.1)=false:=by rfl) :
  QPF X K (.Call (.Name "isinstance" p) [e,.Name y p2] [] pos) (tCB (Kw K fn (.type n)) (cM te (cM (tC (.ty n)) kO))) (Ob K fn (.type n) qe):=by
 subst hK;exact⟨il (Ax fun y u h1 h2=>by
  cases y with
  | ref b=>cases(m8 h2)
  | non=>cases(show Value.type n=Value.none from h2)
  | bl b=>cases(show Value.type n=Value.bool b from h2)
  | int i=>obtain⟨_,z⟩:=(show ∃ t,Value.type n=Value.int i t from h2);cases z
  | str i=>obtain⟨_,z⟩:=(show ∃ t,Value.type n=Value.str i t from h2);cases z
  | flt i=>obtain⟨_,z⟩:=(show ∃ t,Value.type n=Value.float i t from h2);cases z
  | byt i=>(obtain⟨_,z⟩:=h2;cases z)
  | ty m =>
   have z1:u=Value.type m:=h1;have z2:Value.type n=Value.type m:=h2;rw[z1,z2]) hg hm rfl (aQ h.h (aQ (CQ hg2 hm2 hv rfl hn hd) bE he2) he) (by decide) (by decide) he hpl,CC (y:=.ty n) rfl (fun C bm ini c=>by
    rw[Ih c hT,List.contains_cons];rfl) h.s⟩
end
abbrev QW:=Addr->List Str->List T->Prop
abbrev QX:=Sq ->(T->Prop)->QW->Prop
def Tz(K:PySem.W.Frag)(te:(St->XK)->TE)(qx:QX):Prop:=∀(dl:Dl)(H:Hp)(σ:St)(q:Sq)(Q:T->Prop)(W:QW)(R:V->Hp->Prop)(Es:St->XK),RdR K dl H σ q->qx q Q W ->
 (∀ v t F H',Evo dl H H'->Rp K dl H' v t F ->(∀ b∈F,H b=none)->F.Nodup->Q t->R v H') ->(∀ a C ns us H',Evo dl H H'->Rp K dl H' (.ref a) (.xc C ns us) []->W C ns us->Es σ (.ref C) (some a) H')->te Es σ H R
structure QPX(X:Cx)(K:W.Frag)(e:Expr)(te:(St->XK)->TE)(qx:QX):Prop where
 h:∀ Es,kL (CX1 X.prog X.w) X Es->PE X e (te Es)
 s:Tz K te qx
abbrev QSX:=(Sq->QW)->QS
def XOk(K:PySem.W.Frag)(dl:Dl)(H₀:Hp)(hs:List (V×T))(W:Sq->QW)(Es:St->XK):Prop:=∀ H σ q a C ns us,gC K dl H₀ hs H σ q->Rp K dl H (.ref a) (.xc C ns us) []->W q C ns us->Es σ (.ref C) (some a) H
def Nf(K:PySem.W.Frag)(ts:(St->XK)->TS)(qs:QSX):Prop:=∀(dl:Dl)(H₀:Hp)(hs:List (V×T))(H:Hp)(σ:St)(q:Sq)(Dq:iG)(D:Ends)(W:Sq->QW)(Es:St->XK),gC K dl H₀ hs H σ q->qs W Dq q->Co K dl H₀ hs Dq D->XOk K dl H₀ hs W Es->ts Es D σ H
structure Sf(X:Cx)(K:W.Frag)(st:Stmt)(ts:(St->XK)->TS)(qs:QSX):Prop where
 h:∀ Es,kL (CX1 X.prog X.w) X Es->nT X Es->PS X st (ts Es)
 s:Nf K ts qs
structure Ng(X:Cx)(K:W.Frag)(st:List Stmt)(ts:(St->XK)->TS)(qs:QSX):Prop where
 h:∀ Es,kL (CX1 X.prog X.w) X Es->nT X Es->PSs X st (ts Es)
 s:Nf K ts qs
section
variable{X:Cx}{K:W.Frag}{st:Stmt}{rest sa sb:List Stmt}{e c:Expr}{es:List Expr}{pos p bc:Pos}{te:TE}{qe:QE}{tx:(St->XK)->TE}{qx:QX}{tc:TT}{qc:QT}{t u:TS}{qt qu:QS}{ts us:(St->XK)->TS}{qs qr:QSX}{tl:TA}{ql:QA}
theorem GC(h:Sf X K st ts qs):Ng X K [st] ts qs:=⟨fun Es a b=>bp (h.h Es a b),h.s⟩
theorem XOk.at{dl:Dl}{H₀ H:Hp}{hs:List (V×T)}{W:Sq->QW}{Es:St->XK}{σ:St}{q:Sq}{F:Nat->List Addr}(x:XOk K dl H₀ hs W Es)(r:Rel K dl H₀ hs H σ q F):∀ a C ns us H',Evo dl H H'->Rp K dl H' (.ref a) (.xc C ns us) []->W q C ns us->Es σ (.ref C) (some a) H' :=
 fun a C ns us H' e1 r1 hw=>x H' σ q a C ns us ⟨F,r.evo e1⟩ r1 hw
theorem Kz{i:Nat}{x:Str}{pos':Pos}(hN:X.N.Nodup)(hi:X.N[i]? = some x)(hx:Loc X.env.scope x)(he:QPX X K e tx qx)(hs:swapsWith e (some (.Name x pos')) pos.line X.env=pure false:=by rfl)(hf:X.fn x=true\/X.env.scope.names.lookup x=some .local:=by first|exact .inl rfl|exact .inr rfl|assumption) :
  Sf X K (.Assign [.Name x pos'] e pos) (fun Es=>oB (tx Es) (jw i)) (fun W D q=>qx q (fun t=>D.nx (q.set i (.o t))) (W q)) :=
 ⟨fun Es a _=>fO hN hi hx (he.h Es a) hs hf,fun dl H₀ hs H σ q Dq D W Es ⟨F,r⟩ hq E x=>he.s dl H σ q _ _ _ Es r.rd hq (fun v t F' H' e1 r1 f1 n1 hz=>E.nx H' _ _ (r.GX e1 r1 f1 n1) hz) (x.at r)⟩
variable{C fa:Addr}{fn fsN ps:List Str}{bm:List Value}{k:Nat}{fd:FuncData}{x:Str}
theorem JX{H:Hp}{a:Addr}{o o':HO}:upd (upd H a o) a o'=upd H a o':=by
 funext b
 by_cases h:b=a
 ·rw[h,ao,ao]
 ·rw[ag h,ag h,ag h]
end
abbrev Si:=List T ->(T->Prop)->QW->Prop
def ND(K:W.Frag)(ps:Si):Sp:=fun vs H Q E=>∃(dl:Dl)(ts:List T)(F:List Addr)(Qp:T->Prop)(Wp:QW),Dls dl H/\Rps K dl H vs ts F/\ps ts Qp Wp /\
 (∀ v t F' H',Evo dl H H'->Rp K dl H' v t F' ->(∀ b∈F',H b=none)->F'.Nodup->Qp t->Q v H')/\∀ a C ns us H',Evo dl H H'->Rp K dl H' (.ref a) (.xc C ns us) []->Wp C ns us->E (.ref C) (some a) H'
section
variable{X:Cx}{K:W.Frag}{e:Expr}{es:List Expr}{tl:TA}{ql:QA}{pos p:Pos}{x:Str}{k:Nat}{f:Addr}{fd:FuncData}{prs:List Str}{ps:Si}
theorem Ky(F:bG X.prog X.w X.K X.mg X.base (CX1 X.prog X.w) k f fd prs (ND K ps))(hr:dO k X.A)(hg:Gl X x)(hm:X.mg x=some (.ref f))(hk:W.keepIn X.K (.ref f)=true)(hb:Binds X.K fd prs [])(ha:QPA X K (e::es) tl ql)
  (hdb:(x ==("__debug__":Str))=false:=by decide) (he:starEach (e::es) X.env =(false,eval e X.env)::starEach es X.env:=by rfl) (hpl:(backTo pos (starEach es X.env)).any (·.1)=false:=by rfl) :
  QPX X K (.Call (.Name x p) (e::es) [] pos) (fun Es=>FT (ND K ps) Es tl) (fun q Q W=>ql q fun ts=>ps ts Q W) :=
 ⟨fun Es a=>Ho F hr hg hm hk hb a ha.h hdb he hpl,fun dl H σ q Q W R Es rd hq k1 k2=>ha.s dl H σ q _ _ rd hq fun vs ts F H1 e1 r1 _ hz =>
  ⟨dl,ts,F,Q,W,e1.d,r1,hz,fun v t F' H' e r f n hz=>k1 v t F' H' (e1.trans e) r (fun b hb=>e1.free (f b hb)) n hz,fun a C ns us H' e r hw=>k2 a C ns us H' (e1.trans e) r hw⟩⟩
end
abbrev QH:=Addr->List Str->List T->QS
def TJ(K:W.Frag)(th:TH)(qh:QH):Prop:=∀(dl:Dl)(H₀:Hp)(hs:List (V×T))(H:Hp)(σ:St)(q:Sq)(Dq:iG)(D:Ends)(a C:Addr)(ns:List Str)(us:List T),gC K dl H₀ hs H σ q->Rp K dl H (.ref a) (.xc C ns us) []->qh C ns us Dq q->Co K dl H₀ hs Dq D->th a C D σ H
structure QPH(X:Cx)(K:W.Frag)(hs:List ExceptHandler)(th:TH)(qh:QH):Prop where
 h:PH X hs th
 s:TJ K th qh
def iG.go(D:iG)(i:Nat):iG:={ nx:=fun q=>D.nx (q.set i .no),rt:=D.rt,bk:=fun q=>D.bk (q.set i .no),ct:=fun q=>D.ct (q.set i .no) }
theorem gC.clear{K:W.Frag}{dl:Dl}{H₀ H:Hp}{hs:List (V×T)}{σ:St}{q:Sq}(r:gC K dl H₀ hs H σ q)(i:Nat):gC K dl H₀ hs H (σ.set i none) (q.set i .no):=by
 obtain⟨F,r⟩:=r;refine⟨DL F i [],r.d,fun j x t h1 h2=>?_,fun j x h1 h2=>?_,fun j hj=>?_,fun j u h1=>?_,fun p hp=>?_,r.f,by simp[r.l]⟩
 ·rcases get_set h1 with⟨rfl,rfl,_⟩ |⟨ne,h1⟩
  ·cases h2
  ·obtain⟨w,h3,h4⟩:=r.g j x t h1 h2;exact⟨w,by rw[List.getElem?_set_ne (fun z=>ne z.symm)];exact h3,by rw[a8 ne];exact h4⟩
 ·rcases get_set h1 with⟨rfl,rfl,_⟩ |⟨ne,h1⟩
  ·rw[bT]
  ·rw[a8 ne];exact r.n j x h1 h2
 ·by_cases ej:j=i
  ·rw[ej,bT]
  ·rw[a8 ej];rw[List.length_set]at hj;exact r.z j hj
 ·rcases get_set h1 with⟨rfl,e,_⟩ |⟨ne,h1⟩
  ·cases e
  ·rw[a8 ne];obtain⟨o1,o2,o3⟩:=r.o j u h1;refine⟨o1,o2,fun k hk b hb=>?_⟩
   by_cases ek:k=i
   ·rw[ek,bT];exact fun z=>nomatch z
   ·rw[a8 ek];exact o3 k hk b hb
 ·obtain⟨Fp,h1,h2⟩:=r.h p hp;refine⟨Fp,h1,fun j u hj b hb z=>?_⟩
  rcases get_set hj with⟨rfl,e,_⟩ |⟨ne,hj⟩
  ·cases e
  ·rw[a8 ne]at hb;exact h2 j u hj b hb z
section
variable{X:Cx}{K:W.Frag}{fn:List Str}{C':Addr}{bm':List Value}{zX:Option Addr}{x n:Str}{p pos:Pos}{b0:Stmt}{yX:List Stmt}{rest:List ExceptHandler}{ts:TS}{qs:QS}{tr:TH}{qr:QH}{i:Nat}
def KC:QH:=fun _ _ _ _ _=>False
theorem GF{hs:List ExceptHandler}:QPH X K hs IK KC:=⟨Hg,fun _ _ _ _ _ _ _ _ _ _ _ _ _ _ h _=>h.elim⟩
def Qu(K:W.Frag)(fn:List Str)(C':Addr)(i:Nat)(qs:QS)(qr:QH):QH:=fun C ns us D q=>∃ bm ini,fA K fn C bm ini/\if(Value.ref C::bm).contains (.ref C')=true then qs (D.go i) (q.set i (.r (.xc C ns us)))else qr C ns us D q
theorem Qt(hK:X.K=K)(hN:X.N.Nodup)(hi:X.N[i]? = some n)(hk:X.env.scope.names.lookup n=some .local)(hg:Gl X x)(hm:X.mg x=some (.ref C'))(c':fA K fn C' bm' zX)(hsu:∀ a,uw (X.inX a) K (b0::yX) ts qs)(hr:QPH X K rest tr qr)(hdb:(x ==("__debug__":Str))=false:=by decide) :
  QPH X K (.ExceptHandler (some (.Name x p)) (some n) (b0::yX) pos::rest) (hAs K fn C' i ts tr) (Qu K fn C' i qs qr):=by
 subst hK;refine⟨Rb hN hi hk hg hm c' (fun a=>(hsu a).h) hr.h hdb,fun dl H₀ hs H σ q Dq D a C ns us r rp hq E=>?_⟩
 obtain⟨bm,ini,c,hq⟩:=hq;refine⟨bm,ini,c,fun z=>?_,fun z=>?_⟩
 ·rw[if_pos z]at hq;have r2:gC X.K dl H₀ hs H (σ.set i (some (.ref a))) (q.set i (.r (.xc C ns us))):=by
   obtain⟨F,r⟩:=r;by_cases hiq:i<q.length
   ·exact⟨_,r.Od hiq rp fun _ _ _ _ _ _ z=>nomatch z⟩
   ·have hl:=r.l;rw[List.set_eq_of_length_le (by omega),List.set_eq_of_length_le (by omega)]
    exact⟨F,r⟩
  exact(hsu a).s dl H₀ hs H _ _ (Dq.go i) (D.go i) r2 hq ⟨fun H σ q r h=>E.nx H _ _ (r.clear i) h,fun H σ q r h=>E.bk H _ _ (r.clear i) h,fun H σ q r h=>E.ct H _ _ (r.clear i) h,E.rt⟩
 ·rw[if_neg (by rw[z];decide)]at hq;exact hr.s dl H₀ hs H σ q Dq D a C ns us r rp hq E
theorem NW{body:List Stmt}{h0:ExceptHandler}{hs:List ExceptHandler}{th:TH}{qh:QH}{tb:(St->XK)->TS}{qb:QSX}(hb:∀ pn xe,Ng (X.qi pn xe) K body tb qb)(hh:QPH X K (h0::hs) th qh)(hst:X.stack=X.env::X.outer:=by rfl)(hf:X.env.frame=some X.env.locals:=by rfl) :
  QPS X K (.Try body (h0::hs) [] [] pos) (P0 th tb) (fun D q=>qb (fun q' C ns us=>qh C ns us D q') D q) :=
 ⟨Oe hst hf (fun Es pn xe a b=>(hb pn xe).h Es a b) hh.h,fun dl H₀ hs H σ q Dq D r hq E=>(hb [] fun _ _=>False).s dl H₀ hs H σ q Dq D _ _ r hq E fun H σ q a C ns us r rp hw=>⟨a,C,rfl,rfl,hh.s dl H₀ hs H σ q Dq D a C ns us r rp hw E⟩⟩
end
section
variable{X:Cx}{K:W.Frag}{dl:Dl}{H:Hp}{a b e:Expr}{ta tb te:TE}{qa qb qe:QE}{pos:Pos}
def SI(qa qb:QE):QE:=fun q Q=>qa q fun t=>qb q fun u=>match t,u with
 | .l xs,.i k=>∃ x,atI xs k=some x/\Q x
 | _,_=>False
theorem GK(ha:QPF X K a ta qa)(hb:QPE X K b tb qb)(hs:rh b:=by intro _ _;rfl)(hK:X.K=K:=by rfl):QPF X K (.Subscript a b pos) (tOp (rIx K) ta tb) (SI qa qb):=by
 refine⟨by subst hK;exact pR BF ha.h hb.h hs,fun dl H σ q Q R rd hq k=>?_⟩
 refine ha.s dl H σ q _ _ rd hq fun v t F H1 e1 r1 f1 n1 hq1=>?_
 refine hb.s dl H1 σ q _ _ (rd.evo e1) hq1 fun w u G H2 e2 r2 hq2=>?_
 have r1:=r1.evo e1.d e2
 split at hq2
 ·obtain⟨rfl,rfl⟩:=r2.r.int;obtain⟨p,vs,G,rfl,rfl,h1,h2⟩:=r1.r.lst;obtain⟨z,hz,hq⟩:=hq2;obtain⟨j,hj,hi⟩:=rg hz h2.len.symm;obtain⟨v,G',hv,rv,hs⟩:=h2.RS hj;have sub:∀ c∈G',c∈p::G:=fun c hc=>List.mem_cons_of_mem _ (hs.subset hc)
  exact .inl ⟨p,vs,_,v,rfl,rfl,SqL.of h1,yA hi hv,k v z G' H2 (e1.trans e2) (Rp.sub rv r1.n sub) (fun c hc=>f1 c (sub c hc)) ((List.nodup_cons.mp n1).2.sublist hs) hq⟩
 ·exact hq2.elim
end
section
variable{X:Cx}{K:W.Frag}{dl:Dl}{a e:Expr}{te:TE}{qe:QE}{tl:TA}{ql:QA}{pos p:Pos}
def Sb(ql:QA):QJ:=fun q Q=>ql q fun ts=>match ts with | [.t xs]=>T.ims xs=true/\Q (v8 xs) q | _=>False
theorem xa{elts:List Expr}{x1}{pos':Pos}(hg:Gl X "enumerate")(hm:X.mg "enumerate" = none)(Ag:bootBuiltins "enumerate" = some (.type "enumerate"))(ha:QPA X K [a] tl ql)(hs:starEach [a] X.env = [(false,eval a X.env)]:=by rfl)(hK:X.K=K:=by rfl) :
  QPJ X K (.Tuple elts x1 pos') (.Call (.Name "enumerate" p) [a] [] pos) (IC K true tl) (Sb ql):=⟨Hf hK hg hm Ag ha.h hs,fun dl H₀ hs H σ q Q R ⟨F0,r0⟩ hq k=>ha.s dl H σ q _ _ r0.rd hq fun vs ts F H' e1 r _ hz=>by
 split at hz
 ·obtain⟨i1,hz⟩:=hz;obtain⟨v,rfl,r1⟩:=r.one;obtain rfl:=r1.r.im (t:=.t _) i1;have q1:=(r0.evo e1).hold r1 fun j u hj b hb z=>nomatch z
  obtain⟨l1,vs1,rfl,h1,h2⟩:=r1.r.tup;exact⟨l1,rfl,⟨vs1,SqT.of h1⟩,k _ _ _ H' q ⟨F0,q1⟩ LQ hz⟩
 ·exact hz.elim⟩
def N9(qe:QE):QE:=fun q Q=>qe q fun t=>match t with | .l xs=>T.ims xs=true/\Q (.l xs.reverse) | _=>False
theorem zr{p1 p2 gE:Pos}(hK:X.K=K)(hc:X.calm=true)(hg1:Gl X "list")(hm1:X.mg "list" = none)(hg2:Gl X "reversed")(hm2:X.mg "reversed" = none)(he:PE X e te)
  (hs1:starEach [e] X.env = [(false,eval e X.env)]) (hs2:starEach [.Call (.Name "reversed" p2) [e] [] gE] X.env = [(false,eval (.Call (.Name "reversed" p2) [e] [] gE) X.env)]) :
  PE X (.Call (.Name "list" p1) [.Call (.Name "reversed" p2) [e] [] gE] [] pos) (rH K te):=by subst hK;exact sk hc hg1 hm1 hg2 hm2 he hs1 hs2
theorem zd{p1 p2 gE:Pos}(hc:X.calm=true)(hg1:Gl X "list")(hm1:X.mg "list" = none)(hg2:Gl X "reversed")(hm2:X.mg "reversed" = none)(he:QPE X K e te qe)
  (hs1:starEach [e] X.env = [(false,eval e X.env)]:=by rfl) (hs2:starEach [.Call (.Name "reversed" p2) [e] [] gE] X.env = [(false,eval (.Call (.Name "reversed" p2) [e] [] gE) X.env)]:=by rfl) (hK:X.K=K:=by rfl) :
  QPF X K (.Call (.Name "list" p1) [.Call (.Name "reversed" p2) [e] [] gE] [] pos) (rH K te) (N9 qe) :=
 ⟨zr hK hc hg1 hm1 hg2 hm2 he.h hs1 hs2,fun dl H σ q Q R rd hq k=>he.s dl H σ q _ _ rd hq fun v t F H1 e1 r hz=>by
  split at hz
  ·obtain⟨i1,hz⟩:=hz;obtain⟨l,vs,G,rfl,rfl,h1,h2⟩:=r.r.lst;obtain rfl:=h2.im i1;refine⟨l,vs,rfl,SqL.of h1,fun p hp=>?_⟩
   have rs:Rps K dl H1 vs.reverse _ []:=⟨h2.rev rfl,fun _ z=>nomatch z⟩
   exact k _ _ [p] _ (e1.new hp) (rs.lst e1.d hp) (fun b hb=>by rw[List.mem_singleton.mp hb];exact e1.free hp) (by simp) hz
  ·exact hz.elim⟩
end
def chT(z:Str):List T:=z.cps.toList.map fun c=>.s ⟨#[c]⟩
def asS(qe:QE):QI:=fun q Q=>qe q fun t=>match t with | .s z=>Q (chT z) | _=>False
def Tx:Nat->T->Prop
 | 0,t=>∃ x,t = .s x
 | n+1,t=>(∃ x,t = .s x)\/∃ ts,t = .t ts/\∀ x∈ts,Tx n x
section
variable{X:Cx}{K:W.Frag}{dl:Dl}{H:Hp}
theorem O4{z:Str}:Cj K dl (Its z) (chT z) [] where
 go:=fun H i D h hi=>by
  show i<z.cps.size;simpa [chT]using hi
 yld:=fun H i x fp v H' D h hx y=>by
  obtain⟨rfl,c,hc,rfl⟩:=y;unfold chT at hx;rw[List.getElem?_map,Array.getElem?_toList,hc]at hx;cases hx;exact⟨.refl D,[],⟨.s _,fun _ z=>nomatch z⟩,fun _ z=>nomatch z⟩
 stop:=fun H D h=>by
  show(chT z).length=z.cps.size;simp[chT]
variable{tg e o:Expr}{te to:TE}{qe qo:QE}
theorem NZ(h:QPE X K e te qe):QPJ X K tg e (Rt te) (asJ (asS qe)):=⟨He h.h,fun dl H₀ hs H σ q Q R ⟨F0,r0⟩ hq k=>h.s dl H σ q _ _ r0.rd hq fun v t F H' e1 r hz=>by
 split at hz
 ·obtain⟨rfl,_⟩:=r.r.str;exact⟨_,rfl,k _ _ [] H' q ⟨F0,r0.evo e1⟩ O4 hz⟩
 ·exact hz.elim⟩
theorem m5{vs:List V}{ts:List T}{F:List Addr}(h:av K dl H vs ts F){j:Nat}{v:V}(hv:vs[j]? = some v):∃ t G,ts[j]? = some t/\aN K dl H v t G:=by
 have hl:=h.len;have hj:j<ts.length:=by rw[<- hl];exact(List.getElem?_eq_some_iff.mp hv).1
 obtain⟨w,G,hw,r,_⟩:=h.get (show ts[j]? = some ts[j]from by simp[hj])
 rw[hv]at hw;cases hw;exact⟨_,G,by simp[hj],r⟩
theorem Me{pins:List (Addr×Obj)}{σ:St}{s:Shared}(I:Inv X pins σ H s)(hK:X.K=K):∀(n:Nat)(A:Around)(t:T)(v w:V)(F G:List Addr)(x y:Value),Tx n t->aN K dl H v t F->aN K dl H w t G->RelV v x->RelV w y->A.units+n<cLine->SeqAt.EqAt A s x y true:=by
 intro n
 induction n with
 | zero =>
  intro A t v w F G x y ht r1 r2 rx ry hu;obtain⟨z,rfl⟩:=ht;obtain⟨rfl,_⟩:=r1.str;obtain⟨rfl,_⟩:=r2.str;have h:=tJ (A:=A) (s:=s) rx ry rfl rfl;have e:eqV (V.str z) (V.str z)=true:=show(z==z)=true from beq_self_eq_true z;rw[e]at h;exact h
 | succ n ih =>
  intro A t v w F G x y ht r1 r2 rx ry hu;rcases ht with⟨z,rfl⟩ |⟨ts,rfl,ht⟩
  ·obtain⟨rfl,_⟩:=r1.str;obtain⟨rfl,_⟩:=r2.str;have h:=tJ (A:=A) (s:=s) rx ry rfl rfl;have e:eqV (V.str z) (V.str z)=true:=show(z==z)=true from beq_self_eq_true z;rw[e]at h;exact h
  ·obtain⟨a,vs,rfl,h1,f1⟩:=r1.tup;obtain⟨b,ws,rfl,h2,f2⟩:=r2.tup;cases rx;cases ry;by_cases hab:a=b
   ·subst hab;exact SeqAt.EqAt.same _
   ·refine SeqAt.EqAt.of_refs hab ?_;obtain⟨its,q1,p1,_⟩:=I.tuple (SqT.of h1);obtain⟨eU,q2,p2,_⟩:=I.tuple (SqT.of h2);have l1:=q1.length;have l2:=q2.length;have l3:=f1.len;have l4:=f2.len;have hh:=SeqAt.RcAt.tuples (A:=A) (e:=fun _=>true) (show s.heap.IsTuple a its.toArray from p1) (show s.heap.IsTuple b eU.toArray from p2) (by omega) (fun j g1 g2=>?_)
    ·have e:((List.range (min its.toArray.size eU.toArray.size)).all (fun _=>true)&&its.toArray.size==eU.toArray.size)=true:=by
      have:its.length=eU.length:=by omega
      simp[this]
     rw[e]at hh;exact hh
    ·obtain⟨v1,e1,rv1⟩:=q1.at' g1;obtain⟨v2,e2,rv2⟩:=q2.at' g2;obtain⟨t1,G1,et1,rt1⟩:=m5 f1 e1;obtain⟨t2,G2,et2,rt2⟩:=m5 f2 e2;rw[et1]at et2;cases et2;exact ih A.in1 t1 v1 v2 G1 G2 _ _ (ht t1 (List.mem_of_getElem? et1)) rt1 rt2 rv1 rv2 (by show A.units+1+n<_;omega)
def Qh(K:W.Frag):R2:=fun x y H Q=>rNe x y H Q\/∃ dl ts n F G,aN K dl H x (.t ts) F/\aN K dl H y (.t ts) G/\(∀ z∈ts,Tx n z)/\n<=100/\Q (.bl false) H
theorem Hx(hu:X.A.units+150<cLine)(hK:X.K=K):OpR X (compareOp .NotEq) (Qh K):=by
 subst hK;refine OpR.or pS ?_;intro pins s σ H x y v u Q I rx ry h;obtain⟨dl,ts,n,F,G,r1,r2,ht,hn,k⟩:=h;obtain⟨a,vs,rfl,h1,f1⟩:=r1.tup;obtain⟨b,ws,rfl,h2,f2⟩:=r2.tup;cases rx;cases ry;obtain⟨its,q1,p1,_⟩:=I.tuple (SqT.of h1);obtain⟨eU,q2,p2,_⟩:=I.tuple (SqT.of h2);have l1:=q1.length;have l2:=q2.length;have l3:=f1.len;have l4:=f2.len;refine SeqAt.RcNeAt.tuples (A:=X.A) (e:=fun _=>true) (show s.heap.IsTuple a its.toArray from p1) (show s.heap.IsTuple b eU.toArray from p2) (by omega) (fun j g1 g2=>?_) X.prog X.w X.xe _ ⟨.bl _,H,I,rfl,?_⟩
 ·obtain⟨v1,e1,rv1⟩:=q1.at' g1;obtain⟨v2,e2,rv2⟩:=q2.at' g2;obtain⟨t1,G1,et1,rt1⟩:=m5 f1 e1;obtain⟨t2,G2,et2,rt2⟩:=m5 f2 e2;rw[et1]at et2;cases et2;exact Me I rfl n X.A.in1 t1 v1 v2 G1 G2 _ _ (ht t1 (List.mem_of_getElem? et1)) rt1 rt2 rv1 rv2 (by show X.A.units+1+n<_;omega)
 ·have e:((List.range (min its.toArray.size eU.toArray.size)).all (fun _=>true)&&its.toArray.size==eU.toArray.size)=true:=by
   have:its.length=eU.length:=by omega
   simp[this]
  rw[e];exact k
def N7:Q2:=fun t u Q=>match t,u with
 | .t xs,.t ys=>xs=ys/\(∃ n,n<=100/\∀ z∈xs,Tx n z)/\Q (.b false)
 | t,u=>qNe t u Q
theorem CB:fL K (Qh K) N7:=by
 intro dl H x y t u F G Q R D r1 r2 hq k;unfold N7 at hq
 split at hq
 ·obtain⟨rfl,⟨n,hn,ht⟩,hq⟩:=hq;exact .inr ⟨dl,_,n,F,G,r1.r,r2.r,ht,hn,k _ _ [] H (.refl D) (.c (.b _)) (fun _ z=>nomatch z) List.nodup_nil hq⟩
 ·exact .inl (oF dl H x y t u F G Q R D r1 r2 hq k)
theorem M1{A:Around}{k:Nat}(hr:dO k A):A.units+150<cLine:=by have:=hr.un;omega
def N3(qo:QE):QE:=fun q Q=>qo q fun t=>match t with
 | .s z=>z.length<=5592405/\Q (.s (Txt.upper z))
 | _=>False
theorem GG{apos bc:Pos}(ho:QPE X K o to qo)(hK:X.K=K:=by rfl)(dJ:attributeBase o "upper" X.env (eval o X.env)=eval o X.env:=by rfl)(dI:(apos.endLine==bc.line)=true:=by rfl) :
  QPF X K (.Call (.Attribute o "upper" apos) [] [] bc) (J5 K "str" Gz to) (N3 qo):=⟨by
 subst hK;exact so PySem.F.plainAttrs_str PySem.F.slot_str_upper PySem.F.type_str_upper HU ho.h dJ dI,fun dl H σ q Q R rd hq k=>ho.s dl H σ q _ _ rd hq fun v t F H1 e1 r1 hq=>by
  split at hq
  ·obtain⟨rfl,_⟩:=r1.r.str;exact⟨rfl,_,rfl,rfl,hq.1,k _ _ [] H1 e1 (.c (.s _)) (fun _ z=>nomatch z) List.nodup_nil hq.2⟩
  ·exact hq.elim⟩
structure Sg(X:Cx)(K:W.Frag)(e:Expr)(te:TE)(tq:QE):Prop where
 h:PEp X e te
 s:k8 K te tq
structure Sh(X:Cx)(K:W.Frag)(e:Expr)(te:TE)(tq:QE):Prop where
 h:PE1 X e te
 s:k8 K te tq
structure Du(X:Cx)(K:W.Frag)(es:List Expr)(te:TA)(tq:QA):Prop where
 h:PA1 X es te
 s:Dt K es.length te tq
variable{es:List Expr}{tl:TA}{ql:QA}
theorem vI{n:Nat}(ha:k8 K te qe)(hr:Dt K n tl ql):Dt K (n+1) (cM te tl) (pO qe ql):=fun dl H σ q Q R rd hq k=>ha dl H σ q _ _ rd hq fun v t F H1 e1 r1 f1 n1 hz=>hr dl H1 σ q _ _ (rd.evo e1) hz fun vs ts G H2 e2 r2 l2 f2 n2 z =>
  k _ _ _ H2 (e1.trans e2) (.cons (r1.evo e1.d e2) r2) (by simp[l2]) (fun b hb=>(List.mem_append.mp hb).elim (f1 b) fun hb=>e1.free (f2 b hb)) (List.nodup_append.mpr ⟨n1,n2,fun x hx y hy exy=>by
   subst exy;have z:=f2 x hy;rcases r1.r.there x hx with⟨_,e⟩ |⟨_,e⟩
   ·rw[z]at e;cases e
   ·rw[z]at e;cases e⟩) z
theorem N1(h:aC X K es tl ql):Du X K es tl ql:=⟨h.h.one,h.s⟩
theorem rY(ha:Sh X K e te qe)(hr:Du X K es tl ql)(hs:starEach (e::es) X.env =(false,eval e X.env)::starEach es X.env:=by rfl):Du X K (e::es) (cM te tl) (pO qe ql):=⟨Ht ha.h hr.h hs,vI ha.s hr.s⟩
theorem GN(ha:Sg X K e te qe)(hr:Du X K es tl ql)(hs:starEach (e::es) X.env =(false,eval e X.env)::starEach es X.env:=by rfl):aC X K (e::es) (cM te tl) (pO qe ql):=⟨Hs ha.h hr.h hs,vI ha.s hr.s⟩
def Qz(y z:Str)(qo:QE):QE:=fun q Q=>qo q fun t=>match t with
 | .s w=>w.length<=1048576/\Q (.s (Txt.replace w y z))
 | _=>False
theorem xb{apos bc p1 p2:Pos}{y z:Str}{j1 j2:Nat}(ho:QPE X K o to qo)(hyz:(y==z)=false:=by decide +kernel)(hz:z.length<=14:=by decide +kernel)
  (dJ:attributeBase o "replace" X.env (eval o X.env)=eval o X.env:=by rfl)
  (mD:((backTo bc (starEach [.Constant (.str y) j1 p1,.Constant (.str z) j2 p2] X.env)).all (fun x=>!x.1)&&(backToKw bc (keywordEach [] X.env)).all (fun x=>x.1.isSome)
   && decide (([.Constant (.str y) j1 p1,.Constant (.str z) j2 p2]:List Expr).length+([]:List Keyword).length+(if([]:List Keyword).isEmpty then 0 else 1)<30))=true:=by rfl)
  (dI:(apos.endLine==bc.line)=true:=by rfl) :
  Sh X K (.Call (.Attribute o "replace" apos) [.Constant (.str y) j1 p1,.Constant (.str z) j2 p2] [] bc) (MJ y z to) (Qz y z qo) :=
 ⟨K8 ho.h hyz hz dJ mD dI,fun dl H σ q Q R rd hq k=>ho.s dl H σ q _ _ rd hq fun v t F H1 e1 r1 hq=>by
  split at hq
  ·obtain⟨rfl,_⟩:=r1.r.str;exact⟨_,rfl,hq.1,k _ _ [] H1 e1 (.c (.s _)) (fun _ z=>nomatch z) List.nodup_nil hq.2⟩
  ·exact hq.elim⟩
theorem KI{a b:Expr}{x:Str}{j:Nat}{p p2 p3:Pos}{ta tb:TE}{qa qb:QE}(ha:QPE X K a ta qa)(hb:QPE X K b tb qb)(hK:X.K=K:=by rfl) :
  Sg X K (.BinOp (.BinOp a .Add (.Constant (.str x) j p) p2) .Add b p3) (tOp (za K) (tOp (za K) ta (tC (.str x))) tb) (qOp DT (qOp DT qa (qC (.s x))) qb):=by
 subst hK;refine⟨K7 (xt rfl) (K6 (xt rfl) ha.h K5) hb.h,?_⟩;exact wQ CF (QPF.w (ax (pos:=p2) ha (QPF.w (aI (j:=j) (pos:=p))))).s hb.s
theorem HZ(x y z:Str):(Txt.replace x y z).length<=x.length+(x.length+1)*z.length:=by
 unfold Txt.replace
 split
 ·omega
 ·have h1:=StrLaws.occ_length_le x y 0 x.length (x.length+1);have hy:(Builtin.Str.glued y (Builtin.Str.partsBetween x (Builtin.Str.occurrences x y 0 x.length (x.length+1)) y.length)).length=x.length:=by rw[StrLaws.glued_between_self]
  rw[size_glued,length_partsBetween,Nat.add_sub_cancel]at hy;rw[size_glued,length_partsBetween,Nat.add_sub_cancel];have h2:(Builtin.Str.occurrences x y 0 x.length (x.length+1)).length*z.length <=(x.length+1)*z.length:=Nat.mul_le_mul_right _ h1;omega
end
end L2
namespace K15
open PySem L2
def top(i:Nat):Stmt:=PySem.Challenge.pw_pursewright_k15_texts_of_no_value.main.body.getD i (.Pass ⟨0,0,0,0⟩)
def inClass(s:Stmt)(j:Nat):Stmt:=match s with
 | .ClassDef _ _ _ b _ _ _ _ _ _ _=>b.getD j (.Pass ⟨0,0,0,0⟩)
 | s=>s
abbrev fns:List Str:=[]
abbrev ic:Stmt:=inClass (top 2) 0
abbrev d8:Stmt:=inClass (top 3) 0
abbrev gf:Stmt:=inClass (top 5) 0
abbrev gg:Stmt:=inClass (top 7) 0
abbrev b9:Stmt:=inClass (top 18) 0
theorem qp:aX ["self"] ["self"] (aj b9):=⟨rfl,rfl,rfl,by decide +kernel,rfl,by decide +kernel,by decide +kernel⟩
abbrev cA:Stmt:=inClass (top 18) 1
theorem rR:aX ["self","sign"] ["self","sign"] (aj cA):=⟨rfl,rfl,rfl,by decide +kernel,rfl,by decide +kernel,by decide +kernel⟩
abbrev bB:Stmt:=inClass (top 18) 2
theorem kQ:aX ["self"] ["self"] (aj bB):=⟨rfl,rfl,rfl,by decide +kernel,rfl,by decide +kernel,by decide +kernel⟩
abbrev bS:Stmt:=inClass (top 18) 3
theorem ie:aX ["self","parts"] ["self"] (aj bS):=⟨rfl,rfl,rfl,by decide +kernel,rfl,by decide +kernel,by decide +kernel⟩
abbrev bf:Stmt:=inClass (top 18) 4
theorem jz:aX ["self"] ["self"] (aj bf):=⟨rfl,rfl,rfl,by decide +kernel,rfl,by decide +kernel,by decide +kernel⟩
abbrev d5:Stmt:=top 10
theorem iR:aX ["kinds","kind","name","makers"] ["kinds","kind"] (aj d5):=⟨rfl,rfl,rfl,by decide +kernel,rfl,by decide +kernel,by decide +kernel⟩
abbrev e9:Stmt:=top 12
theorem gH:aX ["kinds","kind","thing","waiting","due","fields"] ["kinds","kind","thing"] (aj e9):=⟨rfl,rfl,rfl,by decide +kernel,rfl,by decide +kernel,by decide +kernel⟩
abbrev dq:Stmt:=top 13
theorem gX:aX ["kinds","kind","thing","maker","fields"] ["kinds","kind","thing"] (aj dq):=⟨rfl,rfl,rfl,by decide +kernel,rfl,by decide +kernel,by decide +kernel⟩
abbrev dm:Stmt:=top 15
theorem fC:aX ["value","told","waiting","thing"] ["value"] (aj dm):=⟨rfl,rfl,rfl,by decide +kernel,rfl,by decide +kernel,by decide +kernel⟩
abbrev bU:Stmt:=top 16
theorem cY:aX ["value","things","number","part"] ["value"] (aj bU):=⟨rfl,rfl,rfl,by decide +kernel,rfl,by decide +kernel,by decide +kernel⟩
abbrev dn:Stmt:=top 17
theorem fD:aX ["kinds","kind","text","written","sign","value"] ["kinds","kind","text"] (aj dn):=⟨rfl,rfl,rfl,by decide +kernel,rfl,by decide +kernel,by decide +kernel⟩
abbrev oJ:Stmt:=top 20
theorem mY:aX ["_law_script","_law_base","_law_cells","_law_number","_law_cell"] ["_law_script","_law_base"] (aj oJ):=⟨rfl,rfl,rfl,by decide +kernel,rfl,by decide +kernel,by decide +kernel⟩
abbrev oI:Stmt:=top 21
theorem qO:aX ["_law_deal_here","_law_many","_law_number","_law_one","_law_other"] ["_law_deal_here","_law_many"] (aj oI):=⟨rfl,rfl,rfl,by decide +kernel,rfl,by decide +kernel,by decide +kernel⟩
abbrev ky:Stmt:=top 22
theorem cf:aX ["_law_deal_here","_law_many","_law_letters","_law_core","_law_at","_law_turn","_law_found","_law_k","_law_own","_law_word","_law_near"] ["_law_deal_here","_law_many"] (aj ky):=⟨rfl,rfl,rfl,by decide +kernel,rfl,by decide +kernel,by decide +kernel⟩
abbrev kC:Stmt:=top 23
theorem cC:aX ["_law_deal_here","_law_words_here","_law_form","_law_a","_law_b","_law_m","_law_found","_law_many","_law_made","_law_k","_law_makers","_law_j","_law_wide","_law_fields"] ["_law_deal_here","_law_words_here"] (aj kC):=⟨rfl,rfl,rfl,by decide +kernel,rfl,by decide +kernel,by decide +kernel⟩
abbrev ik:Stmt:=top 24
theorem dZ:aX ["_law_kinds_here","_law_found","_law_turn","_law_kind","_law_makers","_law_maker","_law_fields","_law_many"] ["_law_kinds_here"] (aj ik):=⟨rfl,rfl,rfl,by decide +kernel,rfl,by decide +kernel,by decide +kernel⟩
abbrev kA:Stmt:=top 25
theorem c8:aX ["_law_deal_here","_law_kinds_here","_law_leasts_here","_law_kind","_law_room","_law_some","_law_maker","_law_fields","_law_spare","_law_parts","_law_field","_law_more"] ["_law_deal_here","_law_kinds_here","_law_leasts_here","_law_kind","_law_room"] (aj kA):=⟨rfl,rfl,rfl,by decide +kernel,rfl,by decide +kernel,by decide +kernel⟩
abbrev oH:Stmt:=top 26
theorem mX:aX ["_law_value_here","_law_text_here","_law_k","_law_part"] ["_law_value_here"] (aj oH):=⟨rfl,rfl,rfl,by decide +kernel,rfl,by decide +kernel,by decide +kernel⟩
abbrev ij:Stmt:=top 27
theorem ku:aX ["_law_text_here","_law_found","_law_sign"] ["_law_text_here"] (aj ij):=⟨rfl,rfl,rfl,by decide +kernel,rfl,by decide +kernel,by decide +kernel⟩
abbrev kB:Stmt:=top 28
theorem d9:aX ["_law_kinds_here","_law_kind","_law_bits","_law_at","_law_maker","_law_fields","_law_parts","_law_k","_law_field","_law_seen"] ["_law_kinds_here","_law_kind","_law_bits","_law_at"] (aj kB):=⟨rfl,rfl,rfl,by decide +kernel,rfl,by decide +kernel,by decide +kernel⟩
abbrev vJ:Stmt:=top 29
theorem A4:aX ["_law_kinds_here","_law_kind","_law_text_here","_law_bits","_law_seen"] ["_law_kinds_here","_law_kind","_law_text_here"] (aj vJ):=⟨rfl,rfl,rfl,by decide +kernel,rfl,by decide +kernel,by decide +kernel⟩
abbrev oG:Stmt:=top 30
theorem gG:aX ["_law_kinds_here","_law_kind","_law_text_here","_law_found","_law_fault","e","_law_others"] ["_law_kinds_here","_law_kind","_law_text_here"] (aj oG):=⟨rfl,rfl,rfl,by decide +kernel,rfl,by decide +kernel,by decide +kernel⟩
abbrev ig:Stmt:=top 31
theorem cB:aX ["_law_deal_here","_law_kinds_here","_law_text_here","_law_bits","_law_at","_law_spot","_law_names","_law_kind","_law_makers","_law_some","_law_one","_law_form"] ["_law_deal_here","_law_kinds_here","_law_text_here"] (aj ig):=⟨rfl,rfl,rfl,by decide +kernel,rfl,by decide +kernel,by decide +kernel⟩
abbrev vK:Stmt:=top 32
theorem jN:aX ["_law_kinds_here","_law_text_here","_law_names","_law_kind","_law_makers","_law_some"] ["_law_kinds_here","_law_text_here"] (aj vK):=⟨rfl,rfl,rfl,by decide +kernel,rfl,by decide +kernel,by decide +kernel⟩
abbrev jO:Stmt:=top 33
theorem gi:aX ["_law_script","_law_deal_here","_law_words_here","_law_kinds_here","_law_leasts_here","_law_some","_law_kind","_law_value_here","_law_text_here","_law_texts","_law_one"] ["_law_script"] (aj jO):=⟨rfl,rfl,rfl,by decide +kernel,rfl,by decide +kernel,by decide +kernel⟩
set_option genInjectivity false in
structure Adr where
 ay:Addr
 cO:Addr
 dH:Addr
 wb:FuncData
 bC:Addr
 bR:Addr
 nF:FuncData
 aS:Addr
 cb:Addr
 cR:Addr
 tN:FuncData
 dh:Addr
 cc:Addr
 cS:Addr
 tO:FuncData
 eM:Addr
 ak:Addr
 bg:Addr
 gA:FuncData
 bI:Addr
 g7:FuncData
 aW:Addr
 dX:FuncData
 bj:Addr
 fW:FuncData
 aO:Addr
 dg:FuncData
 cG:Addr
 j7:FuncData
 df:Addr
 mE:FuncData
 cp:Addr
 jf:FuncData
 ck:Addr
 jd:FuncData
 bo:Addr
 fq:FuncData
 cn:Addr
 je:FuncData
 jb:Addr
 yg:FuncData
 fk:Addr
 j8:FuncData
 gK:Addr
 yc:FuncData
 gN:Addr
 yf:FuncData
 fK:Addr
 tS:FuncData
 gL:Addr
 yd:FuncData
 j6:Addr
 BZ:FuncData
 fJ:Addr
 tR:FuncData
 gM:Addr
 ye:FuncData
 p6:Addr
 Jg:FuncData
 j4:Addr
 BY:FuncData
 fI:Addr
 tQ:FuncData
 p7:Addr
 Jh:FuncData
 tI:Addr
 Jf:FuncData
structure Txt(K:W.Frag)(mg:Str->Option Value)(a:Adr):Prop where
 wG:fA K fns a.ay (bmV) none
 uW:mg "PurseError" = some (.ref a.ay)
 JM:W.keepIn K (.ref a.ay)=true
 Fz:fA K fns a.cO (.ref a.ay::bmV) (some a.dH)
 Er:mg "NoText" = some (.ref a.cO)
 PQ:W.keepIn K (.ref a.cO)=true
 pK:Fun K "__init__" "NoText.__init__" ic a.dH a.wb
 PR:W.isFn K (.ref a.dH)=true
 wy:Binds K a.wb ["self","row"] []
 yS:fA K fns a.bC (.ref a.ay::bmV) (some a.bR)
 xy:mg "NoProgram" = some (.ref a.bC)
 LI:W.keepIn K (.ref a.bC)=true
 jt:Fun K "__init__" "NoProgram.__init__" d8 a.bR a.nF
 Md:W.isFn K (.ref a.bR)=true
 nO:Binds K a.nF ["self","word","name"] []
 bA:fA K fns a.aS (.ref a.ay::bmV) none
 mw:mg "NoValue" = some (.ref a.aS)
 sT:W.keepIn K (.ref a.aS)=true
 Dy:fA K fns a.cb (.ref a.ay::bmV) (some a.cR)
 Bl:mg "NoPaper" = some (.ref a.cb)
 OU:W.keepIn K (.ref a.cb)=true
 mO:Fun K "__init__" "NoPaper.__init__" gf a.cR a.tN
 Pm:W.isFn K (.ref a.cR)=true
 ua:Binds K a.tN ["self","row"] []
 Fy:fA K fns a.dh (.ref a.ay::bmV) none
 Ep:mg "NoTurn" = some (.ref a.dh)
 PN:W.keepIn K (.ref a.dh)=true
 Dz:fA K fns a.cc (.ref a.ay::bmV) (some a.cS)
 Bm:mg "NoChain" = some (.ref a.cc)
 OV:W.keepIn K (.ref a.cc)=true
 mP:Fun K "__init__" "NoChain.__init__" gg a.cS a.tO
 Pn:W.isFn K (.ref a.cS)=true
 ub:Binds K a.tO ["self","maker"] []
 JU:fA K fns a.eM (.ref a.ay::bmV) none
 HR:mg "NoRow" = some (.ref a.eM)
 Ro:W.keepIn K (.ref a.eM)=true
 aE:Cls K a.ak
 Bk:mg "Written" = some (.ref a.ak)
 Bp:Mk K a.ak a.bg
 bN:hJ K a.ak "word"
 cg:hJ K a.ak "makers"
 bt:hJ K a.ak "layers"
 eT:Fun K "__init__" "Written.__init__" b9 a.bg a.gA
 Fg:Meth K a.ak "__init__" a.bg
 gB:Binds K a.gA ["self"] []
 fH:Fun K "put" "Written.put" cA a.bI a.g7
 sJ:Meth K a.ak "put" a.bI
 g9:Binds K a.g7 ["self","sign"] []
 cL:Fun K "end_word" "Written.end_word" bB a.aW a.dX
 dF:Meth K a.ak "end_word" a.aW
 bW:Binds K a.dX ["self"] []
 dS:Fun K "close" "Written.close" bS a.bj a.fW
 oX:Meth K a.ak "close" a.bj
 fX:Binds K a.fW ["self"] []
 cq:Fun K "only_thing" "Written.only_thing" bf a.aO a.dg
 jD:Meth K a.ak "only_thing" a.aO
 di:Binds K a.dg ["self"] []
 nd:[a.ay,a.cO,a.bC,a.aS,a.cb,a.dh,a.cc,a.eM].Nodup
 fM:Fun K "makers_of" "makers_of" d5 a.cG a.j7
 zI:mg "makers_of" = some (.ref a.cG)
 ke:Binds K a.j7 ["kinds","kind"] []
 gD:Fun K "is_value" "is_value" e9 a.df a.mE
 Bv:mg "is_value" = some (.ref a.df)
 mH:Binds K a.mE ["kinds","kind","thing"] []
 eR:Fun K "fields_due" "fields_due" dq a.cp a.jf
 xE:mg "fields_due" = some (.ref a.cp)
 jo:Binds K a.jf ["kinds","kind","thing"] []
 eO:Fun K "show_value" "show_value" dm a.ck a.jd
 xC:mg "show_value" = some (.ref a.ck)
 jl:Binds K a.jd ["value"] []
 cF:Fun K "unfolded_value" "unfolded_value" bU a.bo a.fq
 oY:mg "unfolded_value" = some (.ref a.bo)
 fu:Binds K a.fq ["value"] []
 eQ:Fun K "read_value" "read_value" dn a.cn a.je
 xD:mg "read_value" = some (.ref a.cn)
 jm:Binds K a.je ["kinds","kind","text"] []
 uz:Fun K "_law_deal" "_law_deal" oJ a.jb a.yg
 OQ:mg "_law_deal" = some (.ref a.jb)
 Ca:Binds K a.yg ["_law_script","_law_base"] []
 bM:Fun K "_law_draw" "_law_draw" oI a.fk a.j8
 b7:mg "_law_draw" = some (.ref a.fk)
 bP:Binds K a.j8 ["_law_deal_here","_law_many"] []
 nU:Fun K "_law_words" "_law_words" ky a.gK a.yc
 m_words:mg "_law_words" = some (.ref a.gK)
 yt:Binds K a.yc ["_law_deal_here","_law_many"] []
 nV:Fun K "_law_kinds" "_law_kinds" kC a.gN a.yf
 LF:mg "_law_kinds" = some (.ref a.gN)
 yw:Binds K a.yf ["_law_deal_here","_law_words_here"] []
 kl:Fun K "_law_leasts" "_law_leasts" ik a.fK a.tS
 HY:mg "_law_leasts" = some (.ref a.fK)
 uh:Binds K a.tS ["_law_kinds_here"] []
 kM:Fun K "_law_value" "_law_value" kA a.gL a.yd
 CW:mg "_law_value" = some (.ref a.gL)
 q9:Binds K a.yd ["_law_deal_here","_law_kinds_here","_law_leasts_here","_law_kind","_law_room"] []
 pJ:Fun K "_law_text" "_law_text" oH a.j6 a.BZ
 HW:mg "_law_text" = some (.ref a.j6)
 yu:Binds K a.BZ ["_law_value_here"] []
 iF:Fun K "_law_pieces" "_law_pieces" ij a.fJ a.tR
 zH:mg "_law_pieces" = some (.ref a.fJ)
 nP:Binds K a.tR ["_law_text_here"] []
 kN:Fun K "_law_taken" "_law_taken" kB a.gM a.ye
 CY:mg "_law_taken" = some (.ref a.gM)
 rf:Binds K a.ye ["_law_kinds_here","_law_kind","_law_bits","_law_at"] []
 AG:Fun K "_law_due" "_law_due" vJ a.p6 a.Jg
 Rl:mg "_law_due" = some (.ref a.p6)
 Jx:Binds K a.Jg ["_law_kinds_here","_law_kind","_law_text_here"] []
 mM:Fun K "_law_told" "_law_told" oG a.j4 a.BY
 Bu:mg "_law_told" = some (.ref a.j4)
 ud:Binds K a.BY ["_law_kinds_here","_law_kind","_law_text_here"] []
 kj:Fun K "_law_spoilt" "_law_spoilt" ig a.fI a.tQ
 HX:mg "_law_spoilt" = some (.ref a.fI)
 uf:Binds K a.tQ ["_law_deal_here","_law_kinds_here","_law_text_here"] []
 AH:Fun K "_law_bad" "_law_bad" vK a.p7 a.Jh
 Rm:mg "_law_bad" = some (.ref a.p7)
 Jz:Binds K a.Jh ["_law_kinds_here","_law_text_here"] []
 Dw:Fun K "law" "law" jO a.tI a.Jf
 TQ:mg "law" = some (.ref a.tI)
 Nb:Binds K a.Jf ["_law_script"] []
 dN:mg "len" = none
 Nc:mg "all" = none
 B9:mg "list" = none
 gQ:mg "tuple" = none
 R4:mg "str" = none
 wz:mg "int" = none
 Jy:mg "dict" = none
 ug:mg "reversed" = none
 Jw:mg "max" = none
 R5:mg "min" = none
 Jv:mg "sum" = none
 jn:mg "range" = none
 bx:mg "isinstance" = none
 R3:mg "zip" = none
 kf:mg "enumerate" = none
 yy:mg "ValueError" = none
def xF:Str:="abcdefghijklmnopqrstuvwxyz"
def zM:List Str:=["kind","def","to","let","make","call"]
def la:List Str:=["name","case","end","pay","get","give"]
def kept:List Str:=zM++la
def near:List Str:=["lets","callx","payer","ender","tom","nameb","makes","gets","giver","kinds","defs","cases"]
theorem C1{i:Int}(h0:0<=i)(h1:i<26):atI (Str.cps xF).toList i=some (jT i.toNat):=by
 obtain⟨n,rfl⟩:∃ n:Nat,i=n:=⟨i.toNat,by omega⟩
 have h2:n<26:=by omega
 have h3:∀ n:Fin 26,atI (Str.cps xF).toList (n.val:Int)=some (jT n.val):=by decide +kernel
 have:=h3 ⟨n,h2⟩
 simpa using this
theorem HQ:∀ w∈near,1<=w.length/\w.length<=20:=by decide +kernel
def tM(m:Mk1):T:=.t [.s m.1,.t (m.2.map .s)]
def tMs(ms:List Mk1):T:=.t (ms.map tM)
def tK(k:Kd):T:=.t [.s k.1,tMs k.2]
def tKs(ks:List Kd):T:=.t (ks.map tK)
inductive G5(ts:List T)(Q:T->Prop):Prop
 | mk(ks:List Kd)(k:Str)(h1:ts = [tKs ks,.s k])(h2:Q (tMs (cK ks k)))
theorem dz{α:Type}{f:α->T}(h:∀ x,(f x).im=true):∀ xs:List α,T.ims (xs.map f)=true
 | []=>by simp[T.ims]
 | x::r=>by simp[T.ims,h x,dz h r]
theorem IA(m:Mk1):(tM m).im=true:=by simp[tM,T.im,T.ims,dz (f:=T.s) (fun _=>rfl)]
theorem tu(m:List Mk1):(tMs m).im=true:=by simp[tMs,T.im,dz IA]
theorem C4(m:Kd):(tK m).im=true:=by simp[tK,T.im,T.ims,tu]
theorem xV(m:List Kd):(tKs m).im=true:=by simp[tKs,T.im,dz C4]
def cP(m:Str):Prop:=∀ c∈m.cps.toList,97<=c/\c<=122
theorem cP.app{x y:Str}(h:cP x)(h2:cP y):cP (x++y):=fun c hc=>by
 rw[Str.cps_append,Array.toList_append]at hc;rcases List.mem_append.mp hc with z|z
 ·exact h c z
 ·exact h2 c z
theorem cP.slice{x:Str}(h:cP x)(l u:Option Int):cP (Txt.slice x l u):=by
 unfold Txt.slice
 split
 ·exact h
 ·intro c hc;obtain⟨i,_,e⟩:=List.mem_filterMap.mp (show c∈List.filterMap _ _ from hc);exact h c (by rw[<- Array.getElem?_toList]at e;exact List.mem_of_getElem? e)
theorem C0(n:Nat):97<=jT n/\jT n<=122:=by unfold jT;omega
theorem cP.one(n:Nat):cP ⟨#[jT n]⟩:=fun c hc=>by
 have:c=jT n:=by simpa using hc
 rw[this];exact C0 n
theorem cP.rep{z:Str}(h:cP z):∀ n,cP (gj z n):=fun n=>by
 unfold gj;have go:∀(n:Nat)(acc:Array Nat),(∀ c∈acc.toList,97<=c/\c<=122)->∀ c∈((List.replicate n z.cps).foldl (· ++ ·) acc).toList,97<=c/\c<=122:=by
  intro n
  induction n with
  | zero=>intro acc ha;exact ha
  | succ n ih =>
   intro acc ha;rw[List.replicate_succ,List.foldl_cons];refine ih _ fun c hc=>?_
   rw[Array.toList_append]at hc;rcases List.mem_append.mp hc with w|w
   ·exact ha c w
   ·exact h c w
 exact go n #[] fun c hc=>by simp at hc
theorem cP.word{kept:List Str}{c1 c2:Str}(h1:cP c1)(h2:cP c2)(turn k:Nat):cP (wordOf kept c1 c2 turn k):=by
 unfold wordOf;refine cP.app (((((h1.app (cP.one _)).app h2).app (cP.rep (z:="x") (fun c hc=>?_) _)).app (cP.rep (z:="y") (fun c hc=>?_) _))) ?_
 ·have e:(Str.ofString "x").cps.toList = [120]:=by decide +kernel
  rw[e]at hc
  have:c=120:=by simpa using hc
  omega
 ·have e:(Str.ofString "y").cps.toList = [121]:=by decide +kernel
  rw[e]at hc
  have:c=121:=by simpa using hc
  omega
 ·split
  ·intro c hc;have e:(Str.ofString "q").cps.toList = [113]:=by decide +kernel
   rw[e]at hc
   have:c=113:=by simpa using hc
   omega
  ·intro c hc;have e:Str.empty.cps.toList = []:=by decide +kernel
   rw[e]at hc;simp at hc
theorem Eo:∀ w∈near,∀ c∈w.cps.toList,97<=c/\c<=122:=by decide +kernel
inductive KL(ts:List T)(Q:T->Prop):Prop
 | mk(m:Int)(h1:ts = [.jc,.i m])(h2:0<m)(h3:m<=52)(h4:∀ ws:List Str,(ws.length:Int)=m->ws.Nodup ->(∀ w∈ws,1<=w.length/\w.length<=20) ->(∀ w∈ws,cP w)->Q (.l (ws.map .s)))
theorem iw{w:Str}{ws:List Str}:inT (.s w) (ws.map T.s)=inV (.str w) (ws.map V.str):=by
 unfold inT inV;rw[List.any_map,List.any_map];rfl
theorem Aj(ws:List Str):fls (ws.map T.s)=true:=by
 unfold fls;rw[List.all_map,List.all_eq_true];exact fun _ _=>rfl
theorem aZ(ws:List Str):T.ims (ws.map T.s)=true:=dz (fun _=>rfl) ws
theorem noq{w z:Str}(h:z∈la):w++("q":Str)≠z:=by
 intro e;have h1:(w++("q":Str)).cps.toList.getLast? = some 113:=by simp[Str.cps_append,show(Str.ofString "q").cps = #[113]from by decide +kernel]
 rw[e]at h1;have h2:∀ z∈la,z.cps.toList.getLast? ≠ some 113:=by decide +kernel
 exact h2 z h h1
theorem OJ{w:Str}:inV (.str (w++("q":Str))) (la.map V.str)=false:=by
 cases e:inV (.str (w++("q":Str))) (la.map V.str)with
 | false=>rfl
 | true=>exact absurd rfl (noq (w:=w) (LW.mp e))
theorem mB{w:Str}:inV (.str w) (kept.map V.str) =(inV (.str w) (zM.map V.str)||inV (.str w) (la.map V.str)):=by
 unfold kept inV;rw[List.map_append,List.any_append]
theorem yz{ws:List Str}{i:Int}(h0:0<=i)(h1:i<ws.length):∃ w,atI (ws.map T.s) i=some (.s w)/\w∈ws:=by
 obtain⟨v,e,hm⟩:=JA (xs:=ws.map T.s) h0 (by simpa using h1)
 obtain⟨w,hw,rfl⟩:=List.mem_map.mp hm;exact⟨w,e,hw⟩
structure c5(ks:List Kd):Prop where
 k1:1<=ks.length
 k2:ks.length<=3
 nd:(ks.map (·.1)).Nodup
 mn:(names ks).Nodup
 ne:∀ k∈ks,k.2 ≠ []/\k.2.length<=6
 fl:∀ k∈ks,∀ m∈k.2,m.2.length<=4/\∀ f∈m.2,f∈ks.map (·.1)
inductive KQ(ts:List T)(Q:T->Prop):Prop
 | mk(ws:List Str)(h1:ts = [.jc,.l (ws.map .s)])(h2:ws.length=30)(h3:ws.Nodup)(h4:∀ ks,c5 ks ->(∀ m∈names ks,m∈ws)->Q (tKs ks))
theorem ju{ws:List Str}{j:Nat}{w:Str}(h:ws[j]? = some w):atI (ws.map T.s) (j:Int)=some (.s w):=yB (by rw[List.getElem?_map,h];rfl)
theorem RX{ws:List Str}(h:ws.length=30):cu (ws.map T.s) (some 4) none++cu (ws.map T.s) none (some 4) =(ws.drop 4++ws.take 4).map T.s:=by
 unfold cu;have e1:HT.sIx (ws.map T.s).length 0 (some 4)=4:=by rw[List.length_map,h];rfl
 have e2:HT.sIx (ws.map T.s).length (ws.map T.s).length (some 4)=4:=by rw[List.length_map,h];rfl
 rw[e1,e2];show(List.drop 4 (ws.map T.s)).take ((ws.map T.s).length - 4)++(List.drop 0 (ws.map T.s)).take (4 - 0)=_;rw[List.take_of_length_le (by rw[List.length_drop];omega),List.drop_zero,List.map_append,List.map_drop,List.map_take]
theorem eJ{α β:Type}(f:α->β)(xs:List α)(lo hi:Option Int):cu (xs.map f) lo hi =(cu xs lo hi).map f:=by
 unfold cu;rw[List.length_map,<- List.map_drop,<- List.map_take]
theorem xU(ws:List Str)(lo hi:Option Int):T.ims (cu (ws.map T.s) lo hi)=true:=by rw[eJ];exact aZ _
theorem Ra(x y:Int)(b:Bool):atI [T.i x,T.i y] (if b=true then 1 else 0)=some (.i (if b=true then y else x)):=by cases b <;> rfl
theorem Q9{x y z r:Int}(h0:0<=r)(h1:r<3):∃ v,atI [T.i x,T.i y,T.i z] r=some (.i v)/\(v=x\/v=y\/v=z):=by
 obtain⟨n,rfl⟩:∃ n:Nat,r=n:=⟨r.toNat,by omega⟩
 match n,h1 with
 | 0,_=>exact⟨x,rfl,.inl rfl⟩
 | 1,_=>exact⟨y,rfl,.inr (.inl rfl)⟩
 | 2,_=>exact⟨z,rfl,.inr (.inr rfl)⟩
 | n+3,h=>omega
theorem leK(a b:Nat)(h:Nat.ble a b=true:=by rfl):a<=b:=Nat.le_of_ble_eq_true h
theorem yE{α:Type}{p:α->Prop}:∀ x∈([]:List α),p x:=fun _ h=>absurd h List.not_mem_nil
theorem all1{α:Type}{p:α->Prop}{a:α}(h:p a):∀ x ∈ [a],p x:=fun _ hx=>List.mem_singleton.mp hx▸h
theorem all2{α:Type}{p:α->Prop}{a b:α}(h:p a)(h2:p b):∀ x ∈ [a,b],p x:=fun x hx=>(List.mem_cons.mp hx).elim (fun e=>e▸h) (all1 h2 x)
theorem Tt{α:Type}{p:α->Prop}{a b c:α}(h:p a)(h2:p b)(h3:p c):∀ x ∈ [a,b,c],p x:=fun x hx=>(List.mem_cons.mp hx).elim (fun e=>e▸h) (all2 h2 h3 x)
structure ux(ws M:List Str)(many:Nat)(ks:List Kd)(k made:Nat):Prop where
 nm:ks.map (·.1)=ws.take k
 mn:names ks=M.take made
 b1:made<=6*k
 ne:∀ k∈ks,k.2 ≠ []/\k.2.length<=6
 fl:∀ k∈ks,∀ m∈k.2,m.2.length<=4/\∀ f∈m.2,f∈ws.take many
theorem ux.next{ws M:List Str}{many:Nat}{ks:List Kd}{k made gv:Nat}{ms:List Mk1}{n:Str}(D:ux ws M many ks k made)(hn:ws[k]? = some n)(hm:M.take made++ms.map (·.1)=M.take gv)(h0:ms ≠ [])(h1:ms.length<=6)(h2:gv<=made+ms.length)(h3:∀ m∈ms,m.2.length<=4/\∀ f∈m.2,f∈ws.take many) :
  ux ws M many (ks ++ [(n,ms)]) (k+1) gv where
 nm:=by rw[List.map_append,D.nm,<- take_one hn];rfl
 mn:=by
  have:names (ks ++ [(n,ms)])=names ks++ms.map (·.1):=by unfold names;rw[List.flatMap_append];simp
  rw[this,D.mn,hm]
 b1:=by have:=D.b1;omega
 ne:=fun x hx=>by
  rcases List.mem_append.mp hx with h|h
  ·exact D.ne x h
  ·rw[List.mem_singleton.mp h];exact⟨h0,h1⟩
 fl:=fun x hx=>by
  rcases List.mem_append.mp hx with h|h
  ·exact D.fl x h
  ·rw[List.mem_singleton.mp h];exact h3
theorem ux.good{ws M:List Str}{many:Nat}{ks:List Kd}{made:Nat}(D:ux ws M many ks many made)(hw:ws.Nodup)(hM:M.Nodup)(h1:1<=many)(h2:many<=3)(hl:3<=ws.length):c5 ks:=by
 have hlen:ks.length=many:=by
  have:=congrArg List.length D.nm
  rw[List.length_map,List.length_take]at this;omega
 refine⟨by omega,by omega,by rw[D.nm];exact hw.sublist (List.take_sublist _ _),by rw[D.mn];exact hM.sublist (List.take_sublist _ _),D.ne,fun k hk m hm=>?_⟩
 have z:=D.fl k hk m hm;rw[D.nm];exact z
abbrev Ds:=List (Str×Int)
def dEn(p:Str×Int):Key×T:=(.inr p.1,.i p.2)
def dT(ds:Ds):T:=.d (ds.map dEn)
def lk(ds:Ds)(k:Str):Option Int:=(ds.find? fun p=>decide (p.1=k)).map (·.2)
def putD(ds:Ds)(k:Str)(v:Int):Ds:=if(ds.any fun p=>decide (p.1=k))=true then ds.map (fun p=>if p.1=k then(p.1,v)else p)else ds ++ [(k,v)]
theorem xT{a b:Str}:decide ((Sum.inr a:Key) = .inr b)=decide (a=b):=by
 by_cases h:a=b
 ·subst h;simp
 ·rw[decide_eq_false h,decide_eq_false fun z=>h (Sum.inr.inj z)]
theorem f9(ds:Ds)(k:Str):dA (ds.map dEn) (.inr k) =(lk ds k).map .i:=by
 unfold dA lk
 induction ds with
 | nil=>rfl
 | cons p r ih =>
  rw[List.map_cons,List.find?_cons,List.find?_cons,show(dEn p).1 = .inr p.1 from rfl,xT];cases decide (p.1=k)with
  | true=>rfl
  | false=>exact ih
theorem Pz(ds:Ds)(k:Str):((ds.map dEn).any fun p=>decide (p.1 = .inr k))=ds.any fun p=>decide (p.1=k):=by
 rw[List.any_map]
 congr 1
 funext p
 exact xT
theorem Oc(ds:Ds)(k:Str)(v:Int):xh (ds.map dEn) (.inr k) (.i v) =(putD ds k v).map dEn:=by
 unfold xh putD;rw[Pz]
 split
 ·rw[List.map_map,List.map_map]
  apply List.map_congr_left
  intro p _;show(if(Sum.inr p.1:Key) = .inr k then((Sum.inr p.1:Key),T.i v)else dEn p)=dEn (if p.1=k then(p.1,v)else p)
  by_cases h:p.1=k
  ·rw[if_pos (congrArg Sum.inr h),if_pos h];rfl
  ·rw[if_neg fun z=>h (Sum.inr.inj z),if_neg h]
 ·rw[List.map_append];rfl
theorem iY{ds:Ds}{k:Str}{v:Int}(h:lk ds k=some v):(k,v)∈ds:=by
 unfold lk at h;obtain⟨p,hp,rfl⟩:=Option.map_eq_some_iff.mp h;have h1:=List.mem_of_find?_eq_some hp;have h2:=List.find?_some hp;have h2:p.1=k:=by simpa using h2
 rw[<- h2];exact h1
theorem CZ{ds:Ds}{k:Str}(h:lk ds k=none):∀ p∈ds,p.1≠k:=by
 unfold lk at h;intro p hp e
 have:=List.find?_eq_none.mp (Option.map_eq_none_iff.mp h) p hp
 exact this (decide_eq_true e)
theorem Cb{ds:Ds}{k:Str}:(ds.any fun p=>decide (p.1=k)) =(lk ds k).isSome:=by
 cases h:lk ds k with
 | none =>
  rw[Option.isSome_none,List.any_eq_false];exact fun p hp=>by simpa using CZ h p hp
 | some v =>
  rw[Option.isSome_some,List.any_eq_true];exact⟨_,iY h,by simp⟩
theorem sM{ds:Ds}{k f:Str}{v:Int}:lk (putD ds k v) f=if f=k then some v else lk ds f:=by
 unfold putD
 split
 ·rename_i h;by_cases e:f=k
  ·subst e;rw[if_pos rfl];unfold lk
   induction ds with
   | nil=>cases h
   | cons p r ih =>
    by_cases hp:p.1=f
    ·simp[hp]
    ·rw[List.any_cons,decide_eq_false hp,Bool.false_or]at h
     have:=ih h
     simp only[List.map_cons,if_neg hp,List.find?_cons,decide_eq_false hp];exact this
  ·rw[if_neg e];unfold lk;clear h
   induction ds with
   | nil=>rfl
   | cons p r ih =>
    by_cases hp:p.1=k
    ·have h1:¬ k=f:=fun z=>e z.symm
     simp only[List.map_cons,hp,if_pos,List.find?_cons,decide_eq_false h1];exact ih
    ·by_cases hf:p.1=f
     ·simp[hp,hf,e]
     ·simp only[List.map_cons,if_neg hp,List.find?_cons,decide_eq_false hf];exact ih
 ·rename_i h;have h':lk ds k=none:=by
   rw[Cb]at h;cases g:lk ds k with
   | none=>rfl
   | some _=>rw[g]at h;exact absurd rfl h
  unfold lk at h' ⊢;rw[List.find?_append];by_cases e:f=k
  ·subst e;rw[if_pos rfl,Option.map_eq_none_iff.mp h'];simp
  ·rw[if_neg e];have h1:¬ k=f:=fun z=>e z.symm
   cases g:List.find? (fun p=>decide (p.1=f)) ds with
   | none=>simp[h1]
   | some p=>rfl
def cN(ds:Ds)(fs:List Str):Int:=(fs.map fun f=>(lk ds f).getD 0).sum
def bnd:Nat->Int
 | 0=>0
 | n+1=>1+4*bnd n
theorem yp:∀ n,0<=bnd n
 | 0=>Int.le_refl _
 | n+1=>by have:=yp n;show 0<=1+4*bnd n;omega
theorem Px(n:Nat):bnd n<=bnd (n+1):=by have:=yp n;show _<=1+4*bnd n;omega
theorem B8:∀{n m:Nat},n<=m->bnd n<=bnd m
 | n,0,h=>by rw[Nat.le_zero.mp h];exact Int.le_refl _
 | n,m+1,h=>by
  by_cases e:n=m+1
  ·rw[e];exact Int.le_refl _
  ·exact Int.le_trans (B8 (by omega)) (Px m)
theorem Cv{ds ds':Ds}:∀{fs:List Str},(∀ f∈fs,(lk ds' f).getD 0 <=(lk ds f).getD 0)->cN ds' fs<=cN ds fs
 | [],_=>Int.le_refl _
 | f::fs,h=>by
  have h1:=h f (by simp)
  have h2:=Cv (ds:=ds) (ds':=ds') (fs:=fs) fun g hg=>h g (by simp[hg])
  unfold cN at *;simp only[List.map_cons,List.sum_cons];omega
theorem Cw{ds:Ds}{b:Int}:∀{fs:List Str},(∀ f∈fs,0 <=(lk ds f).getD 0/\(lk ds f).getD 0<=b)->0<=cN ds fs/\cN ds fs<=fs.length*b
 | [],_=>by simp[cN]
 | f::fs,h=>by
  have h1:=h f (by simp)
  have h2:=Cw (ds:=ds) (b:=b) (fs:=fs) fun g hg=>h g (by simp[hg])
  unfold cN at *;simp only[List.map_cons,List.sum_cons,List.length_cons]
  have:((fs.length+1:Nat):Int)*b=fs.length*b+b:=by rw[Int.natCast_add,Int.add_mul];simp
  omega
structure jI(ks:List Kd)(ds:Ds):Prop where
 nd:(ds.map (·.1)).Nodup
 sub:∀ p∈ds,p.1∈ks.map (·.1)
 bd:∀ p∈ds,1<=p.2/\p.2<=bnd ds.length
 wt:∀ k v,lk ds k=some v->∃ m∈cK ks k,(∀ f∈m.2,(lk ds f).isSome=true)/\1+cN ds m.2<=v
theorem jI.nil(ks:List Kd):jI ks []:=⟨List.nodup_nil,by simp,by simp,fun k v h=>by cases h⟩
theorem jI.bds{ks:List Kd}{ds:Ds}(h:jI ks ds)(f:Str):0 <=(lk ds f).getD 0/\(lk ds f).getD 0<=bnd ds.length:=by
 cases e:lk ds f with
 | none=>exact⟨Int.le_refl _,yp _⟩
 | some v=>have:=h.bd _ (iY e);exact⟨by show 0<=v;omega,this.2⟩
theorem jI.sum{ks:List Kd}{ds:Ds}(h:jI ks ds)(fs:List Str):0<=cN ds fs/\cN ds fs<=fs.length*bnd ds.length:=Cw fun f _=>h.bds f
theorem zi{ds:Ds}{k:Str}{v:Int}:(putD ds k v).length=if(lk ds k).isSome=true then ds.length else ds.length+1:=by
 unfold putD;rw[Cb]
 split <;> simp
theorem vO{ds:Ds}{k:Str}{v:Int}:(putD ds k v).map (·.1)=if(lk ds k).isSome=true then ds.map (·.1)else ds.map (·.1) ++ [k]:=by
 unfold putD;rw[Cb]
 split
 ·rw[List.map_map]
  apply List.map_congr_left
  intro p _;show(if p.1=k then(p.1,v)else p).1=p.1
  split <;> rfl
 ·simp
theorem jI.put{ks:List Kd}{ds:Ds}(h:jI ks ds){k:Str}{m:Mk1}(hk:k∈ks.map (·.1))(hm:m∈cK ks k)(h4:m.2.length<=4)(hf:∀ f∈m.2,(lk ds f).isSome=true){v:Int}(hv:v=min ((lk ds k).getD (1+cN ds m.2)) (1+cN ds m.2)):jI ks (putD ds k v):=by
 have hs:=h.sum m.2;have v1:1<=v:=by
  rw[hv];cases e:lk ds k with
  | none=>show 1<=min (1+cN ds m.2) _;omega
  | some u=>have:=h.bd _ (iY e);show 1<=min u _;have:=this.1;simp only at this;omega
 have v2:v<=1+cN ds m.2:=by rw[hv];exact Int.min_le_right _ _
 have v3:∀ u,lk ds k=some u->v<=u:=fun u e=>by rw[hv,e];exact Int.min_le_left _ _
 have vb:v<=bnd (putD ds k v).length:=by
  rw[zi];cases e:lk ds k with
  | none =>
   rw[if_neg (by simp)]
   show v<=1+4*bnd ds.length
   have:(m.2.length:Int)*bnd ds.length<=4*bnd ds.length:=Int.mul_le_mul_of_nonneg_right (by omega) (yp _)
   omega
  | some u =>
   rw[if_pos (by rfl)]
   have:=h.bd _ (iY e)
   have:=v3 u e
   have:=this
   have q:=(h.bd _ (iY e)).2;simp only at q;omega
 have lb:bnd ds.length<=bnd (putD ds k v).length:=B8 (by rw[zi];split <;> omega)
 have low:∀ fs:List Str,(∀ f∈fs,(lk ds f).isSome=true)->cN (putD ds k v) fs<=cN ds fs:=fun fs hfs=>Cv fun f hf'=>by
  rw[sM]
  split
  ·rename_i e;subst e;obtain⟨u,hu⟩:=Option.isSome_iff_exists.mp (hfs f hf');rw[hu];exact v3 u hu
  ·exact Int.le_refl _
 have Cy:∀ f,(lk ds f).isSome=true ->(lk (putD ds k v) f).isSome=true:=fun f hf'=>by
  rw[sM]
  split
  ·rfl
  ·exact hf'
 refine⟨?_,?_,?_,?_⟩
 ·rw[vO];cases e:lk ds k with
  | none =>
   rw[if_neg (by simp)]
   refine List.nodup_append.mpr ⟨h.nd,by simp,fun a ha b hb=>?_⟩
   rw[List.mem_singleton.mp hb];obtain⟨p,hp,rfl⟩:=List.mem_map.mp ha;exact CZ e p hp
  | some u=>rw[if_pos (by rfl)];exact h.nd
 ·intro p hp
  have:p.1∈(putD ds k v).map (·.1):=List.mem_map.mpr ⟨p,hp,rfl⟩
  rw[vO]at this
  split at this
  ·obtain⟨q,hq,e⟩:=List.mem_map.mp this;rw[<- e];exact h.sub q hq
  ·rcases List.mem_append.mp this with z|z
   ·obtain⟨q,hq,e⟩:=List.mem_map.mp z;rw[<- e];exact h.sub q hq
   ·rw[List.mem_singleton.mp z];exact hk
 ·intro p hp;have z:p.2=v\/p∈ds:=by
   unfold putD at hp
   split at hp
   ·obtain⟨q,hq,rfl⟩:=List.mem_map.mp hp
    split
    ·exact .inl rfl
    ·exact .inr hq
   ·rcases List.mem_append.mp hp with z|z
    ·exact .inr z
    ·rw[List.mem_singleton.mp z];exact .inl rfl
  rcases z with z|z
  ·rw[z];exact⟨v1,vb⟩
  ·have:=h.bd p z
   exact⟨this.1,Int.le_trans this.2 lb⟩
 ·intro k' u hu;rw[sM]at hu;by_cases e:k'=k
  ·rw[if_pos e]at hu;cases hu;subst e;cases g:lk ds k' with
   | none =>
    have hvv:v=1+cN ds m.2:=by rw[hv,g];show min (1+cN ds m.2) (1+cN ds m.2)=_;omega
    have:=low m.2 hf
    exact⟨m,hm,fun f hf'=>Cy f (hf f hf'),by omega⟩
   | some w =>
    by_cases c:w<=1+cN ds m.2
    ·obtain⟨m',hm',hf',hs'⟩:=h.wt k' w g
     have:=low m'.2 hf'
     exact⟨m',hm',fun f Pg=>Cy f (hf' f Pg),by rw[hv,g]at *;show _<=min w _;omega⟩
    ·have:=low m.2 hf
     exact⟨m,hm,fun f hf'=>Cy f (hf f hf'),by rw[hv,g]at *;show _<=min w _;omega⟩
  ·rw[if_neg e]at hu;obtain⟨m',hm',hf',hs'⟩:=h.wt k' u hu
   have:=low m'.2 hf'
   exact⟨m',hm',fun f Pg=>Cy f (hf' f Pg),by omega⟩
theorem jI.len{ks:List Kd}{ds:Ds}(h:jI ks ds)(g:c5 ks):ds.length<=3:=by
 have:(ds.map (·.1)).length <=(ks.map (·.1)).length:=Em h.nd fun x hx=>by obtain⟨p,hp,rfl⟩:=List.mem_map.mp hx;exact h.sub p hp
 have:=g.k2
 simp only[List.length_map]at *;omega
def Zd(ds:Ds)(k:Str)(m:Mk1):Prop:=m.2 = [] ->(lk ds k).isSome=true
theorem Zd.put{ds:Ds}{k:Str}{m:Mk1}(h:Zd ds k m)(k':Str)(v:Int):Zd (putD ds k' v) k m:=fun e=>by
 rw[sM]
 split
 ·rfl
 ·exact h e
inductive G6(ts:List T)(Q:T->Prop):Prop
 | mk(ks:List Kd)(h1:ts = [tKs ks])(h2:c5 ks)(h3:∀ ds,jI ks ds ->(∀ kd∈ks,∀ m∈kd.2,Zd ds kd.1 m)->Q (dT ds))
theorem zD{ks:List Kd}{i:Nat}{kd:Kd}(g:(ks.map (·.1)).Nodup)(h:ks[i]? = some kd):cK ks kd.1=kd.2:=by
 refine CV h rfl fun j y hj hy e=>?_
 have h1:(ks.map (·.1))[i]? = some kd.1:=by rw[List.getElem?_map,h];rfl
 have h2:(ks.map (·.1))[j]? = some kd.1:=by rw[List.getElem?_map,hy,<- e];rfl
 obtain⟨l1,e1⟩:=List.getElem?_eq_some_iff.mp h1;obtain⟨l2,e2⟩:=List.getElem?_eq_some_iff.mp h2;exact List.pairwise_iff_getElem.mp g j i l2 l1 hj (by rw[e1,e2])
theorem OO(a b:Int):min a b=if b<a then b else a:=by
 rw[Int.min_def]
 split <;> split <;> omega
theorem Qc{f:Int->Int->Int}{y:T}{u n:Int}{Q:T->Prop}(h:y = .i u)(hq:Q (.i (f u n))):qI2 f [y,.i n] Q:=by subst h;exact hq
theorem NR{a b:Int}{Q:T->Prop}(h:Q (.i (a+b))):DT (.i a) (.i b) Q:=h
theorem O8(ds:Ds):T.imk (ds.map dEn)=true:=by
 induction ds with
 | nil=>rfl
 | cons p r ih=>show(_&&_)=true;rw[ih];rfl
theorem DS{f:Int->Int->Int}{D:iG}{q:Sq}{ds:Ds}{k:Str}{n v:Int}(h1:q[1]? = some (.o (dT ds)))(h3:q[3]? = some (.r (.s k)))(h7:q[7]? = some (.o (.i n)))(hl:ds.length<sizeLine)(hv:v=f ((lk ds k).getD n) n)(hq:D.nx (q.set 1 (.o (dT (putD ds k v))))) :
  GP 1 (rZ 3) (qCB (qI2 f) (pO (GQ (rZ 1) (rZ 3) (rZ 7)) (pO (rZ 7) N6))) D q:=by
 unfold dT at h1;simp only[GP,qCB,pO,N6,GQ,rZ,h1,h3,h7];refine Qc (u:=(lk ds k).getD n) (by rw[f9];cases lk ds k <;> rfl) ?_
 refine⟨by rw[List.length_map];exact hl,O8 ds,rfl,?_⟩
 rw[Oc,<- hv];exact hq
theorem yq{α:Type}(f:α->Bool):∀ xs:List α,bls (xs.map fun x=>T.b (f x))=some (xs.map f)
 | []=>rfl
 | x::r=>by show(bls (r.map fun x=>T.b (f x))).map (f x :: ·)=_;rw[yq f r];rfl
theorem ins_map{α:Type}(f:α->Int):∀ xs:List α,ins (xs.map fun x=>T.i (f x))=some (xs.map f)
 | []=>rfl
 | x::r=>by show(ins (r.map fun x=>T.i (f x))).map (f x :: ·)=_;rw[ins_map f r];rfl
theorem never{P:Program}{w:World}{K:W.Frag}{mg:Str->Option Value}{base:Heap}{CX:CXT}{k:Nat}{f:Addr}{fd:FuncData}{ps:List Str}{sp:PSp}(h:∀ ts Q,¬ sp ts Q):bG P w K mg base CX k f fd ps (spQ K sp) :=
 ⟨fun _ _ _ _ hz=>by obtain⟨_,ts,_,Qp,_,_,z,_⟩:=hz;exact(h ts Qp z).elim,fun _ _ _ _ _ _ _ _ _ _ _ _ _ hz=>by obtain⟨_,ts,_,Qp,_,_,z,_⟩:=hz;exact(h ts Qp z).elim⟩
def kEn(k:Kd):Key×T:=(.inr k.1,tMs k.2)
theorem sx:∀ ks:List Kd,jR (ks.map tK)=some (ks.map kEn)
 | []=>rfl
 | k::r=>by
  show(match(some (.inr k.1):Option Key),jR (r.map tK)with|some k',some r=>some ((k',tMs k.2)::r) | _,_=>none)=_
  rw[sx r];rfl
theorem zG:∀{ps acc:List (Key×T)},(ps.map (·.1)).Nodup ->(∀ p∈ps,∀ q∈acc,q.1≠p.1)->fh acc ps=acc++ps
 | [],acc,_,_=>by simp[fh]
 | p::ps,acc,h,hd=>by
  have h':=List.nodup_cons.mp h;have e:xh acc p.1 p.2=acc ++ [p]:=by
   unfold xh;rw[if_neg];intro z;obtain⟨q,hq,hz⟩:=List.any_eq_true.mp z;exact hd p (by simp) q hq (of_decide_eq_true hz)
  show fh (xh acc p.1 p.2) ps=_;rw[e,zG h'.2 fun p' hp' q hq=>?_]
  ·simp
  ·rcases List.mem_append.mp hq with z|z
   ·exact hd p' (by simp[hp']) q z
   ·rw[List.mem_singleton.mp z];exact fun e=>h'.1 (List.mem_map.mpr ⟨p',hp',e.symm⟩)
theorem LG{ks:List Kd}{k:Str}(h:k∈ks.map (·.1)):dA (ks.map kEn) (.inr k)=some (tMs (cK ks k)):=by
 unfold dA cK
 induction ks with
 | nil=>cases h
 | cons x r ih =>
  by_cases e:x.1=k
  ·rw[List.map_cons,List.find?_cons,List.find?_cons,show(kEn x).1 = .inr x.1 from rfl,xT,decide_eq_true e];rfl
  ·have h':k∈r.map (·.1):=by
    rcases List.mem_cons.mp h with z|z
    ·exact absurd z.symm e
    ·exact z
   rw[List.map_cons,List.find?_cons,List.find?_cons,show(kEn x).1 = .inr x.1 from rfl,xT,decide_eq_false e];exact ih h'
theorem Mg{ks:List Kd}(h:(ks.map (·.1)).Nodup):fh [] (ks.map kEn)=ks.map kEn:=by
 rw[zG]
 ·rfl
 ·rw[List.map_map]
  have:(ks.map ((fun x:Key×T=>x.1) ∘ kEn)) =(ks.map (·.1)).map Sum.inr:=by rw[List.map_map];rfl
  rw[this];exact List.pairwise_map.mpr (h.imp fun hne z=>hne (Sum.inr.inj z))
 ·intro p _ q hq;cases hq
theorem vY{ks:List Kd}{k:Str}(g:(ks.map (·.1)).Nodup)(h:k∈ks.map (·.1)):dA (fh [] (ks.map kEn)) (.inr k)=some (tMs (cK ks k)):=by rw[Mg g,LG h]
def due(ks:List Kd)(k:Str)(x:T)(n:Nat):Option (List Str):=((cK ks k).find? fun m=>decide (V.str m.1=x.v)&&decide (m.2.length=n)).map (·.2)
def isN(ks:List Kd):Nat->Str->T->Bool
 | 0,_,_=>false
 | n+1,k,.t [x,.t ps]=>match due ks k x ps.length with
  | some fs=>(fs.zip ps).all fun p=>isN ks n p.1 p.2
  | none=>false
 | _+1,_,_=>false
def wt:Nat->T->Nat
 | 0,_=>1
 | n+1,.t [_,.t ps]=>1+(ps.map (wt n)).sum
 | _+1,_=>1
def Ok:Nat->T->Prop
 | 0,t=>t.im=true/\t.tyN.isSome=true/\(∀ x y,t = .t [x,y]->y.tyN.isSome=true)/\∀ x ps,t ≠ .t [x,.t ps]
 | n+1,t=>t.im=true/\t.tyN.isSome=true/\(∀ x y,t = .t [x,y]->y.tyN.isSome=true)/\∀ x ps,t = .t [x,.t ps]->x.fl=true/\ps.length<=9000/\∀ p∈ps,Ok n p
inductive KN(n:Nat)(ts:List T)(Q:T->Prop):Prop
 | mk(ks:List Kd)(ds:Ds)(k:Str)(room v:Int)(h1:ts = [.jc,tKs ks,dT ds,.s k,.i room])(h2:c5 ks)(h3:jI ks ds)(h4:lk ds k=some v)(h5:v<=room)(h6:room<=n)(h7:room<=1000)(h8:∀ t,isN ks n k t=true->Ok n t ->(wt n t:Int)<=room->Q t)
def gp(ds:Ds)(room:Int)(m:Mk1):Bool:=(m.2.map fun f=>(lk ds f).isSome).all id&&decide (1+cN ds m.2<=room)
theorem cQ{α:Type}{xs:List α}{i:Nat}{x:α}(h:xs[i]? = some x):xs.take (i+1)=xs.take i ++ [x]:=by rw[List.take_add_one,h];rfl
theorem nt{ks:List Kd}{k:Str}{m:Mk1}(h:m∈cK ks k):∃ kd∈ks,kd.1=k/\cK ks k=kd.2:=by
 unfold cK at h ⊢
 split at h
 ·rename_i x hx;have h2:=List.find?_some hx;exact⟨x,List.mem_of_find?_eq_some hx,by simpa using h2,rfl⟩
 ·cases h
theorem c5.ma{ks:List Kd}(g:c5 ks){k:Str}{m:Mk1}(h:m∈cK ks k):m.2.length<=4/\(∀ f∈m.2,f∈ks.map (·.1))/\(cK ks k).length<=6:=by
 obtain⟨kd,hk,_,e⟩:=nt h;rw[e]at h ⊢;exact⟨(g.fl kd hk m h).1,(g.fl kd hk m h).2,(g.ne kd hk).2⟩
theorem sH:∀{ks:List Kd}{kd:Kd},kd∈ks ->(names ks).Nodup ->(kd.2.map (·.1)).Nodup
 | a::r,kd,h,hn=>by
  have hn:(a.2.map (·.1)++names r).Nodup:=hn;rcases List.mem_cons.mp h with rfl|h
  ·exact(List.nodup_append.mp hn).1
  ·exact sH h (List.nodup_append.mp hn).2.1
theorem map_inj{ms:List Mk1}(h:(ms.map (·.1)).Nodup){m m':Mk1}(h1:m∈ms)(h2:m'∈ms)(e:m.1=m'.1):m=m':=by
 induction ms with
 | nil=>cases h1
 | cons a r ih =>
  have h:(a.1::r.map (·.1)).Nodup:=h;have h':=List.nodup_cons.mp h;rcases List.mem_cons.mp h1 with e1|h1
  ·rcases List.mem_cons.mp h2 with e2|h2
   ·rw[e1,e2]
   ·exact absurd (List.mem_map.mpr ⟨m',h2,by rw[<- e,e1]⟩) h'.1
  ·rcases List.mem_cons.mp h2 with e2|h2
   ·exact absurd (List.mem_map.mpr ⟨m,h1,by rw[e,e2]⟩) h'.1
   ·exact ih h'.2 h1 h2
theorem x8{ks:List Kd}(g:c5 ks){k:Str}{m:Mk1}(h:m∈cK ks k):due ks k (.s m.1) m.2.length=some m.2:=by
 unfold due;obtain⟨kd,hk,_,e⟩:=nt h;rw[e]at h ⊢;have hn:=sH hk g.mn;cases c:List.find? (fun m'=>decide (V.str m'.1 =(T.s m.1).v)&&decide (m'.2.length=m.2.length)) kd.2 with
 | none =>
  have:=List.find?_eq_none.mp c m h
  exact absurd (by simp[T.v]) this
 | some m' =>
  have h2:=List.find?_some c;rw[Bool.and_eq_true]at h2
  have:m'.1=m.1:=V.str.inj (of_decide_eq_true h2.1)
  rw[map_inj hn (List.mem_of_find?_eq_some c) h this];rfl
theorem DE{ds:Ds}{fs:List Str}{i:Nat}{f:Str}(h:fs[i]? = some f):cN ds (fs.take (i+1))=cN ds (fs.take i)+(lk ds f).getD 0:=by
 rw[cQ h];simp[cN]
theorem pM{ks:List Kd}{ds:Ds}(hI:jI ks ds):∀(fs:List Str)(i:Nat),cN ds (fs.take i)<=cN ds fs
 | [],i=>by simp
 | f::fs,0=>by have:=(hI.sum (f::fs)).1;simpa [cN]using this
 | f::fs,i+1=>by
  have:=pM hI fs i
  unfold cN at *;simp only[List.take_succ_cons,List.map_cons,List.sum_cons];omega
theorem FV{n:Nat}{ps:List T}{t:T}:((ps ++ [t]).map (wt n)).sum =(ps.map (wt n)).sum+wt n t:=by simp
theorem eD{ps:List T}(h:∀ p∈ps,p.im=true):T.ims ps=true:=by
 induction ps with
 | nil=>rfl
 | cons p r ih=>show(_&&_)=true;rw[h p (by simp),ih fun q hq=>h q (by simp[hq])];rfl
theorem Ok.im{n:Nat}{t:T}(h:Ok n t):t.im=true:=by cases n <;> exact h.1
theorem Ok.ty{n:Nat}{t:T}(h:Ok n t):t.tyN.isSome=true:=by cases n <;> exact h.2.1
theorem Ok.ty2{n:Nat}{x y:T}(h:Ok n (.t [x,y])):y.tyN.isSome=true:=by cases n <;> exact h.2.2.1 x y rfl
theorem Ok.pr{n:Nat}{x:T}{ps:List T}(h:Ok n (.t [x,.t ps])):∃ n',n=n'+1/\x.fl=true/\ps.length<=9000/\∀ p∈ps,Ok n' p:=by
 cases n with
 | zero=>exact absurd rfl (h.2.2.2 x ps)
 | succ n=>exact⟨n,rfl,h.2.2.2 x ps rfl⟩
theorem C9{α:Type}{p:α->Bool}:∀{xs:List α}{i:Nat}{x:α},xs[i]? = some x->p x=true ->(∀(j:Nat) y,j<i->xs[j]? = some y->p y=false)->xs.find? p=some x
 | [],_,_,h,_,_=>by simp at h
 | a::r,0,x,h,hp,_=>by
  have:a=x:=by simpa using h
  subst this;rw[List.find?_cons,hp]
 | a::r,i+1,x,h,hp,hn=>by
  have:=hn 0 a (by omega) rfl
  rw[List.find?_cons,this];exact C9 (by simpa using h) hp fun j y hj hy=>hn (j+1) y (by omega) (by simpa using hy)
theorem Mc{α:Type}{p:α->Bool}{xs:List α}(hn:∀(j:Nat) y,xs[j]? = some y->p y=false):xs.find? p=none:=by
 rw[List.find?_eq_none];intro x hx;obtain⟨j,hj⟩:=List.getElem?_of_mem hx;rw[hn j x hj];exact Bool.false_ne_true
theorem Ks{x:T}{m:Str}(h:x.fl=true):((T.s m).fl&&x.fl&&Gq (T.s m).v x.v)=true:=by cases x <;> first|rfl|cases h
def qI(ks:List Kd)(k:Str):T->Option (List Str)
 | .t [x,.t ps]=>due ks k x ps.length
 | _=>none
theorem IZ{ks:List Kd}{k:Str}{xs:List T}(h:¬ xs.length=2):qI ks k (.t xs)=none:=by
 unfold qI
 split
 ·rename_i e;cases e;exact absurd rfl h
 ·rfl
def oT:Option (List Str)->T
 | some fs=>.t (fs.map .s)
 | none=>.n
inductive Q6(ts:List T)(Q:T->Prop):Prop
 | mk(ks:List Kd)(k:Str)(n:Nat)(t:T)(h1:ts = [tKs ks,.s k,t])(h2:Ok n t)(h3:Q (oT (qI ks k t)))
theorem kJ{ks:List Kd}{n:Nat}{k:Str}{x:T}{ps:List T}:isN ks (n+1) k (.t [x,.t ps])=match due ks k x ps.length with|some fs=>(fs.zip ps).all fun p=>isN ks n p.1 p.2|none=>false:=rfl
theorem LR{ks:List Kd}{n:Nat}{k:Str}{t:T}(h:∀ x ps,t ≠ .t [x,.t ps]):isN ks n k t=false:=by
 unfold isN
 split
 ·rfl
 ·exact absurd rfl (h _ _)
 ·rfl
inductive Q5(ts:List T)(Q:T->Prop):Prop
 | mk(ks:List Kd)(k:Str)(n:Nat)(t:T)(h1:ts = [tKs ks,.s k,t])(h2:c5 ks)(h3:k∈ks.map (·.1))(h4:Ok n t)(h5:wt n t<=9000)(h6:Q (.b (isN ks n k t)))
abbrev Wt:=Str×Nat×T
def wT(w:Wt):T:=.t [.s w.1,w.2.2]
def wW(ws:List Wt):Nat:=(ws.map fun w=>wt w.2.1 w.2.2).sum
def wB(ks:List Kd)(ws:List Wt):Bool:=ws.all fun w=>isN ks w.2.1 w.1 w.2.2
theorem FA(n:Nat)(t:T):1<=wt n t:=by
 unfold wt
 split <;> omega
theorem FD:∀ ws:List Wt,ws.length<=wW ws
 | []=>Nat.le_refl _
 | w::r=>by
  have:=FD r
  have:=FA w.2.1 w.2.2
  unfold wW at *;simp only[List.map_cons,List.sum_cons,List.length_cons];omega
theorem FE(a b:List Wt):wW (a++b)=wW a+wW b:=by simp[wW]
theorem FC(n:Nat):∀(fs:List Str)(ps:List T),wW ((fs.zip ps).map fun p=>(p.1,n,p.2)) <=(ps.map (wt n)).sum
 | [],ps=>by simp[wW]
 | f::fs,[]=>by simp[wW]
 | f::fs,p::ps=>by
  have:=FC n fs ps
  unfold wW at *;simp only[List.zip_cons_cons,List.map_cons,List.sum_cons];omega
theorem Nj(n:Nat)(fs:List Str)(ps:List T):AJ (fs.map .s) ps =((fs.zip ps).map fun p=>(p.1,n,p.2)).map wT:=by
 unfold AJ;rw[List.map_map,List.zip_map_left,List.map_map];rfl
theorem FG(ks:List Kd)(a b:List Wt):wB ks (a++b) =(wB ks a&&wB ks b):=by simp[wB]
theorem Nl(ks:List Kd)(n:Nat)(fs:List Str)(ps:List T):wB ks ((fs.zip ps).map fun p=>(p.1,n,p.2)) =(fs.zip ps).all fun p=>isN ks n p.1 p.2:=by
 unfold wB;rw[List.all_map];rfl
theorem zQ{ks:List Kd}{n:Nat}{k:Str}{t:T}(h:qI ks k t=none):isN ks n k t=false:=by
 unfold qI at h
 split at h
 ·cases n with
  | zero=>rfl
  | succ n=>rw[kJ,h]
 ·rename_i hn;exact LR fun x ps e=>hn x ps e
theorem v9{ks:List Kd}{k:Str}{t:T}{fs:List Str}(h:qI ks k t=some fs):∃ x ps,t = .t [x,.t ps]/\due ks k x ps.length=some fs:=by
 unfold qI at h
 split at h
 ·exact⟨_,_,rfl,h⟩
 ·cases h
theorem x9{ks:List Kd}{k:Str}{x:T}{l:Nat}{fs:List Str}(h:due ks k x l=some fs):∃ m∈cK ks k,m.2=fs/\fs.length=l/\V.str m.1=x.v:=by
 unfold due at h;obtain⟨m,hm,rfl⟩:=Option.map_eq_some_iff.mp h;have h2:=List.find?_some hm;rw[Bool.and_eq_true]at h2;exact⟨m,List.mem_of_find?_eq_some hm,rfl,of_decide_eq_true h2.2,of_decide_eq_true h2.1⟩
theorem Ok.mkp{n:Nat}{x:T}{ps:List T}(hx:x.fl=true)(hl:ps.length<=9000)(h:∀ p∈ps,Ok n p):Ok (n+1) (.t [x,.t ps]):=by
 refine⟨?_,rfl,fun _ _ e=>by cases e;rfl,fun _ _ e=>by cases e;exact⟨hx,hl,h⟩⟩
 have h1:x.im=true:=by cases x <;> first|rfl|cases hx
 simp[T.im,T.ims,h1,eD fun p hp=>(h p hp).im]
theorem Ok.up:∀{n:Nat}{t:T},Ok n t->Ok (n+1) t
 | 0,_,h=>⟨h.1,h.2.1,h.2.2.1,fun x ps e=>absurd e (h.2.2.2 x ps)⟩
 | n+1,_,h=>⟨h.1,h.2.1,h.2.2.1,fun x ps e=>let z:=h.2.2.2 x ps e;⟨z.1,z.2.1,fun p hp=>(z.2.2 p hp).up⟩⟩
theorem wH{n:Nat}{t:T}(h4:∀ x ps,t ≠ .t [x,.t ps]):wt n t=1:=by
 unfold wt
 split
 ·rfl
 ·exact absurd rfl (h4 _ _)
 ·rfl
theorem Ok.wt:∀{n:Nat}{t:T},Ok n t->K15.wt (n+1) t=K15.wt n t
 | 0,_,h=>by rw[wH h.2.2.2,wH h.2.2.2]
 | n+1,t,h=>by
  by_cases e:∃ x ps,t = .t [x,.t ps]
  ·obtain⟨x,ps,rfl⟩:=e;have hp:=(h.2.2.2 x ps rfl).2.2;show 1+(ps.map (K15.wt (n+1))).sum=1+(ps.map (K15.wt n)).sum;rw[List.map_congr_left fun p hp'=>(hp p hp').wt]
  ·have e:∀ x ps,t ≠ .t [x,.t ps]:=fun x ps z=>e ⟨x,ps,z⟩
   rw[wH e,wH e]
theorem dR{ks:List Kd}{n:Nat}{k:Str}{t:T}(h:isN ks n k t=true):∃(n':Nat)(m:Mk1)(ps:List T),n=n'+1/\t = .t [.s m.1,.t ps]/\m∈cK ks k/\m.2.length=ps.length/\∀(j:Nat) f p,m.2[j]? = some f->ps[j]? = some p->isN ks n' f p=true:=by
 cases hd:qI ks k t with
 | none=>rw[zQ hd]at h;cases h
 | some fs =>
  obtain⟨x,ps,rfl,hdu⟩:=v9 hd;obtain⟨m,hm,rfl,hml,hx⟩:=x9 hdu;cases n with
  | zero=>cases h
  | succ n =>
   rw[kJ,hdu]at h;refine⟨n,m,ps,rfl,?_,hm,hml,fun j f p hf hp=>?_⟩
   ·cases x <;> first |(cases hx;rfl)|cases hx
   ·exact List.all_eq_true.mp h (f,p) (List.mem_of_getElem? (i:=j) (List.getElem?_zip_eq_some.mpr ⟨hf,hp⟩))
theorem oV:∀{ks:List Kd},(∀ k∈ks,k.2.length<=6) ->(names ks).length<=6*ks.length
 | [],_=>by simp[names]
 | k::r,h=>by
  have h1:=h k (by simp)
  have h2:=oV (ks:=r) fun x hx=>h x (by simp[hx])
  show(k.2.map (·.1)++names r).length<=_;rw[List.length_append,List.length_map,List.length_cons];omega
theorem sG{ks:List Kd}{i:Nat}{kd:Kd}(h:ks[i]? = some kd):names (ks.take (i+1))=names (ks.take i)++kd.2.map (·.1):=by
 rw[cQ h];unfold names;rw[List.flatMap_append];simp
theorem oW{ks:List Kd}{k:Str}{m:Mk1}(h:m∈cK ks k):m.1∈names ks:=by
 obtain⟨kd,hk,_,e⟩:=nt h;rw[e]at h;exact List.mem_flatMap.mpr ⟨kd,hk,List.mem_map.mpr ⟨m,h,rfl⟩⟩
theorem C2{α:Type}(xs:List α)(lo hi:Option Int):(cu xs lo hi).length<=xs.length:=by
 unfold cu;rw[List.length_take,List.length_drop];exact Nat.le_trans (Nat.min_le_right _ _) (Nat.sub_le _ _)
theorem p5{ks:List Kd}{i:Nat}{kd:Kd}(h:ks[i]? = some kd)(p:Str->Bool):(((ks.take (i+1)).map (·.1)).filter p) =((ks.take i).map (·.1)).filter p++if p kd.1=true then [kd.1]else []:=by
 rw[cQ h,List.map_append,List.filter_append]
 congr 1
 by_cases e:p kd.1=true
 ·rw[if_pos e,List.map_singleton,List.filter_cons_of_pos e];rfl
 ·rw[if_neg e,List.map_singleton,List.filter_cons_of_neg e];rfl
def fnd(ds:Ds)(k:Str):Bool:=(lk ds k).isSome
def a6(i:Nat):Str:=if i=0 then "(" else ","
def tell:Nat->T->List Str
 | _,.s x=>[x]
 | n+1,.t [.s m,.t ps]=>m ::((ps.zipIdx.flatMap fun p=>a6 p.2::tell n p.1)++(if ps.isEmpty then []else [(")":Str)]))
 | _,_=>[]
def Vd:Nat->T->Prop
 | 0,_=>False
 | n+1,t=>∃(m:Str)(ps:List T),t = .t [.s m,.t ps]/\1<=m.length/\m.length<=20/\ps.length<=4/\∀ p∈ps,Vd n p
def mu:Nat->T->Nat
 | n+1,.t [.s _,.t ps]=>3+(ps.map fun p=>1+mu n p).sum
 | _,_=>1
def unf(m:Str)(ps:List T):List T:=.s m ::((ps.zipIdx.flatMap fun p=>[.s (a6 p.2),p.1])++(if ps.isEmpty then []else [.s ")"]))
theorem wK{n:Nat}{x:Str}:tell n (.s x) = [x]:=by cases n <;> rfl
theorem Vd.im:∀{n:Nat}{t:T},Vd n t->t.im=true
 | 0,_,h=>h.elim
 | n+1,_,h=>by
  obtain⟨m,ps,rfl,_,_,_,hp⟩:=h
  have:T.ims ps=true:=eD fun p hp'=>Vd.im (hp p hp')
  simp[T.im,T.ims,this]
theorem FO{n:Nat}{m:Str}{ps:List T}:(unf m ps).flatMap (tell n)=tell (n+1) (.t [.s m,.t ps]):=by
 show(T.s m::_).flatMap (tell n)=m::_;rw[List.flatMap_cons,wK,List.singleton_append,List.flatMap_append,List.flatMap_assoc]
 congr 2
 ·congr 1
  funext p
  rw[List.flatMap_cons,List.flatMap_cons,wK];simp
 ·split <;> simp[wK]
theorem HS{n:Nat}{t:T}:1<=mu n t:=by
 unfold mu
 split <;> omega
theorem vC{n i:Nat}:∀{ps:List T},(((ps.zipIdx i).flatMap fun p=>[T.s (a6 p.2),p.1]).map (mu n)).sum =(ps.map fun p=>1+mu n p).sum
 | []=>rfl
 | p::r=>by
  have ih:=vC (n:=n) (i:=i+1) (ps:=r);rw[List.zipIdx_cons,List.flatMap_cons,List.map_append,List.sum_append,ih];have e:∀ x,mu n (T.s x)=1:=fun x=>by cases n <;> rfl
  simp[e]
theorem ON{n:Nat}{m:Str}{ps:List T}:((unf m ps).map (mu n)).sum<mu (n+1) (.t [.s m,.t ps]):=by
 have e:∀ x,mu n (T.s x)=1:=fun x=>by cases n <;> rfl
 show((T.s m::_).map (mu n)).sum<3+(ps.map fun p=>1+mu n p).sum
 rw[List.map_cons,List.sum_cons,List.map_append,List.sum_append,vC,e]
 split <;> simp[e] <;> omega
inductive QZ(ts:List T)(Q:T->Prop):Prop
 | mk(m:Str)(ps:List T)(h1:ts = [.t [.s m,.t ps]])(h2:T.ims ps=true)(h3:ps.length<=9000)(h4:Q (.l (unf m ps)))
inductive Oj(ts:List T)(Q:T->Prop):Prop
 | mk(n:Nat)(t:T)(h1:ts = [t])(h2:Vd n t)(h3:mu n t<=9000)(h4:Q (.s (Txt.join "" (tell n t))))
theorem FK{ps:List T}{i:Nat}{p:T}(h:ps[i]? = some p):((ps.take (i+1)).zipIdx.flatMap fun p=>[T.s (a6 p.2),p.1]) =((ps.take i).zipIdx.flatMap fun p=>[T.s (a6 p.2),p.1]) ++ [.s (a6 i),p]:=by
 have hi:i<ps.length:=(List.getElem?_eq_some_iff.mp h).1;rw[List.take_succ,h];show((ps.take i ++ [p]).zipIdx.flatMap _)=_;rw[List.zipIdx_append,List.flatMap_append,List.length_take,Nat.min_eq_left (by omega)]
 simp
theorem x5{i:Nat}:∀{ps:List T},((ps.zipIdx i).flatMap fun p=>[T.s (a6 p.2),p.1]).length=2*ps.length
 | []=>rfl
 | p::r=>by
  have ih:=x5 (i:=i+1) (ps:=r);rw[List.zipIdx_cons,List.flatMap_cons,List.length_append,ih,List.length_cons];simp;omega
theorem MZ{ps:List T}{i:Nat}{p:T}(h:T.ims ps=true)(hp:ps[i]? = some p):p.im=true:=by
 induction ps generalizing i with
 | nil=>simp at hp
 | cons q r ih =>
  have h:(q.im&&T.ims r)=true:=h;rw[Bool.and_eq_true]at h;cases i with
  | zero=>simp at hp;rw[<- hp];exact h.1
  | succ i=>exact ih h.2 (by simpa using hp)
def wS(ws:List (Nat×T)):Nat:=(ws.map fun w=>mu w.1 w.2).sum
theorem AO{ws vs:List (Nat×T)}:wS (ws++vs)=wS ws+wS vs:=by unfold wS;rw[List.map_append,List.sum_append]
theorem FF:∀ ws:List (Nat×T),ws.length<=wS ws
 | []=>Nat.le_refl _
 | w::r=>by
  have:=FF r
  have:=HS (n:=w.1) (t:=w.2)
  show r.length+1<=mu w.1 w.2+wS r;omega
theorem mT:∀{B:List Str},(∀ x∈B,x.length<=20) ->(B.map (·.length)).sum<=20*B.length
 | [],_=>Nat.le_refl _
 | x::r,h=>by
  have:=mT (B:=r) fun y hy=>h y (List.mem_cons_of_mem _ hy)
  have:=h x List.mem_cons_self
  show x.length+(r.map (·.length)).sum<=20*(r.length+1);omega
theorem Cr{m:Str}{ps:List T}{x:T}(h:x∈unf m ps):x = .s m\/(∃ i,x = .s (a6 i))\/x∈ps\/x = .s ")":=by
 unfold unf at h;rcases List.mem_cons.mp h with h|h
 ·exact .inl h
 rcases List.mem_append.mp h with h|h
 ·obtain⟨p,hp,hx⟩:=List.mem_flatMap.mp h;simp only[List.mem_cons,List.not_mem_nil,or_false]at hx;rcases hx with rfl|rfl
  ·exact .inr (.inl ⟨_,rfl⟩)
  ·exact .inr (.inr (.inl (List.fst_mem_of_mem_zipIdx hp)))
 ·split at h
  ·simp at h
  ·exact .inr (.inr (.inr (List.mem_singleton.mp h)))
theorem y7(i:Nat):(a6 i).length<=20:=by
 unfold a6
 split <;> decide +kernel
theorem JY{m:Str}{ps:List T}(h:ps.length<=4):(unf m ps).length<=20:=by
 unfold unf;rw[List.length_cons,List.length_append,x5]
 split <;> simp <;> omega
theorem Ai:∀(r:List Str)(acc:Array Nat),(r.foldl (fun acc p=>acc++(Str.ofString "").cps++p.cps) acc).toList=acc.toList++r.flatMap (·.cps.toList)
 | [],acc=>by simp
 | x::r,acc=>by
  have e:(Str.ofString "").cps = #[]:=by decide +kernel
  rw[List.foldl_cons,Ai r,e];simp
theorem cz(xs:List Str):(Txt.join "" xs).cps.toList=xs.flatMap (·.cps.toList):=by
 cases xs with
 | nil=>rfl
 | cons x r =>
  show((r.foldl (fun acc p=>acc++(Str.ofString "").cps++p.cps) x.cps)).toList=_
  rw[Ai,List.flatMap_cons]
theorem fB{x y:Str}(h:x.cps.toList=y.cps.toList):x=y:=by
 obtain⟨⟨x⟩⟩:=x;obtain⟨⟨y⟩⟩:=y;simp only at h;rw[h]
theorem q5(xs ys:List Str):Txt.join "" (xs++ys)=Txt.join "" xs++Txt.join "" ys:=fB (by rw[cz,Str.cps_append,Array.toList_append,cz,cz,List.flatMap_append])
theorem qZ(x:Str):Txt.join "" [x]=x:=fB (by rw[cz];simp)
theorem yi(xs:List Str):(Txt.join "" xs).length =(xs.map (·.length)).sum:=by
 show(Txt.join "" xs).cps.size=_;rw[<- Array.length_toList,cz,List.length_flatMap];rfl
theorem Nr{n:Nat}:∀{t:T},Vd n t ->(tell n t).length<=mu n t/\∀ x∈tell n t,x.length<=20:=by
 induction n with
 | zero=>intro t h;exact h.elim
 | succ n ih =>
  intro t h;obtain⟨m,ps,rfl,m1,m2,lp,hp⟩:=h;have go:∀(i:Nat)(ps:List T),(∀ p∈ps,Vd n p) ->((ps.zipIdx i).flatMap fun p=>a6 p.2::tell n p.1).length <=(ps.map fun p=>1+mu n p).sum/\∀ x∈(ps.zipIdx i).flatMap fun p=>a6 p.2::tell n p.1,x.length<=20:=by
   intro i ps
   induction ps generalizing i with
   | nil=>intro _;exact⟨Nat.le_refl _,fun x hx=>by simp at hx⟩
   | cons p r ihr =>
    intro hp;obtain⟨a1,a2⟩:=ihr (i+1) fun q hq=>hp q (List.mem_cons_of_mem _ hq)
    obtain⟨b1,b2⟩:=ih (hp p List.mem_cons_self);rw[List.zipIdx_cons,List.flatMap_cons];refine⟨?_,fun x hx=>?_⟩
    ·rw[List.length_append,List.length_cons,List.map_cons,List.sum_cons];dsimp only;omega
    ·rcases List.mem_append.mp hx with z|z
     ·rcases List.mem_cons.mp z with z|z
      ·rw[z];exact y7 _
      ·exact b2 x z
     ·exact a2 x z
  obtain⟨a1,a2⟩:=go 0 ps hp;show(m::_).length<=3+_/\∀ x∈m::_,_
  refine⟨?_,fun x hx=>?_⟩
  ·rw[List.length_cons,List.length_append];have h1:(if ps.isEmpty=true then []else [(")":Str)]).length<=1:=by split <;> simp
   omega
  ·rcases List.mem_cons.mp hx with z|z
   ·rw[z];exact m2
   ·rcases List.mem_append.mp z with z|z
    ·exact a2 x z
    ·split at z
     ·simp at z
     ·rw[List.mem_singleton.mp z];decide +kernel
inductive Oi(n:Nat)(ts:List T)(Q:T->Prop):Prop
 | mk(t:T)(h1:ts = [t])(h2:Vd n t)(h3:mu n t<=900)(h4:Q (.s (Txt.join "" (tell n t))))
theorem LA{n:Nat}{m:Str}{ps:List T}{p:T}(h:p∈ps):mu n p<=mu (n+1) (.t [.s m,.t ps]):=by
 show _<=3+(ps.map fun p=>1+mu n p).sum
 have go:∀{ps:List T},p∈ps->1+mu n p <=(ps.map fun p=>1+mu n p).sum:=by
  intro ps
  induction ps with
  | nil=>intro h;simp at h
  | cons q r ih =>
   intro h;rw[List.map_cons,List.sum_cons];rcases List.mem_cons.mp h with z|z
   ·rw[z];omega
   ·have:=ih z
    omega
 have:=go h
 omega
theorem J0{n:Nat}{ps:List T}{i:Nat}{p:T}(h:ps[i]? = some p):((ps.take (i+1)).zipIdx.flatMap fun p=>a6 p.2::tell n p.1) =((ps.take i).zipIdx.flatMap fun p=>a6 p.2::tell n p.1)++a6 i::tell n p:=by
 have hi:i<ps.length:=(List.getElem?_eq_some_iff.mp h).1;rw[List.take_succ,h];show((ps.take i ++ [p]).zipIdx.flatMap _)=_;rw[List.zipIdx_append,List.flatMap_append,List.length_take,Nat.min_eq_left (by omega)]
 simp
theorem vB{ps:List T}(i:Nat):ps.zipIdx =(ps.take i).zipIdx++(ps.drop i).zipIdx (min i ps.length):=by
 conv=>lhs;rw[<- List.take_append_drop i ps]
 rw[List.zipIdx_append,List.length_take,Nat.zero_add]
theorem G7{n:Nat}{m:Str}{ps:List T}(i:Nat):∃ rest,tell (n+1) (.t [.s m,.t ps]) =(m ::((ps.take i).zipIdx.flatMap fun p=>a6 p.2::tell n p.1))++rest:=by
 refine⟨((ps.drop i).zipIdx (min i ps.length)).flatMap (fun p=>a6 p.2::tell n p.1)++(if ps.isEmpty then []else [(")":Str)]),?_⟩
 show m::_=_;rw[List.cons_append,<- List.append_assoc,<- List.flatMap_append,<- vB]
theorem Pw{xs ys:List Str}:(Txt.join "" xs).length <=(Txt.join "" (xs++ys)).length:=by rw[q5,Str.length_append];omega
theorem Gp(i:Nat):atI (Str.ofString "(,").cps.toList (if(decide ((0:Int)<(i:Nat)))=true then 1 else 0)=some (if i=0 then 40 else 44)/\a6 i =⟨#[if i=0 then 40 else 44]⟩:=by
 by_cases h:i=0
 ·subst h;exact⟨by decide +kernel,by decide +kernel⟩
 ·have h1:(0:Int)<(i:Nat):=by omega
  rw[decide_eq_true h1,if_pos rfl,if_neg h];exact⟨by decide +kernel,by unfold a6;rw[if_neg h];decide +kernel⟩
theorem DQ:gj ")" 1 = ")":=by decide +kernel
theorem Gw(z:Str):gj z 0 = "":=fB (by rw[rS];decide +kernel)
theorem nu{n:Nat}(h:n<=20000):n<=sizeLine:=by rw[sizeLine_eq];omega
theorem E9{n:Nat}{m z:Str}{ps:List T}(hz:z=Txt.join "" (m ::(ps.zipIdx.flatMap fun p=>a6 p.2::tell n p.1))):Txt.join "" (tell (n+1) (.t [.s m,.t ps]))=z++gj ")" (if decide ((0:Int)<(ps.length:Nat))=true then(1:Int)else 0).toNat:=by
 show Txt.join "" (m ::(_++_))=_;rw[<- List.cons_append,q5,<- hz]
 congr 1
 cases ps with
 | nil=>exact(Gw ")").symm
 | cons p r =>
  have h:(0:Int)<(((p::r).length:Nat):Int):=by rw[List.length_cons];omega
  rw[decide_eq_true h,if_pos rfl];show Txt.join "" [(")":Str)]=gj ")" 1;rw[DQ,qZ]
structure Pst where
 word:Str
 ms:List Str
 ly:List (List T)
def addTop(ly:List (List T))(t:T):List (List T):=ly.dropLast ++ [(ly.getLast?.getD []) ++ [t]]
def b8(s:Pst):Pst:=if s.word = "" then s else⟨"",s.ms,addTop s.ly (.t [.s s.word,.t []])⟩
def jg(s:Pst):Pst:=⟨s.word,s.ms.dropLast,addTop s.ly.dropLast (.t [.s (s.ms.getLast?.getD ""),.t (s.ly.getLast?.getD [])])⟩
def bh(s:Pst)(c:Nat):Pst:=if c=40 then⟨"",s.ms ++ [s.word],s.ly ++ [[]]⟩else if c=44 then b8 s else if c=41 then jg (b8 s)else⟨s.word++⟨#[c]⟩,s.ms,s.ly⟩
theorem dj{L:List (List T)}{top:List T}{t:T}:addTop (L ++ [top]) t=L ++ [top ++ [t]]:=by unfold addTop;simp
theorem pP{mk:List Str}{ly:List (List T)}:∀(cs:List Nat)(w:Str),(∀ c∈cs,97<=c/\c<=122)->cs.foldl bh ⟨w,mk,ly⟩ =⟨w++⟨cs.toArray⟩,mk,ly⟩
 | [],w,_=>by
  have e:w++(⟨([]:List Nat).toArray⟩:Str)=w:=fB (by rw[Str.cps_append];simp)
  rw[e];rfl
 | c::cs,w,h=>by
  have hc:=h c List.mem_cons_self;have e:bh ⟨w,mk,ly⟩ c =⟨w++⟨#[c]⟩,mk,ly⟩:=by
   unfold bh;rw[if_neg (by omega),if_neg (by omega),if_neg (by omega)]
  rw[List.foldl_cons,e,pP cs _ fun d hd=>h d (List.mem_cons_of_mem _ hd)]
  congr 1
  exact fB (by simp[Str.cps_append])
theorem zg{mk:List Str}{ly:List (List T)}{m:Str}(h:cP m):m.cps.toList.foldl bh ⟨"",mk,ly⟩ =⟨m,mk,ly⟩:=by
 rw[pP _ _ h]
 congr 1
 exact fB (by rw[Str.cps_append,Array.toList_append,show(Str.ofString "").cps.toList = []from by decide +kernel];simp)
def Vl:Nat->T->Prop
 | 0,_=>False
 | n+1,t=>∃(m:Str)(ps:List T),t = .t [.s m,.t ps]/\1<=m.length/\cP m/\∀ p∈ps,Vl n p
def chars(xs:List Str):List Nat:=xs.flatMap (·.cps.toList)
theorem aR{xs ys:List Str}:chars (xs++ys)=chars xs++chars ys:=List.flatMap_append
theorem aJ{x:Str}{ys:List Str}:chars (x::ys)=x.cps.toList++chars ys:=List.flatMap_cons
theorem vX{m:Str}(h:1<=m.length):m ≠ "":=fun z=>by
 rw[z,show(Str.ofString "").length=0 from by decide +kernel]at h
 omega
theorem IY{mk:List Str}{ly:List (List T)}:b8 ⟨"",mk,ly⟩ =⟨"",mk,ly⟩:=by unfold b8;rw[if_pos rfl]
theorem oK{n:Nat}:∀{t:T},Vl n t->∀(mk:List Str)(L:List (List T))(top:List T),b8 ((chars (tell n t)).foldl bh ⟨"",mk,L ++ [top]⟩) =⟨"",mk,L ++ [top ++ [t]]⟩:=by
 induction n with
 | zero=>intro t h;exact h.elim
 | succ n ih =>
  intro t h mk L top;obtain⟨m,ps,rfl,m1,ml,hp⟩:=h;have rest:∀(qs:List T)(j:Nat)(done:List T)(S:Pst)(mk':List Str)(L':List (List T)),1<=j ->(∀ q∈qs,Vl n q)->b8 S =⟨"",mk',L' ++ [done]⟩ ->
    b8 ((chars ((qs.zipIdx j).flatMap fun p=>a6 p.2::tell n p.1)).foldl bh S) =⟨"",mk',L' ++ [done++qs]⟩:=by
   intro qs
   induction qs with
   | nil=>intro j done S mk' L' _ _ e;simpa [chars]using e
   | cons q r ihr =>
    intro j done S mk' L' hj hq e;have hs:a6 j = ",":=by unfold a6;rw[if_neg (by omega)]
    rw[List.zipIdx_cons,List.flatMap_cons,aR,List.foldl_append];show b8 (List.foldl bh (List.foldl bh S (chars (a6 j::tell n q))) _)=_;rw[aJ,List.foldl_append,hs,show(Str.ofString ",").cps.toList = [44]from by decide +kernel]
    have e2:List.foldl bh S [44] =⟨"",mk',L' ++ [done]⟩:=by
     show bh S 44=_;unfold bh;rw[if_neg (by decide),if_pos rfl,e]
    rw[e2];have e3:=ih (hq q List.mem_cons_self) mk' L' done
    have:=ihr (j+1) (done ++ [q]) _ mk' L' (by omega) (fun x hx=>hq x (List.mem_cons_of_mem _ hx)) e3
    rw[this,List.append_assoc];rfl
  have e0:chars (tell (n+1) (.t [.s m,.t ps]))=m.cps.toList++(chars (ps.zipIdx.flatMap fun p=>a6 p.2::tell n p.1)++chars (if ps.isEmpty then []else [(")":Str)])):=by
   show chars (m ::(_++_))=_;rw[aJ,aR]
  rw[e0,List.foldl_append,zg ml,List.foldl_append];cases ps with
  | nil =>
   show b8 ⟨m,mk,L ++ [top]⟩=_;unfold b8;rw[if_neg (vX m1),dj]
  | cons p r =>
   have o:List.foldl bh ⟨m,mk,L ++ [top]⟩ (chars (((p::r).zipIdx).flatMap fun p=>a6 p.2::tell n p.1))=List.foldl bh (List.foldl bh ⟨"",mk ++ [m],(L ++ [top]) ++ [[]]⟩ (chars (tell n p))) (chars ((r.zipIdx 1).flatMap fun p=>a6 p.2::tell n p.1)):=by
    rw[List.zipIdx_cons,List.flatMap_cons,aR,List.foldl_append];show List.foldl bh (List.foldl bh _ (chars (a6 0::tell n p))) _=_;rw[aJ,List.foldl_append,show(a6 0).cps.toList = [40]from by decide +kernel]
    rfl
   have e1:=ih (hp p List.mem_cons_self) (mk ++ [m]) (L ++ [top]) [];have e2:=rest r 1 ([] ++ [p]) _ _ _ (Nat.le_refl _) (fun x hx=>hp x (List.mem_cons_of_mem _ hx)) e1
   rw[o]
   generalize List.foldl bh _ (chars ((r.zipIdx 1).flatMap _))=S at e2 ⊢
   show b8 (List.foldl bh S (chars [(")":Str)]))=_;rw[show chars [(")":Str)] = [41]from by decide +kernel]
   show b8 (bh S 41)=_;have e3:bh S 41 =⟨"",mk,L ++ [top ++ [.t [.s m,.t (p::r)]]]⟩:=by
    unfold bh;rw[if_neg (by decide),if_neg (by decide),if_pos rfl,e2]
    unfold jg;have x1:((L ++ [top]) ++ [([] ++ [p])++r]).dropLast=L ++ [top]:=by simp
    have x2:((L ++ [top]) ++ [([] ++ [p])++r]).getLast?.getD []=p::r:=by simp
    have x3:(mk ++ [m]).dropLast=mk:=by simp
    have x4:(mk ++ [m]).getLast?.getD "" = m:=by simp
    dsimp only;rw[x1,x2,x3,x4,dj]
   rw[e3,IY]
theorem eC{n:Nat}(h:n<=20000):n<sizeLine:=by rw[sizeLine_eq];omega
theorem _root_.L2.TF.trans{H H1 H2:Hp}(a:TF H H1)(b:TF H1 H2):TF H H2:=⟨fun x v h=>b.t x v (a.t x v h),fun x o u h=>b.f x o u (a.f x o u h),fun x φ h=>b.x x φ (a.x x φ h),fun x xs h=>let⟨_,e⟩:=a.q x xs h;b.q x _ e⟩
theorem _root_.L2.TF.new{H:Hp}{p:Addr}{o:HO}(hp:H p=none):TF H (upd H p o) :=
 ⟨fun x v h=>by rw[ag (ar h hp)];exact h,fun x o u h=>by rw[ag (ar h hp)];exact h,fun x φ h=>by rw[ag (ar h hp)];exact h,fun x xs h=>⟨xs,by rw[ag (ar h hp)];exact h⟩⟩
theorem _root_.L2.TF.lst{H:Hp}{p:Addr}{xs ys:List V}(hp:H p=some (.lst xs)):TF H (upd H p (.lst ys)) :=
 ⟨fun x v h=>by rw[ag (cv h hp fun z=>nomatch z)];exact h,fun x o u h=>by rw[ag (cv h hp fun z=>nomatch z)];exact h,fun x φ h=>by rw[ag (cv h hp fun z=>nomatch z)];exact h,fun x zs h=>by
  by_cases e:x=p
  ·rw[e];exact⟨ys,ao⟩
  ·exact⟨zs,by rw[ag e];exact h⟩⟩
theorem _root_.L2.TF.ins{H:Hp}{p C dx:Addr}{fs gs:List (Str×V)}(hp:H p=some (.ins C dx fs)):TF H (upd H p (.ins C dx gs)) :=
 ⟨fun x v h=>by rw[ag (cv h hp fun z=>nomatch z)];exact h,fun x o u h=>by rw[ag (cv h hp fun z=>nomatch z)];exact h,fun x φ h=>by rw[ag (cv h hp fun z=>nomatch z)];exact h,fun x zs h=>⟨zs,by rw[ag (cv h hp fun z=>nomatch z)];exact h⟩⟩
structure WrH(K:W.Frag)(dl:Dl)(H:Hp)(C a dx m l:Addr)(ys:List (Addr×List V))(s:Pst):Prop where
 ha:H a=some (.ins C dx [("word",.str s.word),("makers",.ref m),("layers",.ref l)])
 hm:H m=some (.lst (s.ms.map V.str))
 hl:H l=some (.lst (ys.map fun p=>V.ref p.1))
 hy:∀ p∈ys,H p.1=some (.lst p.2)
 ne:(m::l::ys.map (·.1)).Nodup
 rp:Paired (fun(p:Addr×List V)(ts:List T)=>av K dl H p.2 ts []) ys s.ly
structure WrK(H H':Hp)(a m l:Addr)(ys ys':List (Addr×List V)):Prop where
 k:∀ b o,H b=some o->b ∉ a::m::l::ys.map (·.1)->H' b=some o
 n:∀ p∈ys',p.1∈ys.map (·.1)\/H p.1=none
def Qa(K:W.Frag)(C:Addr):Sp:=fun vs H Q _=>∃(dl:Dl)(a dx m l:Addr)(ys:List (Addr×List V))(s:Pst),vs = [.ref a]/\WrH K dl H C a dx m l ys s/\s.ly ≠ []/\(∀ p∈ys,p.2.length<=19000) /\
 ∀ H' ys',WrH K dl H' C a dx m l ys' (b8 s)->WrK H H' a m l ys ys'->ys'.map (·.1)=ys.map (·.1)->Q .non H'
theorem gI{α β:Type}{F:α->β->Prop}:∀{xs:List α}{ys:List β},Paired F xs ys->ys ≠ []->∃ xs' x ys' y,xs=xs' ++ [x]/\ys=ys' ++ [y]/\Paired F xs' ys'/\F x y
 | _,_,.nil,h=>absurd rfl h
 | _,_,.cons (l₁:=xs) (l₂:=ys) r t,_=>by
  cases t with
  | nil=>exact⟨[],_,[],_,rfl,rfl,.nil,r⟩
  | cons r2 t2 =>
   obtain⟨xs',x,ys',y,e1,e2,p,f⟩:=gI (.cons r2 t2) (fun z=>nomatch z)
   exact⟨_::xs',x,_::ys',y,by rw[e1];rfl,by rw[e2];rfl,.cons r p,f⟩
theorem l8{α β:Type}{F:α->β->Prop}{x:α}{y:β}:∀{xs:List α}{ys:List β},Paired F xs ys->F x y->Paired F (xs ++ [x]) (ys ++ [y])
:= by
 intro xs ys hp h
 induction hp with
 | nil=>exact .cons h .nil
 | cons r t ih=>exact .cons r ih
theorem uk{α:Type}{xs:List α}{x:α}:atI (xs ++ [x]) (-1)=some x:=by
 unfold atI ixN;rw[if_neg (by decide),if_pos (by rw[List.length_append,List.length_singleton];omega)]
 have e:((-1:Int)+((xs ++ [x]).length:Nat)).toNat=xs.length:=by rw[List.length_append,List.length_singleton];omega
 rw[e];simp
theorem WrK.refl{H:Hp}{a m l:Addr}{ys:List (Addr×List V)}:WrK H H a m l ys ys:=⟨fun _ _ h _=>h,fun p hp=>.inl (List.mem_map.mpr ⟨p,hp,rfl⟩)⟩
theorem WrK.trans{K:W.Frag}{dl:Dl}{C dx:Addr}{s1:Pst}{H H1 H2:Hp}{a m l:Addr}{ys ys1 ys2:List (Addr×List V)}(W1:WrH K dl H1 C a dx m l ys1 s1)(x:WrK H H1 a m l ys ys1)(y:WrK H1 H2 a m l ys1 ys2):WrK H H2 a m l ys ys2 where
 k:=fun b o h n=>by
  refine y.k b o (x.k b o h n) fun z=>?_
  simp only[List.mem_cons]at z n;rcases z with z|z|z|z
  ·exact n (.inl z)
  ·exact n (.inr (.inl z))
  ·exact n (.inr (.inr (.inl z)))
  ·obtain⟨p,hp,e⟩:=List.mem_map.mp z;rcases x.n p hp with w|w
   ·exact n (.inr (.inr (.inr (e▸w))))
   ·rw[e,h]at w;cases w
 n:=fun p hp=>by
  rcases y.n p hp with w|w
  ·obtain⟨p1,h1,e⟩:=List.mem_map.mp w;rcases x.n p1 h1 with v|v
   ·exact .inl (e▸v)
   ·exact .inr (e▸v)
  ·by_cases hin:p.1∈ys.map (·.1)
   ·exact .inl hin
   ·refine .inr ?_;cases q:H p.1 with
    | none=>rfl
    | some o =>
     by_cases ha:p.1∈a::m::l::ys.map (·.1)
     ·simp only[List.mem_cons]at ha;rcases ha with z|z|z|z
      ·rw[z,W1.ha]at w;cases w
      ·rw[z,W1.hm]at w;cases w
      ·rw[z,W1.hl]at w;cases w
      ·exact absurd z hin
     ·rw[x.k p.1 o q ha]at w;cases w
def Nh(s:Pst)(c:Nat):Prop:=s.ly ≠ []/\(c=41->s.ms ≠ []/\2<=s.ly.length)
theorem gO(s:Pst):(b8 s).ms=s.ms:=by unfold b8;split <;> rfl
theorem iC(s:Pst)(h:s.ly ≠ []):(b8 s).ly.length=s.ly.length:=by
 unfold b8
 split
 ·rfl
 ·show(addTop s.ly _).length=_;unfold addTop;rw[List.length_append,List.length_dropLast]
  have:=List.length_pos_iff.mpr h
  simp;omega
def Qs:V->V->Hp->VK->Prop:=fun x y H Q=>∃ i j,x = .str i/\y = .str j/\i.length+j.length<=sizeLine/\Q (.str (i++j)) H
theorem LU{X:Cx}:Sn X .Add Qs:=by
 rintro pins s σ H x y u v Q I rx ry ⟨i,j,rfl,rfl,hz,q⟩
 obtain⟨t,rfl⟩:=(show ∃ t,u=Value.str i t from rx)
 obtain⟨t',rfl⟩:=(show ∃ t',v=Value.str j t' from ry)
 exact PyProof.Rows.SBL.iadd (fun t' k _=>⟨.str (i++j),H,I.tok _,⟨_,rfl⟩,q⟩) hz
theorem sy{α β:Type}{F:α->β->Prop}:∀{xs:List α}{ys:List β},Paired F xs ys->xs.length=ys.length
:= by
 intro xs ys h
 induction h with
 | nil=>rfl
 | cons _ t ih=>exact congrArg (· + 1) ih
theorem D4{α β:Type}{F:α->β->Prop}:∀{xs:List α}{ys:List β}{x:α},Paired F xs ys->x∈xs->∃ y∈ys,F x y
:= by
 intro xs ys x hp
 induction hp with
 | nil=>intro h;exact absurd h List.not_mem_nil
 | cons r t ih =>
  intro h;rcases List.mem_cons.mp h with z|z
  ·rw[z];exact⟨_,List.mem_cons_self,r⟩
  ·obtain⟨y,hy,f⟩:=ih z;exact⟨y,List.mem_cons_of_mem _ hy,f⟩
theorem WrH.OT{K:PySem.W.Frag}{dl:Dl}{H:Hp}{C a dx m l:Addr}{ys:List (Addr×List V)}{s:Pst}{N:Nat}(W:WrH K dl H C a dx m l ys s)(h:∀ ts∈s.ly,ts.length<=N):∀ p∈ys,p.2.length<=N:=fun p hp=>by
 obtain⟨ts,ht,r⟩:=D4 W.rp hp;rw[r.len];exact h ts ht
theorem ER{s:Pst}{N:Nat}(h:∀ ts∈s.ly,ts.length<=N)(hl:s.ly ≠ []):∀ ts∈(b8 s).ly,ts.length<=N+1:=by
 unfold b8
 split
 ·exact fun ts ht=>Nat.le_succ_of_le (h ts ht)
 ·intro ts ht;have ht:ts∈addTop s.ly _:=ht;unfold addTop at ht;rcases List.mem_append.mp ht with z|z
  ·exact Nat.le_succ_of_le (h ts ((List.dropLast_sublist _).subset z))
  ·rw[List.mem_singleton.mp z,List.length_append];have e:s.ly.getLast? = some (s.ly.getLast hl):=List.getLast?_eq_some_getLast hl;rw[e]
   have:=h _ (List.getLast_mem hl)
   simpa using this
def J9(K:W.Frag)(C:Addr):Sp:=fun vs H Q _=>∃(a dx:Addr),vs = [.ref a]/\H a=some (.ins C dx []) /\
 ∀ H' m l c,(∀ dl,WrH K dl H' C a dx m l [(c,[])] ⟨"",[],[[]]⟩) ->(∀ b o,H b=some o->b≠a->H' b=some o)->H m=none->H l=none->H c=none->Q .non H'
theorem pE{α:Type}{xs:List α}{x:α}:atI (x::xs) 0=some x:=by
 unfold atI ixN;rw[if_pos (by decide),if_pos (by rw[List.length_cons];omega)]
 rfl
def yJ:Pst->List Nat->Prop
 | _,[]=>True
 | s,c::cs=>Nh s c/\yJ (bh s c) cs
theorem m4{xs ys:List Nat}:∀{s:Pst},yJ s xs->yJ (xs.foldl bh s) ys->yJ s (xs++ys):=by
 induction xs with
 | nil=>intro s _ h;exact h
 | cons c cs ih=>intro s h1 h2;exact⟨h1.1,ih h1.2 h2⟩
theorem Kt{cs:List Nat}:∀{s:Pst}{i:Nat}{c:Nat},yJ s cs->cs[i]? = some c->Nh ((cs.take i).foldl bh s) c:=by
 induction cs with
 | nil=>intro s i c _ h;simp at h
 | cons d cs ih =>
  intro s i c h1 h2;cases i with
  | zero=>simp at h2;rw[<- h2];exact h1.1
  | succ i=>exact ih h1.2 (by simpa using h2)
theorem wA{ly:List (List T)}{t:T}:addTop ly t ≠ []:=by unfold addTop;simp
theorem GW{s:Pst}{c:Nat}(h:s.ly ≠ []):(bh s c).ly ≠ []:=by
 unfold bh
 split
 ·simp
 split
 ·unfold b8
  split
  ·exact h
  ·exact wA
 split
 ·exact wA
 ·exact h
theorem qX{cs:List Nat}:∀{s:Pst},s.ly ≠ [] ->(cs.foldl bh s).ly ≠ []:=by
 induction cs with
 | nil=>intro s h;exact h
 | cons c cs ih=>intro s h;exact ih (GW h)
theorem mZ:∀(cs:List Nat){s:Pst},s.ly ≠ [] ->(∀ c∈cs,97<=c/\c<=122)->yJ s cs
 | [],_,_,_=>True.intro
 | c::cs,s,h,hc=>⟨⟨h,fun z=>by have:=hc c List.mem_cons_self;omega⟩,mZ cs (GW h) fun d hd=>hc d (List.mem_cons_of_mem _ hd)⟩
theorem DN{n:Nat}:∀{t:T},Vl n t->∀(mk:List Str)(L:List (List T))(top:List T),yJ ⟨"",mk,L ++ [top]⟩ (chars (tell n t)):=by
 induction n with
 | zero=>intro t h;exact h.elim
 | succ n ih =>
  intro t h mk L top;obtain⟨m,ps,rfl,m1,ml,hp⟩:=h;have rest:∀(qs:List T)(j:Nat)(done:List T)(S:Pst)(mk':List Str)(L':List (List T)),1<=j ->(∀ q∈qs,Vl n q)->S.ly ≠ []->b8 S =⟨"",mk',L' ++ [done]⟩ ->
    yJ S (chars ((qs.zipIdx j).flatMap fun p=>a6 p.2::tell n p.1))/\b8 ((chars ((qs.zipIdx j).flatMap fun p=>a6 p.2::tell n p.1)).foldl bh S) =⟨"",mk',L' ++ [done++qs]⟩:=by
   intro qs
   induction qs with
   | nil=>intro j done S mk' L' _ _ _ e;exact⟨True.intro,by simpa [chars]using e⟩
   | cons q r ihr =>
    intro j done S mk' L' hj hq hne e;have hs:a6 j = ",":=by unfold a6;rw[if_neg (by omega)]
    have e2:bh S 44 =⟨"",mk',L' ++ [done]⟩:=by
     unfold bh;rw[if_neg (by decide),if_pos rfl,e]
    have hv:=hq q List.mem_cons_self;have e3:=oK hv mk' L' done;have f3:=ih hv mk' L' done;have ne3:((chars (tell n q)).foldl bh ⟨"",mk',L' ++ [done]⟩).ly ≠ []:=qX (by simp)
    obtain⟨g1,g2⟩:=ihr (j+1) (done ++ [q]) _ mk' L' (by omega) (fun x hx=>hq x (List.mem_cons_of_mem _ hx)) ne3 e3
    have ex:chars (((q::r).zipIdx j).flatMap fun p=>a6 p.2::tell n p.1)=44 ::(chars (tell n q)++chars ((r.zipIdx (j+1)).flatMap fun p=>a6 p.2::tell n p.1)):=by
     rw[List.zipIdx_cons,List.flatMap_cons,aR];show chars (a6 j::tell n q)++_=_;rw[aJ,hs,show(Str.ofString ",").cps.toList = [44]from by decide +kernel]
     rfl
    rw[ex];refine⟨⟨⟨hne,fun z=>nomatch z⟩,?_⟩,?_⟩
    ·rw[e2];exact m4 f3 g1
    ·show b8 (List.foldl bh (bh S 44) _)=_;rw[e2,List.foldl_append,g2,List.append_assoc];rfl
  have e0:chars (tell (n+1) (.t [.s m,.t ps]))=m.cps.toList++(chars (ps.zipIdx.flatMap fun p=>a6 p.2::tell n p.1)++chars (if ps.isEmpty then []else [(")":Str)])):=by
   show chars (m ::(_++_))=_;rw[aJ,aR]
  rw[e0];refine m4 (mZ _ (by simp) ml) ?_
  rw[zg ml];cases ps with
  | nil=>exact True.intro
  | cons p r =>
   have hv:=hp p List.mem_cons_self;have ex:chars (((p::r).zipIdx).flatMap fun p=>a6 p.2::tell n p.1)=40 ::(chars (tell n p)++chars ((r.zipIdx 1).flatMap fun p=>a6 p.2::tell n p.1)):=by
    rw[List.zipIdx_cons,List.flatMap_cons,aR];show chars (a6 0::tell n p)++_=_;rw[aJ,show(a6 0).cps.toList = [40]from by decide +kernel]
    rfl
   have o:bh ⟨m,mk,L ++ [top]⟩ 40 =⟨"",mk ++ [m],(L ++ [top]) ++ [[]]⟩:=by unfold bh;rw[if_pos rfl]
   have e1:=oK hv (mk ++ [m]) (L ++ [top]) [];have f1:=ih hv (mk ++ [m]) (L ++ [top]) [];have ne1:((chars (tell n p)).foldl bh ⟨"",mk ++ [m],(L ++ [top]) ++ [[]]⟩).ly ≠ []:=qX (by simp)
   obtain⟨g1,g2⟩:=rest r 1 ([] ++ [p]) _ _ _ (Nat.le_refl _) (fun x hx=>hp x (List.mem_cons_of_mem _ hx)) ne1 e1
   rw[ex];refine⟨⟨by simp,fun z=>nomatch z⟩,?_⟩
   rw[o];refine m4 (m4 f1 g1) ?_;rw[List.foldl_append];have ne2:=qX (cs:=chars ((r.zipIdx 1).flatMap fun p=>a6 p.2::tell n p.1)) ne1
   generalize List.foldl bh (List.foldl bh _ (chars (tell n p))) (chars ((r.zipIdx 1).flatMap _))=S at g2 ne2 ⊢
   show yJ S (chars [(")":Str)]);rw[show chars [(")":Str)] = [41]from by decide +kernel]
   have x1:=gO S;have x2:=iC S ne2;rw[g2]at x1 x2;refine⟨⟨ne2,fun _=>⟨?_,?_⟩⟩,True.intro⟩
   ·rw[<- x1];simp
   ·rw[<- x2];simp
structure Bd(i:Nat)(s:Pst):Prop where
 w:s.word.length<=i
 m:s.ms.length<=i
 l:s.ly.length<=i+1
 t:∀ ts∈s.ly,ts.length<=2*i
theorem uo{ly:List (List T)}{t:T}{N:Nat}(h:∀ ts∈ly,ts.length<=N):∀ ts∈addTop ly t,ts.length<=N+1:=by
 intro ts ht;unfold addTop at ht;rcases List.mem_append.mp ht with z|z
 ·exact Nat.le_succ_of_le (h ts ((List.dropLast_sublist _).subset z))
 ·rw[List.mem_singleton.mp z,List.length_append];cases e:ly.getLast? with
  | none=>simp
  | some x =>
   have:=h x (List.mem_of_getLast? e)
   simpa using this
theorem wC{ly:List (List T)}{t:T}{N:Nat}(h:ly.length<=N)(h1:1<=N):(addTop ly t).length<=N:=by
 unfold addTop;rw[List.length_append,List.length_dropLast];simp;omega
theorem Bd.put{i c:Nat}{s:Pst}(b:Bd i s):Bd (i+1) (bh s c):=by
 have e0:(Str.ofString "").length=0:=by decide +kernel
 have up:∀ ts∈s.ly,ts.length<=2*(i+1):=fun ts h=>Nat.le_trans (b.t ts h) (by omega)
 have bw:=b.w;have bm:=b.m;have bl:=b.l;have eW:(b8 s).word.length<=i/\(b8 s).ms.length<=i/\(b8 s).ly.length<=i+1/\∀ ts∈(b8 s).ly,ts.length<=2*i+1:=by
  unfold b8
  split
  ·exact⟨bw,bm,bl,fun ts h=>Nat.le_succ_of_le (b.t ts h)⟩
  ·exact⟨by show(Str.ofString "").length<=i;omega,bm,wC bl (by omega),uo b.t⟩
 obtain⟨w1,w2,w3,w4⟩:=eW;unfold bh
 split
 ·refine⟨by show(Str.ofString "").length<=i+1;omega,by show(s.ms ++ [s.word]).length<=i+1;simp;omega,by show(s.ly ++ [[]]).length<=i+1+1;simp;omega,fun ts h=>?_⟩
  rcases List.mem_append.mp h with z|z
  ·exact up ts z
  ·rw[List.mem_singleton.mp z];simp
 split
 ·exact⟨by omega,by omega,by omega,fun ts h=>Nat.le_trans (w4 ts h) (by omega)⟩
 split
 ·refine⟨Nat.le_succ_of_le w1,?_,?_,?_⟩
  ·show((b8 s).ms.dropLast).length<=i+1;rw[List.length_dropLast];omega
  ·exact wC (by rw[List.length_dropLast];omega) (by omega)
  ·exact uo fun ts h=>w4 ts ((List.dropLast_sublist _).subset h)
 ·refine⟨?_,by show s.ms.length<=i+1;omega,by show s.ly.length<=i+1+1;omega,up⟩
  show(s.word++⟨#[c]⟩).length<=i+1;rw[Str.length_append];show s.word.length+1<=i+1;omega
theorem yr:∀(cs:List Nat){i:Nat}{s:Pst},Bd i s->Bd (i+cs.length) (cs.foldl bh s)
 | [],_,_,h=>h
 | c::cs,i,s,h=>by
  have:=yr cs (h.put (c:=c))
  rw[List.length_cons,show i+(cs.length+1)=i+1+cs.length from by omega]
  exact this
theorem Az:Bd 0 ⟨"",[],[[]]⟩:=⟨by show(Str.ofString "").length<=0;decide +kernel,Nat.le_refl _,Nat.le_refl _,fun ts h=>by rw[List.mem_singleton.mp h];simp⟩
theorem L8{z:Str}{g:TG}{tb:TS}{D:Ends}{σ:St}{H:Hp}(Pv:Nat->St->Hp->Prop)(h0:Pv 0 σ H)
  (hs:∀ i c σ H,z.cps[i]? = some c->Pv i σ H->g (.str ⟨#[c]⟩) σ H fun σ2 H2=>tb { D with nx:=Pv (i+1),ct:=Pv (i+1),bk:=D.nx } σ2 H2) (hd:∀ σ H,Pv z.cps.size σ H->D.nx σ H) :
  ∃ W:Nat->Nat->St->Hp->Prop,(∃ m,W 0 m σ H)/\∀ i m σ H,W i m σ H ->
   ((Its z).stop i H/\D.nx σ H)\/((Its z).go i H/\∃ N:St->Hp->Prop,(∀ σ' H',N σ' H'->∃ m',m'<m/\W (i+1) m' σ' H')/\∀ x H',(Its z).yld i H x H'->g x σ H' fun σ2 H2=>tb { D with nx:=N,ct:=N,bk:=D.nx } σ2 H2):=by
 refine⟨fun i m σ H=>m=z.cps.size - i/\i<=z.cps.size/\Pv i σ H,⟨z.cps.size,by simp,Nat.zero_le _,h0⟩,?_⟩
 rintro i m σ H ⟨rfl,hi,p⟩
 by_cases hlt:i<z.cps.size
 ·refine .inr ⟨hlt,Pv (i+1),fun σ' H' p'=>⟨z.cps.size - (i+1),by omega,rfl,hlt,p'⟩,fun x H' y=>?_⟩
  obtain⟨e,c,hc,y⟩:=y;subst e y;exact hs i c σ _ hc p
 ·have e:i=z.cps.size:=by omega
  subst e;exact .inl ⟨rfl,hd σ H p⟩
theorem DR{K:W.Frag}{dl:Dl}{H:Hp}{vs:List V}{t:T}{F:List Addr}(h:av K dl H vs [t] F):∃ v G,vs = [v]/\aN K dl H v t G/\F=G ++ []:=by
 cases h with
 | cons g1 g2=>cases g2;exact⟨_,_,rfl,g1,rfl⟩
theorem NA{C:Addr}{bm:List Value}:(Value.ref C::bm).contains (.ref C)=true:=by rw[List.contains_cons,beq_self_eq_true,Bool.true_or]
theorem g6{ks:List Kd}(gk:c5 ks)(hL:∀ m∈names ks,1<=m.length/\m.length<=20/\cP m):∀{n:Nat}{k:Str}{t:T},isN ks n k t=true->Vd n t/\Vl n t/\mu n t+1<=5*wt n t:=by
 intro n
 induction n with
 | zero=>intro k t h;cases h
 | succ n ih =>
  intro k t h;obtain⟨n',m,ps,e,rfl,hm,hl,hp⟩:=dR h;cases e;have hn:m.1∈names ks:=oW hm;obtain⟨kd,hk,_,ek⟩:=nt hm;rw[ek]at hm;obtain⟨a1,a2,a3⟩:=hL m.1 hn;have lp:ps.length<=4:=by rw[<- hl];exact(gk.fl kd hk m hm).1
  have all:∀ p∈ps,Vd n p/\Vl n p/\mu n p+1<=5*wt n p:=fun p hpm=>by
   obtain⟨j,hj⟩:=List.mem_iff_getElem?.mp hpm;have hj1:j<m.2.length:=by rw[hl];exact(List.getElem?_eq_some_iff.mp hj).1
   exact ih (hp j m.2[j] p (by simp[hj1]) hj)
  have sm:∀ qs:List T,(∀ p∈qs,mu n p+1<=5*wt n p) ->(qs.map fun p=>1+mu n p).sum<=5*(qs.map (wt n)).sum:=by
   intro qs
   induction qs with
   | nil=>intro _;simp
   | cons q r ihr =>
    intro hq;have h1:=hq q List.mem_cons_self;have h2:=ihr fun p hp=>hq p (List.mem_cons_of_mem _ hp)
    rw[List.map_cons,List.sum_cons,List.map_cons,List.sum_cons];omega
  refine⟨⟨m.1,ps,rfl,a1,a2,lp,fun p hp=>(all p hp).1⟩,⟨m.1,ps,rfl,a1,a3,fun p hp=>(all p hp).2.1⟩,?_⟩
  show 3+(ps.map fun p=>1+mu n p).sum+1<=5*(1+(ps.map (wt n)).sum)
  have:=sm ps fun p hp=>(all p hp).2.2
  omega
def F7(K:W.Frag)(C N:Addr):Sp:=fun vs H Q E=>∃(dl:Dl)(a dx m l:Addr)(ys:List (Addr×List V))(s:Pst),vs = [.ref a]/\WrH K dl H C a dx m l ys s/\(s.ms ≠ []->2<=s.ly.length)/\(∀ p∈ys,p.2.length<=19000) /\
 (s.ms = []->∀ x,H x=none->E (.ref N) (some x) (upd H x (.ext (XAt x N none false)))) /\
 (s.ms ≠ []->∀ H' ys',WrH K dl H' C a dx m l ys' (jg s)->WrK H H' a m l ys ys'->ys'.map (·.1) =(ys.map (·.1)).dropLast->Q .non H')
def NF(K:W.Frag)(C N:Addr):Sp:=fun vs H Q E=>∃(dl:Dl)(a dx m l:Addr)(ys:List (Addr×List V))(s:Pst)(c:Nat),vs = [.ref a,.str ⟨#[c]⟩]/\WrH K dl H C a dx m l ys s/\s.ly.length=s.ms.length+1/\s.word.length<=18000/\s.ms.length<=18000/\s.ly.length<=18000/\(∀ ts∈s.ly,ts.length<=18000) /\
 (c=41->s.ms = []->∀ H' ys',WrH K dl H' C a dx m l ys' (b8 s)->WrK H H' a m l ys ys'->∀ x,H' x=none->E (.ref N) (some x) (upd H' x (.ext (XAt x N none false)))) /\
 ((c=41->s.ms ≠ [])->∀ H' ys',WrH K dl H' C a dx m l ys' (bh s c)->WrK H H' a m l ys ys'->Q .non H')
def J8(K:W.Frag)(C:Addr):Sp:=fun vs H Q _=>∃(dl:Dl)(a dx m l c:Addr)(cs:List V)(ys:List (Addr×List V))(s:Pst),vs = [.ref a]/\WrH K dl H C a dx m l ((c,cs)::ys) s/\(∀ v,cs = [v]->Q v H)/\(cs.length≠1->Q .non H)
theorem KJ{s:Pst}{c:Nat}(h:s.ly.length=s.ms.length+1)(hc:c=41->s.ms ≠ []):(bh s c).ly.length =(bh s c).ms.length+1:=by
 have hne:s.ly ≠ []:=fun z=>by rw[z]at h;simp at h
 unfold bh;by_cases h40:c=40
 ·rw[if_pos h40];simp[h]
 ·rw[if_neg h40];by_cases h44:c=44
  ·rw[if_pos h44,iC s hne,gO];exact h
  ·rw[if_neg h44];by_cases h41:c=41
   ·rw[if_pos h41];have hm:s.ms.length≠0:=fun z=>hc h41 (List.length_eq_zero_iff.mp z)
    show(addTop (b8 s).ly.dropLast _).length =(b8 s).ms.dropLast.length+1;unfold addTop;rw[gO];simp[iC s hne];omega
   ·rw[if_neg h41];exact h
def Rz(j:Nat)(t:T):Prop:=Ok j t/\wt j t<=j/\j<=9000
theorem HB{n:Nat}{t:T}(h:Ok n t):∀{m:Nat},n<=m->Ok m t/\wt m t=wt n t:=by
 intro m hm
 induction hm with
 | refl=>exact⟨h,rfl⟩
 | step _ ih=>exact⟨ih.1.up,by rw[ih.1.wt];exact ih.2⟩
inductive RL:List T->Nat->Prop
 | nil:RL [] 0
 | snoc{ts:List T}{t:T}{k j:Nat}:RL ts k->Rz j t->RL (ts ++ [t]) (k+j)
theorem RL.all{ts:List T}{k:Nat}(h:RL ts k):∀ m,k<=m ->(∀ t∈ts,Ok m t)/\(ts.map (wt m)).sum<=k/\ts.length<=k:=by
 induction h with
 | nil=>intro m _;exact⟨(fun _ z=>nomatch z),Nat.le_refl _,Nat.le_refl _⟩
 | @snoc ts t k j _ hr ih =>
  intro m hm;obtain⟨a1,a2,a3⟩:=ih m (by omega)
  obtain⟨b1,b2⟩:=HB hr.1 (m:=m) (by omega)
  have b3:=hr.2.1;have b4:=FA j t;refine⟨fun x hx=>?_,?_,?_⟩
  ·rcases List.mem_append.mp hx with z|z
   ·exact a1 x z
   ·rw[List.mem_singleton.mp z];exact b1
  ·rw[List.map_append,List.sum_append];simp only[List.map_cons,List.map_nil,List.sum_cons,List.sum_nil];omega
  ·rw[List.length_append];simp only[List.length_cons,List.length_nil];omega
theorem RL.node{ts:List T}{k:Nat}{w:Str}(h:RL ts k)(hk:k+1<=9000):Rz (k+1) (.t [.s w,.t ts]):=by
 obtain⟨a1,a2,a3⟩:=h.all k (Nat.le_refl _);refine⟨Ok.mkp rfl (by omega) a1,?_,hk⟩
 show 1+(ts.map (wt k)).sum<=k+1;omega
inductive RLL:List (List T)->Nat->Prop
 | nil:RLL [] 0
 | snoc{ly:List (List T)}{ts:List T}{k j:Nat}:RLL ly k->RL ts j->RLL (ly ++ [ts]) (k+j)
theorem yY{α:Type}{xs ys:List α}{x y:α}(h:xs ++ [x]=ys ++ [y]):xs=ys/\x=y:=by
 have:=List.append_inj' h rfl
 exact⟨this.1,by simpa using this.2⟩
theorem RLL.last{ly:List (List T)}{ts:List T}{n:Nat}(h:RLL (ly ++ [ts]) n):∃ k j,n=k+j/\RLL ly k/\RL ts j:=by
 generalize e:ly ++ [ts]=L at h
 cases h with
 | nil=>simp at e
 | snoc h1 h2 =>
  obtain⟨rfl,rfl⟩:=yY e;exact⟨_,_,rfl,h1,h2⟩
def qM(n:Nat)(s:Pst):Prop:=∃ k,s.ly ≠ []/\RLL s.ly k/\k+(if s.word = "" then 0 else 1)+s.ms.length<=n
theorem qM.start:qM 0 ⟨"",[],[[]]⟩:=⟨0,by simp,RLL.snoc (ly:=[]) .nil .nil,by simp⟩
theorem i3{α:Type}{xs:List α}(h:xs ≠ []):∃ ys y,xs=ys ++ [y]:=by
 rcases List.eq_nil_or_concat xs with z |⟨ys,y,z⟩
 ·exact absurd z h
 ·exact⟨ys,y,by rw[z,List.concat_eq_append]⟩
theorem wM{n:Nat}{s:Pst}(h:qM n s)(hn:n<=8000):qM n (b8 s):=by
 obtain⟨k,hne,r,b⟩:=h;unfold b8
 split
 ·rename_i hw;exact⟨k,hne,r,b⟩
 ·rename_i hw;obtain⟨ly,ts,e⟩:=i3 hne;rw[e]at r;obtain⟨k1,j,rfl,r1,r2⟩:=r.last;rw[if_neg hw]at b;refine⟨k1+(j+(0+1)),by rw[e,dj];simp,?_,?_⟩
  ·rw[e];show RLL (addTop (ly ++ [ts]) _) _;rw[dj];exact .snoc r1 (.snoc r2 (RL.node .nil (by omega)))
  ·show k1+(j+(0+1))+(if("":Str) = "" then 0 else 1)+s.ms.length<=n
   rw[if_pos rfl];omega
theorem FY{n:Nat}{s:Pst}(h:qM n s)(hw:s.word = "")(hb:s.ly.length=s.ms.length+1)(hm:s.ms ≠ [])(hn:n<=8000):qM n (jg s):=by
 obtain⟨k,hne,r,b⟩:=h;obtain⟨L1,ts,e⟩:=i3 hne;have hL1:L1 ≠ []:=fun z=>by
  rw[e,z]at hb
  have:s.ms.length=0:=by simpa using hb.symm
  exact hm (List.length_eq_zero_iff.mp this)
 obtain⟨L2,us,e2⟩:=i3 hL1;rw[e]at r;obtain⟨k1,j,rfl,r1,r2⟩:=r.last;rw[e2]at r1;obtain⟨k2,i,rfl,r3,r4⟩:=r1.last;rw[if_pos hw]at b;have hml:1<=s.ms.length:=by
  rcases Nat.eq_zero_or_pos s.ms.length with z|z
  ·exact absurd (List.length_eq_zero_iff.mp z) hm
  ·exact z
 have ec:(jg s).ly=L2 ++ [us ++ [.t [.s (s.ms.getLast?.getD ""),.t ts]]]:=by
  unfold jg;rw[e];have x1:(L1 ++ [ts]).dropLast=L1:=by simp
  have x2:(L1 ++ [ts]).getLast?.getD []=ts:=by simp
  rw[x1,x2,e2,dj]
 refine⟨k2+(i+(j+1)),by rw[ec];simp,?_,?_⟩
 ·rw[ec];exact .snoc r3 (.snoc r4 (RL.node r2 (by omega)))
 ·show k2+(i+(j+1))+(if s.word = "" then 0 else 1)+s.ms.dropLast.length<=n
  rw[if_pos hw,List.length_dropLast];omega
theorem EO(s:Pst):(b8 s).word = "":=by unfold b8;split <;> first|assumption|rfl
theorem NC{n c:Nat}{s:Pst}(h:qM n s)(hb:s.ly.length=s.ms.length+1)(hc:c=41->s.ms ≠ [])(hn:n<=7000):qM (n+1) (bh s c):=by
 have up:∀{s':Pst},qM n s'->qM (n+1) s':=fun⟨k,a,b,c⟩=>⟨k,a,b,by omega⟩
 have hne:s.ly ≠ []:=fun z=>by rw[z]at hb;simp at hb
 unfold bh;by_cases h40:c=40
 ·rw[if_pos h40];obtain⟨k,_,r,b⟩:=h;refine⟨k+0,by simp,.snoc r .nil,?_⟩
  show k+0+(if("":Str) = "" then 0 else 1)+(s.ms ++ [s.word]).length<=n+1
  rw[if_pos rfl,List.length_append];simp only[List.length_cons,List.length_nil]
  split at b <;> omega
 ·rw[if_neg h40];by_cases h44:c=44
  ·rw[if_pos h44];exact up (wM h (by omega))
  ·rw[if_neg h44];by_cases h41:c=41
   ·rw[if_pos h41];exact up (FY (wM h (by omega)) (EO s) (by rw[iC s hne,gO];exact hb) (by rw[gO];exact hc h41) (by omega))
   ·rw[if_neg h41];obtain⟨k,a,r,b⟩:=h;refine⟨k,a,r,?_⟩;show k+(if s.word++⟨#[c]⟩ = "" then 0 else 1)+s.ms.length<=n+1
    split at b <;> split <;> omega
theorem MV{P:Program}{w:World}{K:W.Frag}{mg:Str->Option Value}{base:Heap}{N:List Str}{qual:Str}{scope:Scope}{f:Addr}{cd:Value}{A:Around}{outer:List Env}{s₀:Shared}{H₀:Hp}{E:XK}:Passes (CX1 P w) (pq (CX1 P w) P w K mg base N qual scope f cd A outer s₀ H₀ E) E:=fun pins σ H s e s' I h=>Be pins σ H s e s' I h
theorem Iy{ks:List Kd}:∀{n j:Nat}{k:Str}{t:T},Ok j t->isN ks n k t=true->isN ks j k t=true:=by
 intro n
 induction n with
 | zero=>intro j k t _ h;cases h
 | succ n ih =>
  intro j k t ho h;obtain⟨n',m,ps,e,rfl,hm,hl,hp⟩:=dR h;cases e;obtain⟨j',rfl,_,_,hop⟩:=ho.pr;rw[kJ]at h ⊢;cases hd:due ks k (.s m.1) ps.length with
  | none=>rw[hd]at h;cases h
  | some fs =>
   rw[hd]at h;refine List.all_eq_true.mpr fun p hp'=>ih (hop p.2 (List.of_mem_zip hp').2) (List.all_eq_true.mp h p hp')
theorem jZ{α:Type}{f g:T->List α}{h:Nat->List α}:∀{ps:List T}{i:Nat},(∀ p∈ps,f p=g p) ->(ps.zipIdx i).flatMap (fun p=>h p.2++f p.1) =(ps.zipIdx i).flatMap (fun p=>h p.2++g p.1)
 | [],_,_=>rfl
 | p::r,i,hp=>by
  rw[List.zipIdx_cons,List.flatMap_cons,List.flatMap_cons,hp p List.mem_cons_self,jZ fun q hq=>hp q (List.mem_cons_of_mem _ hq)]
theorem oA{ks:List Kd}:∀{n j:Nat}{k:Str}{t:T},isN ks n k t=true->isN ks j k t=true->tell n t=tell j t:=by
 intro n
 induction n with
 | zero=>intro j k t h;cases h
 | succ n ih =>
  intro j k t h h';obtain⟨n',m,ps,e,rfl,hm,hl,hp⟩:=dR h;cases e;cases j with
  | zero=>cases h'
  | succ j =>
   rw[kJ]at h h';cases hd:due ks k (.s m.1) ps.length with
   | none=>rw[hd]at h;cases h
   | some fs =>
    rw[hd]at h h';have hpp:∀ p∈ps,tell n p=tell j p:=fun p hp=>by
     obtain⟨i,hi⟩:=List.getElem?_of_mem hp;obtain⟨m',hm',_,hl',hfs⟩:=x9 hd;have hil:i<fs.length:=by
      have:=(List.getElem?_eq_some_iff.mp hi).1
      omega
     have hz:(fs[i],p)∈fs.zip ps:=List.mem_of_getElem? (i:=i) (by rw[List.getElem?_zip_eq_some];exact⟨by simp[hil],hi⟩)
     exact ih (List.all_eq_true.mp h _ hz) (List.all_eq_true.mp h' _ hz)
    show m.1::_=m.1::_
    congr 2
    exact jZ (h:=fun i=>[a6 i]) hpp
inductive KP(a:Adr)(ts:List T)(Q:T->Prop)(W:QW):Prop
 | mk(ks:List Kd)(k z:Str)(h1:ts = [tKs ks,.s k,.s z])(h2:c5 ks)(h3:(∀ m∈names ks,1<=m.length/\m.length<=20/\cP m))(h4:k∈ks.map (·.1))(h5:z.length<=1500)(h6:(∀ n t,isN ks n k t=true->Txt.join "" (tell n t)=z->Q t))(h7:((∀ n t,isN ks n k t=true->Txt.join "" (tell n t)≠z)->W a.aS [] []))
theorem Gv:∀{ly:List (List T)}{ts:List T}{n:Nat},RLL (ts::ly) n->∃ j,j<=n/\RL ts j:=by
 intro ly;have go:∀(r:Nat)(ly:List (List T)){ts:List T}{n:Nat},ly.length=r->RLL (ts::ly) n->∃ j,j<=n/\RL ts j:=by
  intro r
  induction r with
  | zero =>
   intro ly ts n hl h;rw[List.length_eq_zero_iff.mp hl]at h;obtain⟨k,j,rfl,_,h2⟩:=RLL.last (ly:=[]) h;exact⟨j,by omega,h2⟩
  | succ r ih =>
   intro ly ts n hl h;obtain⟨L,u,rfl⟩:=i3 (xs:=ly) (fun z=>by rw[z]at hl;cases hl)
   obtain⟨k,j,rfl,h1,_⟩:=RLL.last (ly:=ts::L) h;obtain⟨i,hi,hr⟩:=ih L (by simpa using hl) h1
   exact⟨i,by omega,hr⟩
 intro ts n h;exact go ly.length ly rfl h
theorem NO{t:T}{n:Nat}(h:RL [t] n):∃ j,j<=n/\Rz j t:=by
 generalize e:[t]=L at h
 cases h with
 | nil=>cases e
 | snoc h1 h2 =>
  obtain⟨rfl,rfl⟩:=yY (xs:=[]) e;exact⟨_,by omega,h2⟩
theorem Ll:Ok 1 .n:=⟨rfl,rfl,(fun _ _ z=>nomatch z),fun _ _ z=>nomatch z⟩
inductive Oh(ts:List T)(Q:T->Prop):Prop
 | mk(ks:List Kd)(k z:Str)(h1:ts = [tKs ks,.s k,.s z])(h2:c5 ks)(h3:(∀ m∈names ks,1<=m.length/\m.length<=20/\cP m))(h4:k∈ks.map (·.1))(h5:z.length<=1500)(h6:(∀ n t,isN ks n k t=true->Txt.join "" (tell n t)=z->Q t))(h7:((∀ n t,isN ks n k t=true->Txt.join "" (tell n t)≠z)->Q .n))
theorem MX{l:List Addr}(h:l.Nodup){x y:Addr}(i j:Nat)(hi:l[i]? = some x)(hj:l[j]? = some y)(ne:i≠j):x≠y:=fun z=>by
 subst z;obtain⟨h1,e1⟩:=List.getElem?_eq_some_iff.mp hi;obtain⟨h2,e2⟩:=List.getElem?_eq_some_iff.mp hj;exact ne ((List.getElem_inj h).mp (e1.trans e2.symm))
theorem Nz{C B C':Addr}(h1:C'≠C)(h2:C'≠B):(Value.ref C :: .ref B::bmV).contains (.ref C')=false:=by
 have e1:(Value.ref C'==Value.ref C)=false:=beq_eq_false_iff_ne.mpr fun z=>h1 (Value.ref.inj z)
 have e2:(Value.ref C'==Value.ref B)=false:=beq_eq_false_iff_ne.mpr fun z=>h2 (Value.ref.inj z)
 rw[List.contains_cons,List.contains_cons,e1,e2];rfl
theorem Ny{C B:Addr}{bm:List Value}:(Value.ref C :: .ref B::bm).contains (.ref B)=true:=by rw[List.contains_cons,List.contains_cons,beq_self_eq_true,Bool.true_or,Bool.or_true]
theorem R7{K:W.Frag}{fn:List Str}{C C':Addr}{bm:List Value}{ini:Option Addr}{i:Nat}{qs:QS}{qr:QH}{ns:List Str}{us:List T}{D:iG}{q:Sq}(c:fA K fn C bm ini)(h:(Value.ref C::bm).contains (.ref C')=true)(k:qs (D.go i) (q.set i (.r (.xc C ns us)))):Qu K fn C' i qs qr C ns us D q:=⟨bm,ini,c,by rw[if_pos h];exact k⟩
def sgn(c:Nat):Bool:=c==40||c==44||c==41
theorem FW{c i:Nat}(h:sgn c=false):Builtin.Str.subAt (Str.ofString "(,)") (⟨#[c]⟩:Str) i=true->i+1<=3->False:=by
 intro hs hi;have e:(Str.ofString "(,)") =⟨#[40,44,41]⟩:=by decide +kernel
 rw[e]at hs;simp[sgn]at h;have e0:(#[40,44,41]:Array Nat).extract 0 1 = #[40]:=by decide
 have e1:(#[40,44,41]:Array Nat).extract 1 2 = #[44]:=by decide
 have e2:(#[40,44,41]:Array Nat).extract 2 3 = #[41]:=by decide
 unfold Builtin.Str.subAt at hs;have hl:(⟨#[c]⟩:Str).length=1:=rfl;rw[hl]at hs;have hs:=eq_of_beq hs
 rcases(by omega:i=0\/i=1\/i=2)with rfl|rfl|rfl
 ·rw[show 0+1=1 from rfl,e0]at hs;simp at hs;omega
 ·rw[show 1+1=2 from rfl,e1]at hs;simp at hs;omega
 ·rw[show 2+1=3 from rfl,e2]at hs;simp at hs;omega
theorem CU(c:Nat):(!(Builtin.Str.occurrences (Str.ofString "(,)") (⟨#[c]⟩:Str) 0 (Str.ofString "(,)").length 1).isEmpty)=sgn c:=by
 by_cases h:sgn c=true
 ·simp[sgn]at h;rcases h with(rfl|rfl)|rfl <;> decide +kernel
 ·have h0:sgn c=false:=by simpa using h
  have key:∀(l:List Nat)(st:Array Nat×Nat),st.1 = #[] ->(forIn (m:=Id) l st fun i __s=>if(decide (__s.fst.size<1)&&decide (__s.snd<=i)&&decide (i+(⟨#[c]⟩:Str).length <=(Str.ofString "(,)").length)&&Builtin.Str.subAt (Str.ofString "(,)") (⟨#[c]⟩:Str) i)=true then pure (ForInStep.yield (__s.fst.push i,i+(⟨#[c]⟩:Str).length))else pure (ForInStep.yield (__s.fst,__s.snd))).run.1 = #[]:=by
   intro l
   induction l with
   | nil=>intro st hs;simpa using hs
   | cons i l ih =>
    intro st hs;rw[List.forIn_cons];have hn:¬(decide (st.fst.size<1)&&decide (st.snd<=i)&&decide (i+(⟨#[c]⟩:Str).length <=(Str.ofString "(,)").length)&&Builtin.Str.subAt (Str.ofString "(,)") (⟨#[c]⟩:Str) i)=true:=fun z=>by
     rw[Bool.and_eq_true,Bool.and_eq_true]at z;exact FW h0 z.2 (of_decide_eq_true z.1.2)
    rw[if_neg hn];exact ih _ hs
  unfold Builtin.Str.occurrences;rw[h0];simp only[Std.Legacy.Range.forIn_eq_forIn_range'];exact congrArg (fun a:Array Nat=>!a.toList.isEmpty) (key (List.range' 0 [:(Str.ofString "(,)").length+1].size) (#[],0) rfl)
def pst(ws:List Str)(c:Nat):List Str:=if sgn c=true then ws ++ [(⟨#[c]⟩:Str),("":Str)]else ws.dropLast ++ [(ws.getLast?.getD "")++(⟨#[c]⟩:Str)]
def nz(w:Str):Bool:=!decide (w = "")
def pcs(cs:List Nat):List Str:=(cs.foldl pst [("":Str)]).filter nz
theorem xi{S:List Str}{cur:Str}{c:Nat}(h:sgn c=true):pst (S ++ [cur]) c =(S ++ [cur,(⟨#[c]⟩:Str)]) ++ [("":Str)]:=by unfold pst;rw[if_pos h];simp
theorem xj{S:List Str}{cur:Str}{c:Nat}(h:sgn c=false):pst (S ++ [cur]) c=S ++ [cur++(⟨#[c]⟩:Str)]:=by unfold pst;rw[if_neg (by rw[h];decide)];simp
theorem cE(x:Str):chars [x]=x.cps.toList:=by simp[chars]
theorem tX:chars [("":Str)] = []:=by rw[cE];decide +kernel
theorem DU{S:List Str}{cur:Str}{c:Nat}:∃ S' vm,pst (S ++ [cur]) c=S' ++ [vm]/\chars (S' ++ [vm])=chars (S ++ [cur]) ++ [c]/\(S' ++ [vm]).length <=(S ++ [cur]).length+2:=by
 cases h:sgn c with
 | true =>
  refine⟨_,_,xi h,?_,by simp⟩
  rw[aR,tX,List.append_nil,aR,aR,aJ,cE,cE,List.append_assoc]
 | false =>
  refine⟨_,_,xj h,?_,by simp⟩
  rw[aR,aR,cE,cE,Str.cps_append,Array.toList_append,List.append_assoc]
theorem jY:∀(cs:List Nat){S:List Str}{cur:Str},∃ S' vm,cs.foldl pst (S ++ [cur])=S' ++ [vm]/\chars (S' ++ [vm])=chars (S ++ [cur])++cs/\(S' ++ [vm]).length <=(S ++ [cur]).length+2*cs.length
 | [],S,cur=>⟨S,cur,rfl,by simp,by simp⟩
 | c::cs,S,cur=>by
  obtain⟨S1,c1,e1,h1,l1⟩:=DU (S:=S) (cur:=cur) (c:=c);obtain⟨S2,c2,e2,h2,l2⟩:=jY cs (S:=S1) (cur:=c1);refine⟨S2,c2,by rw[List.foldl_cons,e1,e2],by rw[h2,h1,List.append_assoc];rfl,?_⟩
  rw[List.length_cons];omega
theorem tW:∀ L:List Str,chars (L.filter nz)=chars L
 | []=>rfl
 | w::r=>by
  rw[List.filter_cons];cases h:nz w with
  | true=>rw[if_pos rfl,aJ,aJ,tW r]
  | false =>
   have e:w = "":=by simpa [nz]using h
   rw[if_neg (by decide),tW r,aJ,e,show(Str.ofString "").cps.toList = []from by decide +kernel,List.nil_append]
theorem zu(z:Str):Txt.join "" (pcs z.cps.toList)=z:=by
 refine fB ?_;rw[cz];show chars (pcs z.cps.toList)=_;obtain⟨S,cur,e,h,_⟩:=jY z.cps.toList (S:=[]) (cur:="");unfold pcs;rw[tW,show [("":Str)] = [] ++ [("":Str)]from rfl,e,h,List.nil_append,tX,List.nil_append]
theorem CS(z:Str):(pcs z.cps.toList).length<=1+2*z.length:=by
 obtain⟨S,cur,e,_,l⟩:=jY z.cps.toList (S:=[]) (cur:="");unfold pcs;refine Nat.le_trans (List.length_filter_le _ _) ?_;rw[show [("":Str)] = [] ++ [("":Str)]from rfl,e];refine Nat.le_trans l ?_;rw[Array.length_toList];exact Nat.le_refl _
theorem LH{m:Str}(h:cP m){c:Nat}(hc:c∈m.cps.toList):sgn c=false:=by
 have:=h c hc
 simp[sgn];omega
theorem Ah{S:List Str}:∀(cs:List Nat){cur:Str},(∀ c∈cs,sgn c=false)->cs.foldl pst (S ++ [cur])=S ++ [cur++⟨cs.toArray⟩]
 | [],cur,_=>by
  have e:cur++(⟨([]:List Nat).toArray⟩:Str)=cur:=fB (by rw[Str.cps_append];simp)
  rw[e];rfl
 | c::cs,cur,h=>by
  rw[List.foldl_cons,xj (h c List.mem_cons_self),Ah cs fun d hd=>h d (List.mem_cons_of_mem _ hd)]
  congr 2
  exact fB (by simp[Str.cps_append])
theorem dM{S L:List Str}:(S++L).filter nz=S.filter nz++L.filter nz:=List.filter_append ..
theorem MW{m:Str}(h:1<=m.length):nz m=true:=by unfold nz;rw[decide_eq_false (vX h)];rfl
theorem OI(c:Nat):nz (⟨#[c]⟩:Str)=true:=MW (Nat.le_refl 1)
theorem Hq{n:Nat}:∀{t:T},Vl n t->∀(S:List Str),∃ S' cur,(chars (tell n t)).foldl pst (S ++ [("":Str)])=S' ++ [cur]/\(S' ++ [cur]).filter nz=S.filter nz++tell n t:=by
 induction n with
 | zero=>intro t h;exact h.elim
 | succ n ih =>
  intro t h S;obtain⟨m,ps,rfl,m1,ml,hp⟩:=h;have M0:(chars [m]).foldl pst (S ++ [("":Str)])=S ++ [m]:=by
   rw[cE,Ah _ fun c hc=>LH ml hc]
   congr 2
   exact fB (by rw[Str.cps_append,Array.toList_append,show(Str.ofString "").cps.toList = []from by decide +kernel];simp)
  have Rx:∀(c:Nat)(S1:List Str)(cur:Str),sgn c=true -> [c].foldl pst (S1 ++ [cur]) =(S1 ++ [cur,(⟨#[c]⟩:Str)]) ++ [("":Str)]:=fun c S1 cur hc=>xi hc
  have rest:∀(qs:List T)(j:Nat)(S1:List Str)(cur:Str),(∀ q∈qs,Vl n q)->∃ S' vm,(chars ((qs.zipIdx j).flatMap fun p=>a6 p.2::tell n p.1)).foldl pst (S1 ++ [cur])=S' ++ [vm]/\(S' ++ [vm]).filter nz =(S1 ++ [cur]).filter nz++((qs.zipIdx j).flatMap fun p=>a6 p.2::tell n p.1):=by
   intro qs
   induction qs with
   | nil=>intro j S1 cur _;exact⟨S1,cur,rfl,by simp⟩
   | cons q r ihr =>
    intro j S1 cur hq;obtain⟨c,hc,hs⟩:∃ c,sgn c=true/\a6 j =⟨#[c]⟩:=by
     unfold a6;by_cases h0:j=0
     ·exact⟨40,rfl,by rw[if_pos h0];decide +kernel⟩
     ·exact⟨44,rfl,by rw[if_neg h0];decide +kernel⟩
    obtain⟨S2,c2,e2,f2⟩:=ih (hq q List.mem_cons_self) (S1 ++ [cur,(⟨#[c]⟩:Str)]);obtain⟨S3,c3,e3,f3⟩:=ihr (j+1) S2 c2 fun x hx=>hq x (List.mem_cons_of_mem _ hx)
    refine⟨S3,c3,?_,?_⟩
    ·rw[List.zipIdx_cons,List.flatMap_cons,aR,List.foldl_append];show List.foldl pst (List.foldl pst (S1 ++ [cur]) (chars (a6 j::tell n q))) _=_;rw[aJ,List.foldl_append,hs];show List.foldl pst (List.foldl pst ([c].foldl pst (S1 ++ [cur])) (chars (tell n q))) _=_;rw[Rx c S1 cur hc,e2];exact e3
    ·rw[f3,f2,List.zipIdx_cons,List.flatMap_cons,hs];rw[show S1 ++ [cur,(⟨#[c]⟩:Str)] =(S1 ++ [cur]) ++ [(⟨#[c]⟩:Str)]from by simp,dM (S:=S1 ++ [cur]),List.filter_cons,if_pos (OI c)]
     simp
  obtain⟨S2,c2,e2,f2⟩:=rest ps 0 S m hp;have e0:chars (tell (n+1) (.t [.s m,.t ps]))=chars [m]++(chars (ps.zipIdx.flatMap fun p=>a6 p.2::tell n p.1)++chars (if ps.isEmpty then []else [(")":Str)])):=by
   show chars (m ::(_++_))=_;rw[aJ,aR,cE]
  have fm:(S ++ [m]).filter nz=S.filter nz ++ [m]:=by rw[dM,List.filter_cons,if_pos (MW m1)];rfl
  cases ps with
  | nil =>
   refine⟨S,m,?_,by rw[fm];rfl⟩
   rw[e0,List.foldl_append,M0];rfl
  | cons p r =>
   refine⟨S2 ++ [c2,(")":Str)],"",?_,?_⟩
   ·rw[e0,List.foldl_append,M0,List.foldl_append,e2];show List.foldl pst (S2 ++ [c2]) (chars [(")":Str)])=_;rw[cE,show(Str.ofString ")").cps.toList = [41]from by decide +kernel]
    have:=Rx 41 S2 c2 rfl
    rw[show(⟨#[41]⟩:Str) = ")" from by decide +kernel]at this
    exact this
   ·rw[show(S2 ++ [c2,(")":Str)]) ++ [("":Str)] =(S2 ++ [c2]) ++ [(")":Str),("":Str)]from by simp,dM (S:=S2 ++ [c2]),f2,fm,show([(")":Str),("":Str)]:List Str).filter nz = [(")":Str)]from by decide +kernel]
    show _=S.filter nz++(m ::(_ ++ [(")":Str)]));simp
theorem sv{n:Nat}{t:T}(h:Vl n t):pcs (chars (tell n t))=tell n t:=by
 obtain⟨S,cur,e,f⟩:=Hq h [];unfold pcs;rw[show [("":Str)] = [] ++ [("":Str)]from rfl,e,f];rfl
inductive G0(ts:List T)(Q:T->Prop):Prop
 | mk(z:Str)(h1:ts = [.s z])(h2:z.length<=1500)(h3:Q (.l ((pcs z.cps.toList).map .s)))
theorem rL{n:Nat}(h:n<=10000):n<sizeLine:=eC (Nat.le_trans h (by decide))
theorem Iw{ks:List Kd}(g:c5 ks){n:Nat}{k:Str}{m:Mk1}{ps:List T}(hm:m∈cK ks k)(hl:m.2.length=ps.length)(hp:∀(j:Nat) f p,m.2[j]? = some f->ps[j]? = some p->isN ks n f p=true):isN ks (n+1) k (.t [.s m.1,.t ps])=true:=by
 rw[kJ,<- hl,x8 g hm];refine List.all_eq_true.mpr fun p hp'=>?_
 obtain⟨j,hj⟩:=List.getElem?_of_mem hp';obtain⟨h1,h2⟩:=List.getElem?_zip_eq_some.mp hj;exact hp j p.1 p.2 h1 h2
theorem O6{ks:List Kd}(g:c5 ks):∀{n:Nat}{k:Str}{t:T},isN ks n k t=true->isN ks (n+1) k t=true:=by
 intro n
 induction n with
 | zero=>intro k t h;cases h
 | succ n ih =>
  intro k t h;obtain⟨n',m,ps,e,rfl,hm,hl,hp⟩:=dR h;cases e;exact Iw g hm hl fun j f p hf hpj=>ih (hp j f p hf hpj)
theorem xR{ks:List Kd}(g:c5 ks){n m:Nat}{k:Str}{t:T}(h:n<=m)(hN:isN ks n k t=true):isN ks m k t=true:=by
 induction h with
 | refl=>exact hN
 | step _ ih=>exact O6 g ih
abbrev fl(n:Nat)(ps:List T)(i:Nat):List Str:=(ps.zipIdx i).flatMap fun p=>a6 p.2::tell n p.1
abbrev clo(ps:List T):List Str:=if ps.isEmpty then []else [(")":Str)]
theorem fG{n i:Nat}{p:T}{r:List T}:fl n (p::r) i=a6 i ::(tell n p++fl n r (i+1)):=by
 show(((p::r).zipIdx i).flatMap fun p=>a6 p.2::tell n p.1)=_
 rw[List.zipIdx_cons,List.flatMap_cons];rfl
theorem Ma{n i:Nat}{p:T}:∀{r:List T},fl n (r ++ [p]) i=fl n r i++a6 (i+r.length)::tell n p:=by
 intro r;show(((r ++ [p]).zipIdx i).flatMap fun p=>a6 p.2::tell n p.1)=_
 rw[List.zipIdx_append,List.flatMap_append];simp
theorem dY{n:Nat}{m:Str}{ps:List T}:tell (n+1) (.t [.s m,.t ps])=m ::(fl n ps 0++clo ps):=rfl
theorem xB{ks:List Kd}(g:c5 ks){k:Str}{m m':Mk1}(hm:m∈cK ks k)(hm':m'∈cK ks k)(e:m.1=m'.1):m=m':=by
 have h1:=x8 g hm;obtain⟨kd,hk,rfl,e2⟩:=nt hm;rw[e2]at hm hm';have nd:=sH hk g.mn;obtain⟨i,hi⟩:=List.getElem?_of_mem hm;obtain⟨j,hj⟩:=List.getElem?_of_mem hm';have a1:(kd.2.map (·.1))[i]? = some m.1:=by rw[List.getElem?_map,hi];rfl
 have a2:(kd.2.map (·.1))[j]? = some m.1:=by rw[List.getElem?_map,hj,e];rfl
 obtain⟨l1,z1⟩:=List.getElem?_eq_some_iff.mp a1;obtain⟨l2,z2⟩:=List.getElem?_eq_some_iff.mp a2;have hij:i=j:=(List.getElem_inj nd).mp (z1.trans z2.symm);rw[hij,hj]at hi;exact(Option.some.inj hi).symm
abbrev Pts(ks:List Kd)(n:Nat)(fs:List Str)(ps:List T):Prop:=∀(j:Nat) f p,fs[j]? = some f->ps[j]? = some p->isN ks n f p=true
theorem pf{ks:List Kd}(g:c5 ks):∀{n n':Nat}{k:Str}{t t':T}{A B:List Str},isN ks n k t=true->isN ks n' k t'=true->tell n t++A=tell n' t'++B->t=t'/\A=B:=by
 intro n
 induction n with
 | zero=>intro n' k t t' A B h;cases h
 | succ n ih =>
  intro n' k t t' A B h h' e;obtain⟨n0,m,ps,e0,rfl,hm,hl,hp⟩:=dR h;cases e0;obtain⟨n1,m',ps',e1,rfl,hm',hl',hp'⟩:=dR h';subst e1;have go:∀(fs:List Str)(i:Nat)(ps ps':List T)(A B:List Str),fs.length=ps.length->fs.length=ps'.length->Pts ks n fs ps->Pts ks n1 fs ps'->fl n ps i++A=fl n1 ps' i++B->ps=ps'/\A=B:=by
   intro fs
   induction fs with
   | nil =>
    intro i ps ps' A B l1 l2 _ _ e;rw[List.length_eq_zero_iff.mp l1.symm,List.length_eq_zero_iff.mp l2.symm]at e ⊢;exact⟨rfl,e⟩
   | cons f fs ihf =>
    intro i ps ps' A B l1 l2 q1 q2 e;cases ps with
    | nil=>cases l1
    | cons p r =>
     cases ps' with
     | nil=>cases l2
     | cons p' r' =>
      rw[fG,fG,List.cons_append,List.cons_append]at e;have e:=(List.cons.inj e).2;rw[List.append_assoc,List.append_assoc]at e;obtain⟨rfl,e5⟩:=ih (q1 0 f p rfl rfl) (q2 0 f p' rfl rfl) e;obtain⟨rfl,e6⟩:=ihf (i+1) r r' A B (Nat.succ.inj l1) (Nat.succ.inj l2) (fun j f p h1 h2=>q1 (j+1) f p h1 h2) (fun j f p h1 h2=>q2 (j+1) f p h1 h2) e5
      exact⟨rfl,e6⟩
  rw[dY,dY,List.cons_append,List.cons_append]at e;obtain⟨en,e7⟩:=List.cons.inj e;clear e;obtain rfl:=xB g hm hm' en;rw[List.append_assoc,List.append_assoc]at e7;obtain⟨rfl,e8⟩:=go m.2 0 ps ps' _ _ hl hl' hp hp' e7;exact⟨rfl,List.append_cancel_left e8⟩
theorem IS{n:Nat}{ps:List T}{j:Nat}(h:j<=ps.length):fl n ps 0=fl n (ps.take j) 0++fl n (ps.drop j) j:=by
 show(ps.zipIdx.flatMap fun p=>a6 p.2::tell n p.1)=_
 rw[vB j,List.flatMap_append,Nat.min_eq_left h]
theorem behind{ks:List Kd}(g:c5 ks){k:Str}{m:Mk1}(hm:m∈cK ks k){n:Nat}{ps:List T}{X:List Str}(hps:Pts ks n m.2 ps)(hj:ps.length<=m.2.length){n':Nat}{t:T}{rest:List Str}(hN:isN ks n' k t=true)
  (e:m.1 ::(fl n ps 0++X)=tell n' t++rest):∃(n1:Nat)(ps':List T),n'=n1+1/\t = .t [.s m.1,.t ps']/\m.2.length=ps'.length/\Pts ks n1 m.2 ps'/\ps'.take ps.length=ps/\X=fl n1 (ps'.drop ps.length) ps.length++(clo ps'++rest):=by
 obtain⟨n1,m',ps',e1,rfl,hm',hl',hp'⟩:=dR hN;subst e1;rw[dY,List.cons_append]at e;obtain⟨en,e7⟩:=List.cons.inj e;clear e;obtain rfl:=xB g hm hm' en;have hk:ps.length<=ps'.length:=by omega
 rw[IS hk,List.append_assoc,List.append_assoc]at e7;have go:∀(fs:List Str)(i:Nat)(ps qs:List T)(A B:List Str),fs.length=ps.length->fs.length=qs.length->Pts ks n fs ps->Pts ks n1 fs qs->fl n ps i++A=fl n1 qs i++B->qs=ps/\A=B:=by
  intro fs
  induction fs with
  | nil =>
   intro i ps qs A B l1 l2 _ _ e;rw[List.length_eq_zero_iff.mp l1.symm,List.length_eq_zero_iff.mp l2.symm]at e ⊢;exact⟨rfl,e⟩
  | cons f fs ihf =>
   intro i ps qs A B l1 l2 q1 q2 e;cases ps with
   | nil=>cases l1
   | cons p r =>
    cases qs with
    | nil=>cases l2
    | cons p' r' =>
     rw[fG,fG,List.cons_append,List.cons_append]at e;have e:=(List.cons.inj e).2;rw[List.append_assoc,List.append_assoc]at e;obtain⟨rfl,e5⟩:=pf g (q1 0 f p rfl rfl) (q2 0 f p' rfl rfl) e;obtain⟨rfl,e6⟩:=ihf (i+1) r r' A B (Nat.succ.inj l1) (Nat.succ.inj l2) (fun j f p h1 h2=>q1 (j+1) f p h1 h2) (fun j f p h1 h2=>q2 (j+1) f p h1 h2) e5
     exact⟨rfl,e6⟩
 have lt:(m.2.take ps.length).length=ps.length:=by rw[List.length_take];omega
 have lt':(ps'.take ps.length).length=ps.length:=by rw[List.length_take];omega
 have tk:∀{α:Type}{l:List α}{c j:Nat}{x:α},(l.take c)[j]? = some x->l[j]? = some x:=fun{α l c j x} h=>by
  rw[List.getElem?_take]at h
  split at h
  ·exact h
  ·cases h
 obtain⟨e1,e2⟩:=go (m.2.take ps.length) 0 ps (ps'.take ps.length) X _ lt (by rw[lt,lt']) (fun j f p h1 h2=>hps j f p (tk h1) h2) (fun j f p h1 h2=>hp' j f p (tk h1) (tk h2)) e7
 exact⟨n1,ps',rfl,rfl,hl',hp',e1,by rw[e2]⟩
def opn(bs:List Str):Nat:=bs.countP fun b=>decide (b =("(":Str))
theorem zv{bs:List Str}{i j:Nat}(h:i<=j):opn (bs.drop j)<=opn (bs.drop i):=by
 have e:bs.drop j =(bs.drop i).drop (j - i):=by rw[List.drop_drop];congr 1;omega
 rw[e];exact List.Sublist.countP_le (List.drop_sublist _ _)
inductive KO(N:Nat)(ts:List T)(Q:T->Prop):Prop
 | mk(ks:List Kd)(k:Str)(bs:List Str)(x:Int)(i:Nat)(h1:ts = [tKs ks,.s k,.l (bs.map .s),.i x])(h2:x =(i:Int))(h3:c5 ks)(h4:(∀ m∈names ks,1<=m.length/\m.length<=20/\cP m))(h5:k∈ks.map (·.1))(h6:bs.length<=9000)(h7:i<=bs.length)(h8:opn (bs.drop i)<N)(h9:(∀ n t rest,isN ks n k t=true->bs.drop i=tell n t++rest->∀ y:Int,y =((i+(tell n t).length:Nat):Int)->Q (.t [t,.i y])))(h10:((∀ n t rest,isN ks n k t=true->bs.drop i≠tell n t++rest)->Q .n))
theorem Mb{ks:List Kd}(g:c5 ks){n M:Nat}(h:n<=M){fs:List Str}{ps:List T}(hl:ps.length<=fs.length)(hp:Pts ks n fs ps)(i:Nat):fl M ps i=fl n ps i:=by
 refine jZ (h:=fun i=>[a6 i]) fun p hpm=>?_
 obtain⟨j,hj⟩:=List.getElem?_of_mem hpm;have hjl:j<fs.length:=Nat.lt_of_lt_of_le (List.getElem?_eq_some_iff.mp hj).1 hl;have hf:fs[j]? = some fs[j]:=by simp[hjl]
 have h1:=hp j _ p hf hj;exact oA (xR g h h1) h1
theorem zw{b:Str}{bs:List Str} (h:b = "("):opn (b::bs)=opn bs+1:=by
 unfold opn;rw[List.countP_cons_of_pos (by simp[h])]
theorem drop_tail{bs Y:List Str}{i:Nat}{b:Str}(h:bs.drop i=b::Y):i<bs.length/\bs[i]? = some b/\bs.drop (i+1)=Y:=by
 have h1:bs[i]? = some b:=by
  have:(bs.drop i)[0]? = some b:=by rw[h];rfl
  rw[List.getElem?_drop]at this;exact this
 refine⟨(List.getElem?_eq_some_iff.mp h1).1,h1,?_⟩
 have:bs.drop (i+1) =(bs.drop i).drop 1:=by rw[List.drop_drop]
 rw[this,h];rfl
def opz(z:Str):Nat:=z.cps.toList.countP fun c=>decide (c=40)
def opc(cs:List Nat):Nat:=cs.countP fun c=>decide (c=40)
theorem vU:∀ L:List Str,opn L<=opc (chars L)
 | []=>Nat.le_refl _
 | w::r=>by
  have ih:=vU r;rw[aJ];unfold opc at ih ⊢;rw[List.countP_append];by_cases h:w = "("
  ·rw[zw h,h,show(Str.ofString "(").cps.toList = [40]from by decide +kernel]
   have:List.countP (fun c=>decide (c=40)) [40]=1:=by decide
   omega
  ·have e:opn (w::r)=opn r:=by unfold opn;rw[List.countP_cons_of_neg (by simp[h])]
   omega
theorem vS(z:Str):chars (pcs z.cps.toList)=z.cps.toList:=by
 have h:(Txt.join "" (pcs z.cps.toList)).cps.toList=z.cps.toList:=by rw[zu z]
 rw[cz]at h;exact h
theorem Ld(z:Str):opn (pcs z.cps.toList)<=opz z:=by
 have:=vU (pcs z.cps.toList)
 rw[vS]at this;exact this
inductive Ol(ts:List T)(Q:T->Prop):Prop
 | mk(ks:List Kd)(k z:Str)(h1:ts = [tKs ks,.s k,.s z])(h2:c5 ks)(h3:(∀ m∈names ks,1<=m.length/\m.length<=20/\cP m))(h4:k∈ks.map (·.1))(h5:z.length<=1500)(h6:opz z<=60)(h7:(∀ n t,isN ks n k t=true->Txt.join "" (tell n t)=z->Q t))(h8:((∀ n t,isN ks n k t=true->Txt.join "" (tell n t)≠z)->Q .n))
open PyProof.Rows in
theorem DH(z:Str)(lo hi:Option Int):(Txt.slice z lo hi).cps.toList.Sublist z.cps.toList:=by
 unfold Txt.slice
 split
 ·exact List.Sublist.refl _
 ·obtain⟨h1,h2,h3⟩:=mU lo hi z.length;have e:Builtin.Str.strSliceIndices lo hi 1 z.length=sliceRange (sliceBounds lo hi none z.length).1 (sliceBounds lo hi none z.length).2.1 1:=rfl;show(List.filterMap (fun x=>z.cps[x]?) (Builtin.Str.strSliceIndices lo hi 1 z.length)).Sublist _
  rw[e,h1,h2,sliceRange_one,pick_run];exact(List.take_sublist _ _).trans (List.drop_sublist _ _)
theorem D7(z:Str)(lo hi:Option Int):opz (Txt.slice z lo hi)<=opz z:=List.Sublist.countP_le (DH z lo hi)
theorem fF(x y:Str):opz (x++y)=opz x+opz y:=by unfold opz;rw[Str.cps_append,Array.toList_append,List.countP_append]
theorem xn{m:Str}(h:cP m):opz m=0:=List.countP_eq_zero.mpr fun c hc=>by have:=h c hc;simp;omega
theorem xo(L:List Str):opz (Txt.join "" L)=opc (chars L):=by unfold opz opc;rw[cz];rfl
theorem tE(sep:Str):∀(rest:List Str)(acc:Array Nat),opc (rest.foldl (fun acc p=>acc++sep.cps++p.cps) acc).toList=opc acc.toList+(rest.map opz).sum+rest.length*opz sep
 | [],acc=>by simp
 | p::r,acc=>by
  rw[List.foldl_cons,tE sep r];have e:opc (acc++sep.cps++p.cps).toList=opc acc.toList+opz sep+opz p:=by unfold opc opz;rw[Array.toList_append,Array.toList_append,List.countP_append,List.countP_append]
  rw[e,List.map_cons,List.sum_cons,List.length_cons,Nat.add_mul,Nat.one_mul];omega
theorem vT(sep:Str):∀ parts:List Str,parts ≠ []->opz (Builtin.Str.glued sep parts) =(parts.map opz).sum+(parts.length - 1)*opz sep
 | [],h=>absurd rfl h
 | p::r,_=>by
  show opc (r.foldl (fun acc q=>acc++sep.cps++q.cps) p.cps).toList=_
  rw[tE,List.map_cons,List.sum_cons,List.length_cons,Nat.add_sub_cancel];rfl
theorem Hu(x y z:Str)(h:opz z<=opz y):opz (Txt.replace x y z)<=opz x:=by
 unfold Txt.replace
 split
 ·exact Nat.le_refl _
 ·have hne:Builtin.Str.partsBetween x (Builtin.Str.occurrences x y 0 x.length (x.length+1)) y.length ≠ []:=fun e=>by
   have:=length_partsBetween x (Builtin.Str.occurrences x y 0 x.length (x.length+1)) y.length
   rw[e]at this;simp at this
  have hy:=congrArg opz (StrLaws.glued_between_self x y (x.length+1));rw[vT _ _ hne]at hy;rw[vT _ _ hne,<- hy];exact Nat.add_le_add_left (Nat.mul_le_mul_left _ h) _
theorem Nn:∀ n:Fin 26,opc (Unicode.upperOf (97+n.val))=0:=by decide +kernel
theorem AQ:opc (Unicode.upperOf 40)=1/\opc (Unicode.upperOf 44)=0/\opc (Unicode.upperOf 41)=0:=by decide +kernel
def Lz(z:Str):Prop:=∀ c∈z.cps.toList,(97<=c/\c<=122)\/sgn c=true
theorem Cp:∀(l:List Nat)(f:Nat->Nat->Array Nat),(∀ i c,f i c =(Unicode.upperOf c).toArray) ->(∀ c∈l,(97<=c/\c<=122)\/sgn c=true)->opc ((l.mapIdx f).map Array.toList).flatten<=opc l
 | [],_,_,_=>Nat.le_refl _
 | c::l,f,hf,h=>by
  rw[List.mapIdx_cons,List.map_cons,List.flatten_cons,hf];have ih:=Cp l (fun i=>f (i+1)) (fun i c=>hf (i+1) c) fun d hd=>h d (List.mem_cons_of_mem _ hd)
  have h1:opc (Unicode.upperOf c)<=opc [c]:=by
   rcases h c List.mem_cons_self with z|z
   ·have:=Nn ⟨c - 97,by omega⟩
    rw[show 97+(c - 97)=c from by omega]at this
    rw[this];exact Nat.zero_le _
   ·simp[sgn]at z;rcases z with(rfl|rfl)|rfl
    ·rw[AQ.1];decide
    ·rw[AQ.2.1];exact Nat.zero_le _
    ·rw[AQ.2.2];exact Nat.zero_le _
  have h2:opc (c::l)=opc [c]+opc l:=by unfold opc;rw[<- List.countP_append];rfl
  have h3:∀ xs ys:List Nat,opc (xs++ys)=opc xs+opc ys:=fun xs ys=>List.countP_append ..
  rw[h2,h3];exact Nat.add_le_add h1 ih
theorem D6{z:Str}(h:Lz z):opz (Txt.upper z)<=opz z:=by
 have:=Cp z.cps.toList (fun i c=>(Unicode.upperOf c).toArray) (fun _ _=>rfl) h
 unfold Txt.upper opz placed;show List.countP _ (Array.flatten _).toList<=_;rw[Array.toList_flatten,Array.toList_mapIdx];exact this
theorem dy(xs ys:List Nat):opc (xs++ys)=opc xs+opc ys:=List.countP_append ..
theorem J1{ks:List Kd}(hL:∀ m∈names ks,1<=m.length/\m.length<=20/\cP m):∀{n:Nat}{k:Str}{t:T},isN ks n k t=true ->(chars (tell n t)).length+1<=22*wt n t/\opc (chars (tell n t))+1<=wt n t/\(∀ c∈chars (tell n t),(97<=c/\c<=122)\/sgn c=true)/\1 <=(chars (tell n t)).length:=by
 intro n
 induction n with
 | zero=>intro k t h;cases h
 | succ n ih =>
  intro k t h;obtain⟨n',m,ps,e,rfl,hm,hl,hp⟩:=dR h;cases e;obtain⟨m1,m2,m3⟩:=hL _ (oW hm);have hps:∀ p∈ps,∃ f,isN ks n f p=true:=fun p hpm=>by
   obtain⟨j,hj⟩:=List.getElem?_of_mem hpm;have hjl:j<m.2.length:=by rw[hl];exact(List.getElem?_eq_some_iff.mp hj).1
   exact⟨_,hp j _ p (by simp[hjl]:m.2[j]? = some m.2[j]) hj⟩
  have go:∀(ps:List T)(i:Nat),(∀ p∈ps,∃ f,isN ks n f p=true) ->(chars (fl n ps i)).length<=22*(ps.map (wt n)).sum/\opc (chars (fl n ps i)) <=(ps.map (wt n)).sum/\∀ c∈chars (fl n ps i),(97<=c/\c<=122)\/sgn c=true:=by
   intro ps
   induction ps with
   | nil=>intro i _;exact⟨Nat.le_refl _,Nat.le_refl _,fun c hc=>absurd hc List.not_mem_nil⟩
   | cons p r ihr =>
    intro i hh;obtain⟨f,hf⟩:=hh p List.mem_cons_self;obtain⟨a1,a2,a3,_⟩:=ih hf;obtain⟨b1,b2,b3⟩:=ihr (i+1) fun q hq=>hh q (List.mem_cons_of_mem _ hq)
    obtain⟨c,hc,hs⟩:∃ c,sgn c=true/\a6 i =⟨#[c]⟩:=by
     unfold a6;by_cases h0:i=0
     ·exact⟨40,rfl,by rw[if_pos h0];decide +kernel⟩
     ·exact⟨44,rfl,by rw[if_neg h0];decide +kernel⟩
    rw[fG,aJ,aR,hs];show([c]++(chars (tell n p)++chars (fl n r (i+1)))).length<=_/\opc ([c]++(chars (tell n p)++chars (fl n r (i+1))))<=_/\∀ d ∈ [c]++(chars (tell n p)++chars (fl n r (i+1))),_
    rw[List.map_cons,List.sum_cons];refine⟨?_,?_,fun d hd=>?_⟩
    ·rw[List.length_append,List.length_append,List.length_singleton];omega
    ·rw[dy,dy]
     have:opc [c]<=1:=by unfold opc;exact List.countP_le_length
     omega
    ·rcases List.mem_append.mp hd with z|z
     ·rw[List.mem_singleton.mp z];exact .inr hc
     ·rcases List.mem_append.mp z with z|z
      ·exact a3 d z
      ·exact b3 d z
  obtain⟨g1,g2,g3⟩:=go ps 0 hps;have EI:(chars (clo ps)).length<=1/\opc (chars (clo ps))=0/\∀ c∈chars (clo ps),(97<=c/\c<=122)\/sgn c=true:=by
   cases ps with
   | nil=>exact⟨Nat.zero_le _,rfl,fun c hc=>absurd hc List.not_mem_nil⟩
   | cons p r =>
    have e:chars (clo (p::r)) = [41]:=by show chars [(")":Str)]=_;rw[cE];decide +kernel
    rw[e];exact⟨Nat.le_refl _,by decide,fun c hc=>by rw[List.mem_singleton.mp hc];exact .inr rfl⟩
  obtain⟨c1,c2,c3⟩:=EI;have hml:m.1.cps.toList.length=m.1.length:=Array.length_toList;rw[dY,aJ,aR];show _<=22*(1+(ps.map (wt n)).sum)/\_<=1+(ps.map (wt n)).sum/\_/\_;refine⟨?_,?_,fun c hc=>?_,?_⟩
  ·rw[List.length_append,List.length_append];omega
  ·rw[dy,dy,c2,show opc m.1.cps.toList=0 from xn m3];omega
  ·rcases List.mem_append.mp hc with z|z
   ·exact .inl (m3 c z)
   ·rcases List.mem_append.mp z with z|z
    ·exact g3 c z
    ·exact c3 c z
  ·rw[List.length_append];omega
theorem nI{α:Type}(xs:List α)(lo hi:Option Int):(cu xs lo hi).Sublist xs:=by unfold cu;exact(List.take_sublist _ _).trans (List.drop_sublist _ _)
theorem E8{xs ys:List Str}(h:xs.Sublist ys):(chars xs).length <=(chars ys).length/\opc (chars xs)<=opc (chars ys):=by
 have hs:(chars xs).Sublist (chars ys):=by
  induction h with
  | slnil=>exact List.Sublist.refl _
  | cons x _ ih=>rw[aJ];exact ih.trans (List.sublist_append_right _ _)
  | cons_cons x _ ih=>rw[aJ,aJ];exact(List.Sublist.refl _).append ih
 exact⟨hs.length_le,List.Sublist.countP_le hs⟩
def kn(y:Str):Prop:=y.length<=1500/\opz y<=45
inductive GZ(ts:List T)(Q:T->Prop):Prop
 | mk(ks:List Kd)(z:Str)(h1:ts = [.jc,tKs ks,.s z])(h2:c5 ks)(h3:(∀ m∈names ks,1<=m.length/\m.length<=20/\cP m))(h4:1<=z.length)(h5:z.length<=462)(h6:opz z<=20)(h7:∀ y,kn y->Q (.s y))
inductive Q7(ts:List T)(Q:T->Prop):Prop
 | mk(ks:List Kd)(z:Str)(h1:ts = [tKs ks,.s z])(h2:c5 ks)(h3:(∀ m∈names ks,1<=m.length/\m.length<=20/\cP m))(h4:Lz z)(h5:z.length<=462)(h6:opz z<=20)(h7:∀ ys:List Str,ys.length<=200 ->(∀ y∈ys,kn y)->Q (.l (ys.map .s)))
def exS:List Str:=["(",")",","," ","()","a","A","0","_"]
def Mu(z:Str):List Str:=[""," ","(",")","()",",","0","A","_","1","a b",z++(" ":Str),(" ":Str)++z,z++(")":Str),("(":Str)++z,("(":Str)++z++(")":Str),z++("()":Str),z++(",":Str),(",":Str)++z,z++z,z++("\n":Str),z++("q":Str),Txt.upper z,z++(",":Str)++z,Txt.replace z "," ", ",Txt.replace z "(" " (",Txt.replace z ")" ",)"]
theorem kn.two{z w:Str}(h1:z.length<=462)(h2:opz z<=20)(w1:w.length<=20)(w2:opz w<=1):kn (z++w)/\kn (w++z):=by
 unfold kn;rw[fF,fF,Str.length_append,Str.length_append];omega
open PyProof.Rows in
theorem Mt{z:Str}(hz:Lz z)(h1:z.length<=462)(h2:opz z<=20):∀ y∈Mu z,kn y:=by
 have c:∀ w:Str,w.length<=20->opz w<=1->kn w:=fun w a b=>⟨by omega,by omega⟩
 have r:∀ y w:Str,w.length<=2->opz w<=opz y->kn (Txt.replace z y w):=fun y w a b=>by
  have l:=HZ z y w;have m:(z.length+1)*w.length <=(462+1)*2:=Nat.mul_le_mul (by omega) a
  exact⟨by omega,Nat.le_trans (Hu z y w b) (by omega)⟩
 have z1:∀ w:Str,w.length<=20->opz w<=1->kn (z++w):=fun w a b=>(kn.two h1 h2 a b).1
 have z2:∀ w:Str,w.length<=20->opz w<=1->kn (w++z):=fun w a b=>(kn.two h1 h2 a b).2
 unfold Mu;refine List.forall_mem_cons.mpr ⟨c _ (by decide +kernel) (by decide +kernel),List.forall_mem_cons.mpr ⟨c _ (by decide +kernel) (by decide +kernel),List.forall_mem_cons.mpr ⟨c _ (by decide +kernel) (by decide +kernel),List.forall_mem_cons.mpr ⟨c _ (by decide +kernel) (by decide +kernel),List.forall_mem_cons.mpr ⟨c _ (by decide +kernel) (by decide +kernel),List.forall_mem_cons.mpr ⟨c _ (by decide +kernel) (by decide +kernel),List.forall_mem_cons.mpr ⟨c _ (by decide +kernel) (by decide +kernel),List.forall_mem_cons.mpr ⟨c _ (by decide +kernel) (by decide +kernel),List.forall_mem_cons.mpr ⟨c _ (by decide +kernel) (by decide +kernel),List.forall_mem_cons.mpr ⟨c _ (by decide +kernel) (by decide +kernel),List.forall_mem_cons.mpr ⟨c _ (by decide +kernel) (by decide +kernel),?_⟩⟩⟩⟩⟩⟩⟩⟩⟩⟩⟩
 refine List.forall_mem_cons.mpr ⟨z1 _ (by decide +kernel) (by decide +kernel),List.forall_mem_cons.mpr ⟨z2 _ (by decide +kernel) (by decide +kernel),List.forall_mem_cons.mpr ⟨z1 _ (by decide +kernel) (by decide +kernel),List.forall_mem_cons.mpr ⟨z2 _ (by decide +kernel) (by decide +kernel),List.forall_mem_cons.mpr ⟨?_,List.forall_mem_cons.mpr ⟨z1 _ (by decide +kernel) (by decide +kernel),List.forall_mem_cons.mpr ⟨z1 _ (by decide +kernel) (by decide +kernel),List.forall_mem_cons.mpr ⟨z2 _ (by decide +kernel) (by decide +kernel),List.forall_mem_cons.mpr ⟨?_,List.forall_mem_cons.mpr ⟨z1 _ (by decide +kernel) (by decide +kernel),List.forall_mem_cons.mpr ⟨z1 _ (by decide +kernel) (by decide +kernel),List.forall_mem_cons.mpr ⟨?_,List.forall_mem_cons.mpr ⟨?_,List.forall_mem_cons.mpr ⟨r _ _ (by decide +kernel) (by decide +kernel),List.forall_mem_cons.mpr ⟨r _ _ (by decide +kernel) (by decide +kernel),List.forall_mem_cons.mpr ⟨r _ _ (by decide +kernel) (by decide +kernel),yE⟩⟩⟩⟩⟩⟩⟩⟩⟩⟩⟩⟩⟩⟩⟩⟩
 ·have a1:(Str.ofString "(").length=1/\(Str.ofString ")").length=1/\opz "(" = 1/\opz ")" = 0:=by decide +kernel
  refine⟨?_,?_⟩
  ·rw[Str.length_append,Str.length_append];omega
  ·rw[fF,fF];omega
 ·refine⟨?_,?_⟩
  ·rw[Str.length_append];omega
  ·rw[fF];omega
 ·exact⟨Nat.le_trans (len_upper z) (by omega),Nat.le_trans (D6 hz) (by omega)⟩
 ·have a1:(Str.ofString ",").length=1/\opz "," = 0:=by decide +kernel
  refine⟨?_,?_⟩
  ·rw[Str.length_append,Str.length_append];omega
  ·rw[fF,fF];omega
theorem MI:∀{n:Nat}{t:T},Tx n t->Tx (n+1) t
 | 0,_,h=>.inl h
 | _+1,_,.inl h=>.inl h
 | _+1,_,.inr ⟨ts,e,h⟩=>.inr ⟨ts,e,fun x hx=>MI (h x hx)⟩
theorem PV{n m:Nat}{t:T}(h:n<=m)(x:Tx n t):Tx m t:=by
 induction h with
 | refl=>exact x
 | step _ ih=>exact MI ih
theorem Hv{n:Nat}{p:T}:∀{ps:List T}{i:Nat},p∈ps->opc (chars (tell n p))<=opc (chars (fl n ps i))
 | q::r,i,h=>by
  rw[fG,aJ,aR,dy,dy];rcases List.mem_cons.mp h with z|z
  ·rw[z];omega
  ·have:=Hv (n:=n) (i:=i+1) z
   omega
theorem PU{ks:List Kd}:∀{n:Nat}{k:Str}{t:T},isN ks n k t=true->Tx (2*opc (chars (tell n t))+2) t:=by
 intro n
 induction n with
 | zero=>intro k t h;cases h
 | succ n ih =>
  intro k t h;obtain⟨n',m,ps,e,rfl,hm,hl,hp⟩:=dR h;cases e;refine .inr ⟨_,rfl,fun x hx=>?_⟩
  rcases List.mem_cons.mp hx with z|z
  ·rw[z];exact .inl ⟨_,rfl⟩
  ·rw[List.mem_singleton.mp z];refine .inr ⟨_,rfl,fun p hpm=>?_⟩
   obtain⟨j,hj⟩:=List.getElem?_of_mem hpm;have hjl:j<m.2.length:=by rw[hl];exact(List.getElem?_eq_some_iff.mp hj).1
   have hN:=hp j _ p (by simp[hjl]:m.2[j]? = some m.2[j]) hj
   refine PV ?_ (ih hN);have h1:opc (chars (tell n p))+1<=opc (chars (fl n ps 0)):=by
    cases ps with
    | nil=>exact absurd hpm List.not_mem_nil
    | cons q r =>
     rw[fG,aJ,aR,dy,dy,show opc (a6 0).cps.toList=1 from by decide +kernel]
     rcases List.mem_cons.mp hpm with z|z
     ·rw[z];omega
     ·have:=Hv (n:=n) (i:=0+1) z
      omega
   have h2:opc (chars (fl n ps 0))<=opc (chars (tell (n+1) (.t [.s m.1,.t ps]))):=by
    rw[dY,aJ,aR,dy,dy];omega
   omega
theorem rF{ks:List Kd}(gk:c5 ks)(hL:∀ m∈names ks,1<=m.length/\m.length<=20/\cP m){n n':Nat}{k:Str}{t t':T}(h:isN ks n k t=true)(h':isN ks n' k t'=true)(e:Txt.join "" (tell n t)=Txt.join "" (tell n' t')):t=t':=by
 have ec:chars (tell n t)=chars (tell n' t'):=by
  have z:(Txt.join "" (tell n t)).cps.toList =(Txt.join "" (tell n' t')).cps.toList:=by rw[e]
  rw[cz,cz]at z;exact z
 have et:tell n t=tell n' t':=by rw[<- sv (g6 gk hL h).2.1,ec,sv (g6 gk hL h').2.1]
 exact(pf (A:=[]) (B:=[]) gk h h' (by rw[et])).1
theorem wV{ks:List Kd}{n:Nat}{k:Str}{t:T}{Q:T->Prop}(h:isN ks n k t=true)(ho:opz (Txt.join "" (tell n t))<=45)(hq:Q (.b false)):N7 t t Q:=by
 have hx:=PU h;rw[xo]at ho;obtain⟨n',m,ps,e,rfl,_⟩:=dR h;rcases hx with⟨x,z⟩ |⟨ts,z,hx⟩
 ·cases z
 ·cases z;exact⟨rfl,⟨_,by omega,hx⟩,hq⟩
theorem qv7{i:Nat}{q:Sq}{t:T}{R:T->Prop}(h:R t)(e:q[i]? = some (.o t):=by rfl):rZ i q R:=by unfold rZ;rw[e];exact h
section
variable{P:Program}{w:World}{K:W.Frag}{mg:Str->Option Value}{base:Heap}{a:Adr}
theorem nj(T:Txt K mg a):bG P w K mg base CX0 1 a.fk a.j8 ["_law_deal_here","_law_many"] F4:=by
 refine T.bM.ok qO (fun vs H Q E h=>?_) (fun cdv A outer s H vs Q E hr h=>?_)
 ·obtain⟨d,l,m,rfl,_⟩:=h;rfl
 ·obtain⟨d,l,m,rfl,⟨s0,n0,ls0,D0⟩,m0,m1,k⟩:=h;have hu:=de hr;refine⟨_,((aY (zj PassesOwn.never (PW.pt (GU (ed vV (iU hu (pv 0) b6 (fun _ _=>rfl)) br (aG _)) (CK (ed pT (il jh (by rfl) T.dN PySem.boot_len (aQ (iU hu (pv 0) b6 (fun _ _=>rfl)) bE)) br (aG _)))))
 (bp (qT hu (pv 0) b6 (so PySem.F.plainAttrs_list PySem.F.slot_list_pop PySem.F.type_list_pop xA (iU hu (pv 0) b6 (fun _ _=>rfl))) rfl)))
 (aY (fO (i:=2) qO.nd rfl (Or.inl rfl) (iU hu (pv 0) b6 (fun _ _=>rfl)))
 (aY (pQ (ed pT (pv 2) br (aG _))
 (aY (qT hu (pv 0) b6 (dc zx (pv 2) (pv 1)) rfl)
 (bp (l6 (dc iV (pv 2) (pv 1)))))
 m9)
 (aY (fO (i:=3) qO.nd rfl (Or.inl rfl) (dc iV (dc oQ (dc mv (iU hu (pv 0) b6 (fun _ _=>rfl)) br) br) br))
 (aY (qT hu (pv 0) b6 (dc iV (dc oQ (dc mv (pv 3) br) br) br) rfl)
 (aY (fO (i:=4) qO.nd rfl (Or.inl rfl) (dc iV (dc mv (iU hu (pv 0) b6 (fun _ _=>rfl)) (iU hu (pv 0) b6 (fun _ _=>rfl))) br))
 (bp (l6 (dc iV (dc oQ (dc mv (dc iV (dc mv (pv 3) (pv 3)) br) br) (pv 4)) (pv 1))))))))))),?_⟩
  refine DB (fun c σ H1=>∃ s n ls,σ = [some (.ref d),some (.int m),none,none,none]/\c6 H1 d l s n ls/\Kp d l H H1/\c=ls.length) ⟨s0,n0,ls0,rfl,D0,Kp.refl,rfl⟩ ?_ ?_
  ·rintro c σ H1 ⟨s1,n1,ls,rfl,D,K1,rfl⟩
   refine⟨_,rfl,d,_,rfl,D.RR,?_⟩;refine⟨_,rfl,_,_,rfl,rfl,_,rfl,?_⟩;refine bF (fun h1=>?_) (fun h1=>?_)
   ·have h1:0<n1:=of_decide_eq_true h1;have q0:0<=n1 / m:=Int.ediv_nonneg (by omega) (by omega)
    refine⟨_,rfl,_,rfl,_,_,rfl,rfl,⟨m0,m1⟩,_,rfl,d,_,rfl,D.Q8,?_⟩;refine⟨_,rfl,_,rfl,_,_,rfl,rfl,m0,?_⟩;exact k _ _ (mod_lt m0).1 (mod_lt m0).2 ⟨_,_,_,D.num q0⟩ K1.Nm
   ·have b1:=mod_lt (x:=s1*48271+7919) (m:=2147483647) (by decide)
    refine⟨_,rfl,d,_,rfl,D.IL,_,_,rfl,rfl,.inr ⟨by decide,by decide⟩,_,_,rfl,rfl,_,_,rfl,rfl,(by show(0:Int)<2147483647;decide),?_⟩
    have b2:=mod_lt (x:=(s1*48271+7919) % 2147483647*40692+104729) (m:=2147483399) (by decide)
    refine⟨_,rfl,_,_,rfl,rfl,.inr ⟨by decide,by decide⟩,_,_,rfl,rfl,_,_,rfl,rfl,(by show(0:Int)<2147483399;decide),_,rfl,d,_,rfl,D.QY,?_⟩
    have D2:=D.SA (m:=((s1*48271+7919) % 2147483647*40692+104729) % 2147483399) b2.1 (by omega)
    refine⟨_,rfl,d,_,rfl,D2.IL,_,rfl,d,_,rfl,D2.IL,_,_,rfl,rfl,.inl ⟨by omega,by omega⟩,_,_,rfl,rfl,(by show(0:Int)<2147483563;decide),?_⟩
    have b4:=mod_lt (x:=(s1*48271+7919) % 2147483647*((s1*48271+7919) % 2147483647)) (m:=2147483629) (by decide)
    refine⟨_,rfl,_,rfl,_,_,rfl,rfl,.inl ⟨by omega,by omega⟩,_,_,rfl,rfl,(by show(0:Int)<2147483629;decide),_,_,rfl,rfl,.inr ⟨by decide,by decide⟩,_,rfl,_,_,rfl,rfl,_,rfl,_,_,rfl,rfl,m0,?_⟩
    exact k _ _ (mod_lt m0).1 (mod_lt m0).2 ⟨_,_,_,D2⟩ K1.Nm
  ·rintro c σ H1 ⟨s1,n1,ls,rfl,D,K1,rfl⟩ hx
   refine⟨_,rfl,d,_,rfl,D.RR,rfl,_,rfl,?_⟩;refine bF (fun h1=>?_) (fun h1=>hx)
   refine⟨_,rfl,d,_,rfl,D.M7,l,_,rfl,.inl (SqL.of D.hl),_,_,rfl,rfl,_,rfl,?_⟩;refine bF (fun h2=>?_) (fun h2=>hx)
   have h2:(0:Int)<((ls.map V.int).length:Int):=of_decide_eq_true h2;rcases List.eq_nil_or_concat ls with rfl |⟨ls',x,rfl⟩
   ·simp at h2
   ·have hl':H1 l=some (.lst (ls'.map V.int ++ [.int x])):=by simpa using D.hl
    refine⟨fun σ' H'=>∃ s n ls2,σ' = [some (.ref d),some (.int m),none,none,none]/\c6 H' d l s n ls2/\Kp d l H H'/\ls2.length<(ls' ++ [x]).length,fun σ' H' ⟨s2,n2,ls2,e,D2,K2,h⟩=>⟨ls2.length,by simpa using h,s2,n2,ls2,e,D2,K2,rfl⟩,?_⟩
    have x0:0<=x:=D.l0 x (by simp)
    have D2:=D.list (ls':=ls') fun y hy=>D.l0 y (by simp[hy])
    refine⟨_,rfl,d,_,rfl,D.M7,.inl ⟨rfl,_,SqL.of hl'⟩,l,_,.int x,rfl,rfl,hl',(by simp),?_⟩
    rw[List.dropLast_concat];refine⟨_,rfl,d,_,rfl,D2.Q8,?_⟩;exact⟨_,_,ls',rfl,D2.num x0,(K1.Sw).Nm,by simp⟩
theorem Ln(T:Txt K mg a):bG P w K mg base CX0 1 a.jb a.yg ["_law_script","_law_base"] (F6 K):=by
 refine T.uz.ok mY (fun vs H Q E h=>?_) (fun cdv A outer s H vs Q E hr h=>?_)
 ·obtain⟨a,ns,b,rfl,_⟩:=h;rfl
 ·obtain⟨p0,ns,b,rfl,hS,hlen,b0,b1,k⟩:=h;have hu:=de hr;refine⟨_,((aY (CN (i:=2) mY.nd rfl (Or.inl rfl) rfl (qU (zq Cz (pv 0) (xk (pv 1)) (xk br))) (N':=["_law_cell"]) (.own rfl .nil) (fun _ _ _ _ _=>⟨(aA (i:=0) (show(["_law_cell"]:List Str).Nodup from by decide +kernel) rfl (Or.inl rfl)),CM,(il (pB rfl) (by rfl) T.Jw (by kernel_rfl) (aQ (pv 0) (aQ (dc Hw br (pv 0)) bE)))⟩))
 (aY (fO (i:=3) mY.nd rfl (Or.inl rfl) (dc oQ br (pv 1)))
 (aY (Ba PassesOwn.never rfl (qU (pv 2)) (aA (i:=4) mY.nd rfl (Or.inl rfl))
 (bp (fO (i:=3) mY.nd rfl (Or.inl rfl) (dc iV (dc oQ (dc mv (pv 3) br) (dc iV (pv 4) br)) br))))
 (bp (l6 (Lb (sg b6 (pv 3) (sg b6 br (sg b6 (sk rfl rfl T.B9 rfl T.ug (CP rfl (qU (pv 2)) (N':=["_law_cell"]) (.own rfl .nil) (fun _ _ _ _ _=>⟨(aA (i:=0) (show(["_law_cell"]:List Str).Nodup from by decide +kernel) rfl (Or.inl rfl)),(CL (ed Hy (pv 0) (dc Ov br br) (aG _))),(pv 0)⟩))) KR))) rfl rfl (by intro z;cases z) (by decide)))))))),?_⟩
  obtain⟨cs,ecs,lcs⟩:=Ji ns (some b) (some 63);refine⟨_,rfl,_,rfl,_,rfl,_,rfl,p0,_,rfl,hS,fun p hp=>⟨p,rfl,⟨_,SqL.of ao⟩,?_⟩⟩
  rw[ecs];have s1:mK H (upd H p (.lst (cs.map V.int))):=(mK.refl H).new hp;refine wc (K:=K) (a:=p) (xs:=cs.map V.int) (fun i ys σ' H'=>∃ zs:List Int,ys=zs.map V.int/\(∀ z∈zs,0<=z)/\zs.length=i/\(∃ o,σ' = [o])/\H'=upd H p (.lst (cs.map V.int))) ⟨[],rfl,by simp,rfl,⟨_,rfl⟩,rfl⟩ ?_ ?_ ?_
  ·rintro i ys σ' H' hi ⟨zs,rfl,_,hz,_,rfl⟩
   refine⟨SqL.of ao,?_⟩;rw[List.length_map]at hi ⊢;exact aK (by omega)
  ·rintro i x ys σ' H' hi ⟨zs,rfl,z0,hz,⟨o,rfl⟩,rfl⟩
   obtain⟨c,rfl⟩:=int_at hi;refine L7 ?_;refine⟨_,rfl,_,rfl,_,_,rfl,rfl,_,_,rfl,?_⟩;refine⟨zs ++ [if 0 - c > c then 0 - c else c],by simp,?_,by simp[hz],⟨_,rfl⟩,rfl⟩
   intro z hz';rcases List.mem_append.mp hz' with h|h
   ·exact z0 z h
   ·rw[List.mem_singleton.mp h]
    split <;> omega
  ·rintro ys σ' H' ⟨zs,rfl,z0,hz,_,rfl⟩ D hD
   have s2:mK H (upd (upd H p (.lst (cs.map V.int))) D (.lst (zs.map V.int))):=s1.new hD;have hcD:(upd (upd H p (.lst (cs.map V.int))) D (.lst (zs.map V.int))) D=some (.lst (zs.map V.int)):=ao
   generalize upd (upd H p (.lst (cs.map V.int))) D (.lst (zs.map V.int))=H2 at s2 hcD ⊢
   refine⟨_,rfl,_,_,rfl,rfl,?_⟩;refine⟨_,rfl,D,rfl,⟨_,SqL.of hcD⟩,IQ (K:=K) (a:=D) (xs:=zs.map V.int) (fun i σ' H'=>∃(n:Int)(o:Option V),σ' = [some (.ref p0),some (.int b),some (.ref D),some (.int n),o]/\0<=n/\n<2147483647/\H2=H')
    ⟨_,_,rfl,by omega,by omega,rfl⟩ (fun i σ' H' _ ⟨_,_,_,_,_,e⟩=>by rw[<- e];exact SqL.of hcD) ?_ ?_⟩
   ·rintro i y σ' H' hi ⟨n,o,rfl,n0,n1,rfl⟩
    obtain⟨z,rfl⟩:=int_at hi;refine⟨_,rfl,_,_,rfl,rfl,.inr ⟨by decide,by decide⟩,_,rfl,_,_,rfl,rfl,(by show(0:Int)<2147483629;decide),_,_,rfl,rfl,_,_,rfl,rfl,(by show(0:Int)<2147483647;decide),?_⟩
    exact⟨_,_,rfl,(mod_lt (by decide)).1,(mod_lt (by decide)).2,rfl⟩
   ·rintro σ' H' ⟨n,o,rfl,n0,n1',rfl⟩
    intro pd hpd;have Ph:(upd H2 pd (.dK [])) D=some (.lst (zs.map V.int)):=by rw[ag (ar hcD hpd)];exact hcD
    have s3:mK H (upd H2 pd (.dK [])):=s2.new hpd;have Pa:(upd H2 pd (.dK [])) pd=some (.dK []):=ao;have fpd:H pd=none:=s2.free hpd
    generalize upd H2 pd (.dK [])=H3 at Ph s3 Pa ⊢
    refine⟨_,rfl,_,rfl,D,rfl,⟨_,SqL.of Ph⟩,wc (K:=K) (a:=D) (xs:=zs.map V.int) (fun i ys σ' H'=>∃ ws:List Int,ys=ws.map V.int/\(∀ z∈ws,0<=z)/\ws.length<=i/\(∃ o,σ' = [o])/\H3=H') ⟨[],rfl,by simp,Nat.le_refl _,⟨_,rfl⟩,rfl⟩ ?_ ?_ ?_⟩
    ·rintro i ys σ' H' hi ⟨ws,rfl,_,hz',_,rfl⟩
     refine⟨SqL.of Ph,?_⟩;rw[List.length_map]at hi ⊢;rw[List.length_map]at hz;exact aK (by omega)
    ·rintro i x ys σ' H' hi ⟨ws,rfl,w0,hz',⟨o,rfl⟩,rfl⟩
     obtain⟨c,rfl,hc⟩:=LS hi;refine⟨_,rfl,_,_,rfl,rfl,⟨by decide,by decide,by decide⟩,_,_,rfl,rfl,_,rfl,?_⟩
     refine bF (fun h1=>?_) (fun h1=>?_)
     ·refine⟨_,rfl,ws ++ [c],by simp,?_,by simp;omega,⟨_,rfl⟩,rfl⟩
      intro z hz';rcases List.mem_append.mp hz' with h|h
      ·exact w0 z h
      ·rw[List.mem_singleton.mp h];exact z0 c hc
     ·exact⟨ws,rfl,w0,by omega,⟨_,rfl⟩,rfl⟩
    ·rintro ys σ' H' ⟨ws,rfl,w0,hz',_,rfl⟩ D2 hD2
     refine⟨D2,_,rfl,SqL.of ao,fun q hq=>?_⟩
     have n1:pd≠D2:=ar Pa hD2;have e1:(upd H3 D2 (.lst (ws.map V.int))) pd=some (.dK []):=by rw[ag n1];exact Pa
     have n2:pd≠q:=ar e1 hq;have s4:mK H (upd (upd H3 D2 (.lst (ws.map V.int))) q (.lst ((ws.map V.int).reverse))):=(s3.new hD2).new hq;refine⟨by rw[ag n2];exact e1,[(.inr "seed",.int n),(.inr "number",.int 0),(.inr "left",.ref q)],rfl,(by show 3<=15;decide),?_⟩
     rw[show fV [] [((.inr "seed":Key),V.int n),(.inr "number",.int 0),(.inr "left",.ref q)]=dk n 0 q from by kernel_rfl]
     refine k pd q _ fpd ((s3.new hD2).free hq) ⟨n,0,ws.reverse,ao,?_,n0,n1',Int.le_refl _,?_⟩ ?_
     ·rw[ag n2.symm,ao,List.map_reverse]
     ·intro x hx;exact w0 x (by simpa using hx)
     ·intro c o hc
      have:c≠pd:=ar hc fpd
      rw[ag this];exact s4 c o hc
theorem xu(T:Txt K mg a):bG P w K mg base CX0 1 a.cG a.j7 ["kinds","kind"] (spQ K G5):=by
 refine T.fM.okQ iR (fun ts Q h=>?_) (fun cdv A outer s H E hr=>?_)
 ·obtain⟨ks,k,rfl,_⟩:=h;rfl
 ·have hu:=de hr;refine⟨_,_,((ai (cT (g:=(Tg.tp [2,3])) PassesOwn.never rfl (iS (QPE.f (qv 0))) (cJ (K:=K) (n:=2) rfl rfl (aM (aA (i:=2) iR.nd rfl (Or.inl rfl)) (aM (aA (i:=3) iR.nd rfl (Or.inl rfl)) cI)))
 (au (bQ (aV (cX hu rfl) bX (aG _) (qv 2) (qv 1))
 (au (a5 (QPE.f (qv 3))))
 a4)))
 (au (a5 (aB ah))))),fun ts Q h=>?_⟩
  obtain⟨ks,k,rfl,hq⟩:=h;refine⟨xV ks,fun i q=>(∃ o2 o3,q = [.r (tKs ks),.r (.s k),o2,o3])/\∀(j:Nat)(y:Kd),j<i->ks[j]? = some y->y.1≠k,⟨⟨_,_,rfl⟩,fun j y hj=>absurd hj (Nat.not_lt_zero _)⟩,?_,?_⟩
  ·rintro i x q hx ⟨⟨o2,o3,rfl⟩,hno⟩
   rw[List.getElem?_map]at hx;obtain⟨kk,hk,rfl⟩:=Option.map_eq_some_iff.mp hx;refine⟨_,rfl,?_⟩;refine⟨rfl,?_⟩;refine bF (fun g1=>?_) (fun g1=>?_)
   ·refine⟨tu _,?_⟩;rw[CV hk (V.str.inj (of_decide_eq_true g1)) hno]at hq;exact hq
   ·refine⟨⟨_,_,rfl⟩,fun j y hj hy=>?_⟩
    by_cases e:j=i
    ·subst e;rw[hk]at hy;cases hy;exact fun z=>g1 (decide_eq_true (congrArg V.str z))
    ·exact hno j y (by omega) hy
  ·rintro q ⟨⟨o2,o3,rfl⟩,hno⟩
   rw[LC fun j y hy=>hno j y (by have:=(List.getElem?_eq_some_iff.mp hy).1;simp;omega) hy]at hq
   exact hq
theorem Hz(T:Txt K mg a):bG P w K mg base CX0 2 a.gK a.yc ["_law_deal_here","_law_many"] (spQ K KL):=by
 have bL:bG P w K mg base CX0 1 a.fk a.j8 ["_law_deal_here","_law_many"] (spQ K l7):=tL (nj T);refine T.nU.okQ cf (fun ts Q h=>?_) (fun cdv A outer s H E hr=>?_)
 ·obtain⟨m,rfl,_⟩:=h;rfl
 ·have hu:=de hr;refine⟨_,_,((ai (az (i:=2) cf.nd rfl (Or.inr rfl) aI)
 (ai (az (i:=3) cf.nd rfl (Or.inl rfl) (kE (QPF.w aI) (QPF.w (du rfl (oO rfl T.jn (ae (QPF.w (aD bL (hr.mono (by first|decide|omega)) rfl T.b7 T.bM.kp T.bP (ae (qv 0) (ae (QPF.w aq) (aC.w ah))))) (aC.w ah))) (N':=["_law_k","_law_letters","_law_deal_here"]) (.own rfl (.got (i:=2) rfl rfl (.inl rfl) (.got (i:=0) rfl rfl (.inl rfl) .nil))) (fb (g:=(Tg.nm 0)) (fun _ _ _ _ _=>⟨(aA (i:=0) (show(["_law_k","_law_letters","_law_deal_here"]:List Str).Nodup from by decide +kernel) rfl (Or.inl rfl)),(QPE.f (aT (qv 1) (QPF.w (aD bL (hr.mono (by first|decide|omega)) rfl T.b7 T.bM.kp T.bP (ae (qv 2) (ae (QPF.w aq) (aC.w ah)))))))⟩))))))
 (ai (az (i:=4) cf.nd rfl (Or.inl rfl) (aD bL (hr.mono (by first|decide|omega)) rfl T.b7 T.bM.kp T.bP (ae (qv 0) (ae (QPF.w (ax (QPF.w (aL (a9 rfl) bO (by rfl) T.dN (by kernel_rfl) (ae (qv 3) (aC.w ah)))) (QPF.w aq))) (aC.w ah)))))
 (ai (az (i:=5) cf.nd rfl (Or.inl rfl) (aD bL (hr.mono (by first|decide|omega)) rfl T.b7 T.bM.kp T.bP (ae (qv 0) (ae (QPF.w aq) (aC.w ah)))))
 (ai (az (i:=6) cf.nd rfl (Or.inl rfl) (bD ah))
 (ai (cT (g:=(Tg.nm 7)) PassesOwn.never rfl (kD rfl T.jn (ae (qv 1) (aC.w ah))) (aA (i:=7) cf.nd rfl (Or.inl rfl))
 (ai (az (i:=8) cf.nd rfl (Or.inl rfl) (QPE.f (aT (qv 2) (QPF.w (GJ (QPF.w (ax (qv 5) (QPF.w (rX (QPF.w aq) (qv 7))))) (QPF.w aq))))))
 (ai (az (i:=9) cf.nd rfl (Or.inl rfl) (ax (QPF.w (ax (QPF.w (ax (QPF.w (ax (QPF.w (bJ (qv 3) cw (bY (qv 4)))) (qv 8))) (QPF.w (bJ (qv 3) (bY (qv 4)) cw)))) (QPF.w (rX (QPF.w aI) (QPF.w (GJ (qv 7) (QPF.w aq))))))) (QPF.w (rX (QPF.w aI) (QPF.w (KG (qv 7) (QPF.w aq)))))))
 (ai (bQ (aV (xr rfl) rO rfl (qv 9) (QPF.w (aB (kF (by rfl)))))
 (au (az (i:=9) cf.nd rfl (Or.inl rfl) (ax (qv 9) (QPF.w aI))))
 a4)
 (ai (bQ (aV (xr rfl) rO rfl (qv 9) (QPF.w (aB (kF (by rfl)))))
 (au (az (i:=9) cf.nd rfl (Or.inl rfl) (ax (qv 9) (QPF.w aI))))
 a4)
 (au (cD (i:=6) (pv 6) (QPE.f (qv 9)))))))))
 (ai (az (i:=10) cf.nd rfl (Or.inl rfl) (bD (kF (by rfl))))
 (ai (az (i:=10) cf.nd rfl (Or.inl rfl) (ax (qv 10) (QPF.w (bD (kF (by rfl))))))
 (ai (az (i:=9) cf.nd rfl (Or.inl rfl) (QPE.f (aT (qv 10) (QPF.w (aD bL (hr.mono (by first|decide|omega)) rfl T.b7 T.bM.kp T.bP (ae (qv 0) (ae (QPF.w aq) (aC.w ah))))))))
 (ai (bQ (QPW.pt (wZ (aV (cX hu rfl) bX (aG _) (QPF.w (aD bL (hr.mono (by first|decide|omega)) rfl T.b7 T.bM.kp T.bP (ae (qv 0) (ae (QPF.w aq) (aC.w ah))))) (QPF.w aq)) (qR (aV (D8 rfl) rO rfl (qv 9) (qv 6)))))
 (au (CH (i:=6) (pv 6) (QPF.w (aD bL (hr.mono (by first|decide|omega)) rfl T.b7 T.bM.kp T.bP (ae (qv 0) (ae (qv 1) (aC.w ah))))) (qv 9)))
 a4)
 (au (w6 (i:=6) (pv 6)))))))))))))),fun ts Q h=>?_⟩
  obtain⟨m,rfl,m0,m1,hq⟩:=h;refine⟨by decide,by decide,fun n n0 n1=>⟨by omega,by omega,aK (by rw[fE];omega),fun i ys=>∃ cs:List Nat,ys=cs.map (fun c=>.s ⟨#[c]⟩)/\cs.length=i/\∀ c∈cs,97<=c/\c<=122,⟨[],rfl,rfl,fun c hc=>by simp at hc⟩,?_,?_⟩⟩
  ·rintro i x ys hx ⟨cs,rfl,hc,hcl⟩
   obtain⟨rfl,hi⟩:=lX hx;refine⟨_,rfl,by decide,by decide,fun r r0 r1=>⟨by decide +kernel,_,C1 r0 r1,rfl,?_⟩⟩
   exact⟨cs ++ [jT r.toNat],by simp,by simp[hc],fun c hc=>(List.mem_append.mp hc).elim (fun z=>hcl c z) (fun z=>by rw[List.mem_singleton.mp z];exact C0 _)⟩
  ·rintro ys ⟨cs,rfl,hc,hcl⟩
   rw[fE]at hc;have e2:((cs.map (fun c=>(⟨#[c]⟩:Str))).map (·.length)).sum=cs.length:=by
    clear hc hcl
    induction cs with
    | nil=>rfl
    | cons c cs ih=>simp only[List.map_cons,List.sum_cons,List.length_cons,ih,show(⟨#[c]⟩:Str).length=1 from rfl];omega
   refine⟨cs.map (fun c=>(⟨#[c]⟩:Str)),?_,?_,?_⟩
   ·rw[<- wJ,List.map_map];rfl
   ·rw[e2,show(Str.ofString "").length=0 from by decide +kernel];omega
   have z:=PySem.size_glued (Str.ofString "") (cs.map (fun c=>(⟨#[c]⟩:Str)))
   rw[e2,show(Str.ofString "").length=0 from by decide +kernel]at z
   have lz:(Txt.join (Str.ofString "") (cs.map (fun c=>(⟨#[c]⟩:Str)))).length<=5:=by
    show(Builtin.Str.glued _ _).length<=5;omega
   have hL:cP (Txt.join (Str.ofString "") (cs.map (fun c=>(⟨#[c]⟩:Str)))):=fun c hc=>by
    rw[cz,List.flatMap_map]at hc;obtain⟨d,hd,e⟩:=List.mem_flatMap.mp hc;have e:c=d:=by simpa using e
    rw[e];exact hcl d hd
   generalize Txt.join (Str.ofString "") (cs.map (fun c=>(⟨#[c]⟩:Str)))=core at lz hL ⊢
   refine⟨aw (by omega),by omega,by omega,fun at_ a0 a1=>⟨by decide,by decide,fun tn t0 t1=>?_⟩⟩
   have lc1:(Txt.slice core none (some at_)).length<=5:=Nat.le_trans (Txt.slice_le _ _ _) lz;have lc2:(Txt.slice core (some at_) none).length<=5:=Nat.le_trans (Txt.slice_le _ _ _) lz;have lx:(Str.ofString "x").length=1:=by decide +kernel
   have ly:(Str.ofString "y").length=1:=by decide +kernel
   have lq:(Str.ofString "q").length=1:=by decide +kernel
   refine⟨by omega,by omega,fun i q=>(∃ o7 o8 o9 L,q = [.r .jc,.r (.i m),.o (.s xF),.o (.s core),.o (.i at_),.o (.i tn),.o (.l L),o7,o8,o9,.no]/\L =((List.range i).map (wordOf kept (Txt.slice core none (some at_)) (Txt.slice core (some at_) none) tn.toNat)).map .s),⟨_,_,_,_,rfl,rfl⟩,?_,?_⟩
   ·rintro i x q hx ⟨o7,o8,o9,L,rfl,rfl⟩
    obtain⟨rfl,hi⟩:=lX hx;have hi:i<52:=by omega
    have e1:∀ c:Nat,(⟨#[c]⟩:Str).length=1:=fun _=>rfl
    have eL:jT (((tn+7*(0+(i:Int))) % 26).toNat)=jT (tn.toNat+7*i):=by
     have ht:tn+7*(0+(i:Int)) =((tn.toNat+7*i:Nat):Int):=by rw[Int.zero_add,Int.natCast_add,Int.natCast_mul,Int.toNat_of_nonneg t0];rfl
     rw[ht];show 97+(tn.toNat+7*i) % 26 % 26=97+(tn.toNat+7*i) % 26;rw[Nat.mod_mod]
    have r1:=iu "x" ((0+(i:Int)) % 2).toNat;have r2:=iu "y" ((0+(i:Int)) / 26).toNat;rw[lx]at r1;rw[ly]at r2;refine⟨_,rfl,.inl ⟨by omega,by omega⟩,(by show(0:Int)<26;decide),(by decide +kernel),_,C1 (mod_lt (by decide)).1 (mod_lt (by decide)).2,rfl,?_⟩
    refine⟨aw (by omega),aw (by rw[e1];omega),aw (by omega),aw (by rw[Str.length_append,e1];omega),(by show(0:Int)<2;decide),by omega,by omega,by omega,aw (by rw[Str.length_append,Str.length_append,e1];omega),⟨by decide,by decide⟩,by omega,by omega,by omega,aw (by rw[Str.length_append,Str.length_append,Str.length_append,e1];omega),?_⟩
    have eW:Txt.slice core none (some at_)++⟨#[jT (((tn+7*(0+(i:Int))) % 26).toNat)]⟩++Txt.slice core (some at_) none++gj "x" ((0+(i:Int)) % 2).toNat++gj "y" ((0+(i:Int)) / 26).toNat=cZ (Txt.slice core none (some at_)) (Txt.slice core (some at_) none) tn.toNat i:=by
     unfold cZ;rw[eL,show((0+(i:Int)) % 2).toNat=i % 2 from by rw[Int.zero_add];rfl,show((0+(i:Int)) / 26).toNat=i / 26 from by rw[Int.zero_add];rfl]
    have lW:=kK (Txt.slice core none (some at_)) (Txt.slice core (some at_) none) tn.toNat i;rw[eW];have snoc:∀ z:Str,z=wordOf kept (Txt.slice core none (some at_)) (Txt.slice core (some at_) none) tn.toNat i ->
      ((List.range i).map (wordOf kept (Txt.slice core none (some at_)) (Txt.slice core (some at_) none) tn.toNat)).map L2.T.s ++ [L2.T.s z] =((List.range (i+1)).map (wordOf kept (Txt.slice core none (some at_)) (Txt.slice core (some at_) none) tn.toNat)).map L2.T.s:=fun z hz=>by
     subst hz;rw[List.range_succ];simp
    have ln:(((List.range i).map (wordOf kept (Txt.slice core none (some at_)) (Txt.slice core (some at_) none) tn.toNat)).map L2.T.s).length<sizeLine:=aK (by simp;omega)
    refine⟨by rfl,bF (fun g1=>?_) (fun g1=>?_)⟩
    ·have g1:inV (.str (cZ (Txt.slice core none (some at_)) (Txt.slice core (some at_) none) tn.toNat i)) (zM.map V.str)=true:=by rw[<- iw];exact g1
     refine⟨aw (by rw[lq];omega),by rfl,bF (fun g2=>?_) (fun _=>?_)⟩
     ·have g2:inT (.s (cZ (Txt.slice core none (some at_)) (Txt.slice core (some at_) none) tn.toNat i++("q":Str))) (la.map L2.T.s)=true:=g2;rw[iw,OJ]at g2;cases g2
     exact⟨ln,rfl,_,_,_,_,rfl,snoc (cZ (Txt.slice core none (some at_)) (Txt.slice core (some at_) none) tn.toNat i++("q":Str)) (by unfold wordOf;rw[mB,g1,Bool.true_or,if_pos rfl])⟩
    ·have g1:inV (.str (cZ (Txt.slice core none (some at_)) (Txt.slice core (some at_) none) tn.toNat i)) (zM.map V.str)=false:=by
      cases e:inV (.str (cZ (Txt.slice core none (some at_)) (Txt.slice core (some at_) none) tn.toNat i)) (zM.map V.str)with
      | false=>rfl
      | true=>rw[<- iw]at e;exact absurd e g1
     refine⟨by rfl,bF (fun g2=>?_) (fun g2=>?_)⟩
     ·have g2:inV (.str (cZ (Txt.slice core none (some at_)) (Txt.slice core (some at_) none) tn.toNat i)) (la.map V.str)=true:=by rw[<- iw];exact g2
      exact⟨aw (by rw[lq];omega),ln,rfl,_,_,_,_,rfl,snoc (cZ (Txt.slice core none (some at_)) (Txt.slice core (some at_) none) tn.toNat i++("q":Str)) (by unfold wordOf;rw[mB,g1,g2,Bool.false_or,if_pos rfl])⟩
     ·have g2:inV (.str (cZ (Txt.slice core none (some at_)) (Txt.slice core (some at_) none) tn.toNat i)) (la.map V.str)=false:=by
       cases e:inV (.str (cZ (Txt.slice core none (some at_)) (Txt.slice core (some at_) none) tn.toNat i)) (la.map V.str)with
       | false=>rfl
       | true=>rw[<- iw]at e;exact absurd e g2
      exact⟨ln,rfl,_,_,_,_,rfl,snoc (cZ (Txt.slice core none (some at_)) (Txt.slice core (some at_) none) tn.toNat i) (by unfold wordOf;rw[mB,g1,g2,Bool.false_or,if_neg (by decide),Str.append_empty])⟩
   ·rintro q ⟨o7,o8,o9,L,rfl,rfl⟩
    rw[fE];have nd:((List.range m.toNat).map (wordOf kept (Txt.slice core none (some at_)) (Txt.slice core (some at_) none) tn.toNat)).Nodup:=nodup_range fun i j hi hj hne=>DA (by omega) (by omega) hne
    have wl:∀ w∈(List.range m.toNat).map (wordOf kept (Txt.slice core none (some at_)) (Txt.slice core (some at_) none) tn.toNat),1<=w.length/\w.length<=20:=fun w hw=>by
     obtain⟨i,hi,rfl⟩:=List.mem_map.mp hw;exact AN lc1 lc2 (by have:=List.mem_range.mp hi;omega)
    have wL:∀ w∈(List.range m.toNat).map (wordOf kept (Txt.slice core none (some at_)) (Txt.slice core (some at_) none) tn.toNat),cP w:=fun w hw=>by
     obtain⟨i,hi,rfl⟩:=List.mem_map.mp hw;exact cP.word (hL.slice _ _) (hL.slice _ _) _ _
    have ll:((List.range m.toNat).map (wordOf kept (Txt.slice core none (some at_)) (Txt.slice core (some at_) none) tn.toNat)).length=m.toNat:=by simp
    generalize(List.range m.toNat).map (wordOf kept (Txt.slice core none (some at_)) (Txt.slice core (some at_) none) tn.toNat)=ws at nd wl wL ll
    refine⟨aw (by decide),by rfl,by rfl,by decide,by decide,fun r r0 r1=>?_⟩
    obtain⟨wd,ew,hm⟩:=yz (ws:=near) r0 r1;refine⟨_,ew,rfl,by decide,by decide,fun r3 _ _=>⟨rfl,?_⟩⟩
    have done:Q (.l (ws.map .s)):=hq ws (by omega) nd wl wL
    refine bF (fun _=>?_) (fun _=>S0 done)
    refine⟨by rw[Aj];rfl,bF (fun h2=>?_) (fun _=>done)⟩
    have hni:wd ∉ ws:=LV (by rw[<- iw];simpa using h2)
    refine⟨m0,by omega,fun r4 r40 r41=>⟨r4.toNat,?_,aZ ws,rfl,?_⟩⟩
    ·unfold ixN;rw[if_pos r40,if_pos (by rw[List.length_map];omega)]
    ·have z:=hq (ws.set r4.toNat wd) (by rw[List.length_set];omega) (El nd hni) (fun w hw=>by
      rcases List.mem_or_eq_of_mem_set hw with z|z
      ·exact wl w z
      ·rw[z];exact HQ wd hm) fun w hw=>by
      rcases List.mem_or_eq_of_mem_set hw with z|z
      ·exact wL w z
      ·rw[z];exact Eo wd hm
     rw[List.map_set]at z;exact z
theorem HD(T:Txt K mg a):bG P w K mg base CX0 2 a.gN a.yf ["_law_deal_here","_law_words_here"] (spQ K KQ):=by
 have bL:bG P w K mg base CX0 1 a.fk a.j8 ["_law_deal_here","_law_many"] (spQ K l7):=tL (nj T);refine T.nV.okQ cC (fun ts Q h=>?_) (fun cdv A outer s H E hr=>?_)
 ·obtain⟨ws,rfl,_⟩:=h;rfl
 ·have hu:=de hr;refine⟨_,_,((ai (az (i:=2) cC.nd rfl (Or.inl rfl) (aD bL (hr.mono (by first|decide|omega)) rfl T.b7 T.bM.kp T.bP (ae (qv 0) (ae (QPF.w aq) (aC.w ah)))))
 (ai (NY (i:=3) (j:=4) rfl cC.nd rfl rfl (by decide) rfl rfl (aT (qv 1) (QPF.w aq)) (aT (qv 1) (QPF.w aq)) rfl)
 (ai (az (i:=5) cC.nd rfl (Or.inl rfl) (ax (QPF.w (bJ (qv 1) (bY (QPF.w aq)) cw)) (QPF.w (bJ (qv 1) cw (bY (QPF.w aq))))))
 (ai (bQ (aV (cX hu rfl) bX (aG _) (qv 2) (QPF.w aq))
 (au (a5 (aB (af (aB (af (QPE.f (qv 3)) (af (aB (af (aB (af (QPE.f (aT (qv 5) (QPF.w aq))) (af (aB ah) ah))) (af (aB (af (QPE.f (aT (qv 5) (QPF.w aq))) (af (aB (af (QPE.f (qv 3)) ah)) ah))) ah))) ah))) ah))))
 a4)
 (ai (bQ (aV (cX hu rfl) bX (aG _) (qv 2) (QPF.w aq))
 (au (a5 (aB (af (aB (af (QPE.f (qv 3)) (af (aB (af (aB (af (QPE.f (aT (qv 5) (QPF.w aq))) (af (aB ah) ah))) (af (aB (af (QPE.f (aT (qv 5) (QPF.w aq))) (af (aB (af (QPE.f (qv 3)) ah)) ah))) (af (aB (af (QPE.f (aT (qv 5) (QPF.w aq))) (af (aB (af (QPE.f (qv 3)) ah)) ah))) ah)))) ah))) ah))))
 a4)
 (ai (bQ (aV (cX hu rfl) bX (aG _) (qv 2) (QPF.w aq))
 (au (a5 (aB (af (aB (af (QPE.f (qv 3)) (af (aB (af (aB (af (QPE.f (aT (qv 5) (QPF.w aq))) (af (aB ah) ah))) (af (aB (af (QPE.f (aT (qv 5) (QPF.w aq))) (af (aB ah) ah))) ah))) ah))) (af (aB (af (QPE.f (qv 4)) (af (aB (af (aB (af (QPE.f (aT (qv 5) (QPF.w aq))) (af (aB ah) ah))) (af (aB (af (QPE.f (aT (qv 5) (QPF.w aq))) (af (aB (af (QPE.f (qv 3)) (af (QPE.f (qv 4)) ah))) ah))) ah))) ah))) ah)))))
 a4)
 (ai (bQ (aV (cX hu rfl) bX (aG _) (qv 2) (QPF.w aq))
 (au (a5 (aB (af (aB (af (QPE.f (qv 3)) (af (aB (af (aB (af (QPE.f (aT (qv 5) (QPF.w aq))) (af (aB ah) ah))) (af (aB (af (QPE.f (aT (qv 5) (QPF.w aq))) (af (aB (af (QPE.f (qv 3)) (af (QPE.f (qv 3)) ah))) ah))) ah))) ah))) ah))))
 a4)
 (ai (bQ (aV (cX hu rfl) bX (aG _) (qv 2) (QPF.w aq))
 (au (a5 (aB (af (aB (af (QPE.f (qv 3)) (af (aB (af (aB (af (QPE.f (aT (qv 5) (QPF.w aq))) (af (aB ah) ah))) (af (aB (af (QPE.f (aT (qv 5) (QPF.w aq))) (af (aB (af (QPE.f (qv 4)) ah)) ah))) ah))) ah))) (af (aB (af (QPE.f (qv 4)) (af (aB (af (aB (af (QPE.f (aT (qv 5) (QPF.w aq))) (af (aB (af (QPE.f (qv 3)) ah)) ah))) ah)) ah))) ah)))))
 a4)
 (ai (az (i:=6) cC.nd rfl (Or.inl rfl) (bD ah))
 (ai (az (i:=7) cC.nd rfl (Or.inr rfl) (ax (QPF.w aq) (QPF.w (aD bL (hr.mono (by first|decide|omega)) rfl T.b7 T.bM.kp T.bP (ae (qv 0) (ae (QPF.w aq) (aC.w ah)))))))
 (ai (az (i:=8) cC.nd rfl (Or.inl rfl) aq)
 (ai (cT (g:=(Tg.nm 9)) PassesOwn.never rfl (kD rfl T.jn (ae (qv 7) (aC.w ah))) (aA (i:=9) cC.nd rfl (Or.inl rfl))
 (ai (az (i:=10) cC.nd rfl (Or.inl rfl) (bD ah))
 (ai (cT (g:=(Tg.nm 11)) PassesOwn.never rfl (kD rfl T.jn (ae (QPF.w (ax (QPF.w aq) (QPF.w (aD bL (hr.mono (by first|decide|omega)) rfl T.b7 T.bM.kp T.bP (ae (qv 0) (ae (QPF.w (GK (bD (af aq (af aq ah))) (QPF.w (bV gc kq (by rfl) T.wz (by kernel_rfl) (ae (QPF.w (iT (cX hu rfl) bX (aG _) (qv 7) (QPF.w aq))) (aC.w ah)))))) (aC.w ah))))))) (aC.w ah))) (aA (i:=11) cC.nd rfl (Or.inl rfl))
 (ai (az (i:=12) cC.nd rfl (Or.inl rfl) (rX (QPF.w (aD bL (hr.mono (by first|decide|omega)) rfl T.b7 T.bM.kp T.bP (ae (qv 0) (ae (QPF.w (GK (bD (af aq (af aq (af aq ah)))) (QPF.w (aD bL (hr.mono (by first|decide|omega)) rfl T.b7 T.bM.kp T.bP (ae (qv 0) (ae (QPF.w aq) (aC.w ah))))))) (aC.w ah))))) (QPF.w (bV gc kq (by rfl) T.wz (by kernel_rfl) (ae (QPF.w (iT pT (gd (g':=fun i j=>.b (decide (j<i))) fun _ _ _ _=>.b _) (aG _) (QPF.w (ax (qv 9) (qv 11))) (QPF.w aq))) (aC.w ah))))))
 (ai (CI (i:=13) cC.nd rfl (Or.inl rfl) rfl (oO rfl T.jn (ae (qv 12) (aC.w ah))) (N':=["_law_i","_law_words_here","_law_deal_here","_law_many"]) (.own rfl (.got (i:=1) rfl rfl (.inl rfl) (.got (i:=0) rfl rfl (.inl rfl) (.got (i:=7) rfl rfl (.inl rfl) .nil)))) (fb (g:=(Tg.nm 0)) (fun _ _ _ _ _=>⟨(aA (i:=0) (show(["_law_i","_law_words_here","_law_deal_here","_law_many"]:List Str).Nodup from by decide +kernel) rfl (Or.inl rfl)),(QPE.f (aT (qv 1) (QPF.w (aD bL (hr.mono (by first|decide|omega)) rfl T.b7 T.bM.kp T.bP (ae (qv 2) (ae (qv 3) (aC.w ah)))))))⟩)))
 (ai (cD (i:=10) (pv 10) (aB (af (QPE.f (aT (qv 5) (qv 8))) (af (bV (gb rfl) ib (by rfl) T.gQ (by kernel_rfl) (ae (qv 13) (aC.w ah))) ah))))
 (au (az (i:=8) cC.nd rfl (Or.inl rfl) (ax (qv 8) (QPF.w aq))))))))
 (au (cD (i:=6) (pv 6) (aB (af (QPE.f (aT (qv 1) (qv 9))) (af (bV (gb rfl) ib (by rfl) T.gQ (by kernel_rfl) (ae (qv 10) (aC.w ah))) ah))))))))
 (au (a5 (bV (gb rfl) ib (by rfl) T.gQ (by kernel_rfl) (ae (qv 6) (aC.w ah)))))))))))))))))),fun ts Q h=>?_⟩
  obtain⟨ws,rfl,hl,hnd,hq⟩:=h;obtain⟨x0,x1,wr,rfl⟩:∃ x0 x1 wr,ws=x0::x1::wr:=by
   match ws,hl with
   | x0::x1::wr,_=>exact⟨x0,x1,wr,rfl⟩
  have at0:atI ((x0::x1::wr).map L2.T.s) 0=some (.s x0):=ju (j:=0) rfl;have at1:atI ((x0::x1::wr).map L2.T.s) 1=some (.s x1):=ju (j:=1) rfl;refine⟨by decide,by decide,fun fm f0 f1=>⟨_,at0,rfl,_,at1,rfl,aZ _,aZ _,?_⟩⟩
  have hM:((x0::x1::wr).drop 4++(x0::x1::wr).take 4).Nodup:=DO hnd;have lM:((x0::x1::wr).drop 4++(x0::x1::wr).take 4).length=30:=by rw[List.length_append,List.length_drop,List.length_take];omega
  refine⟨aw (by have:=congrArg List.length (RX hl);rw[List.length_append,List.length_map]at this;omega),xU _ _ _,xU _ _ _,?_⟩
  rw[RX hl];have hMw:∀ x∈(x0::x1::wr).drop 4++(x0::x1::wr).take 4,x∈x0::x1::wr:=fun x hx=>(List.mem_append.mp hx).elim List.mem_of_mem_drop List.mem_of_mem_take
  generalize(x0::x1::wr).drop 4++(x0::x1::wr).take 4=M at hM lM hMw
  obtain⟨m0,m1,m2,m3,mr,rfl⟩:∃ m0 m1 m2 m3 mr,M=m0::m1::m2::m3::mr:=by
   match M,lM with
   | m0::m1::m2::m3::mr,_=>exact⟨m0,m1,m2,m3,mr,rfl⟩
  have t0:atI ((m0::m1::m2::m3::mr).map L2.T.s) 0=some (.s m0):=ju (j:=0) rfl;have t1:atI ((m0::m1::m2::m3::mr).map L2.T.s) 1=some (.s m1):=ju (j:=1) rfl;have t2:atI ((m0::m1::m2::m3::mr).map L2.T.s) 2=some (.s m2):=ju (j:=2) rfl;have t3:atI ((m0::m1::m2::m3::mr).map L2.T.s) 3=some (.s m3):=ju (j:=3) rfl;have hw3:3 <=(x0::x1::wr).length:=by omega
  have mkf:∀(ks:List Kd)(n made:Nat),ux (x0::x1::wr) (m0::m1::m2::m3::mr) n ks n made->1<=n->n<=3->Q (tKs ks):=fun ks n made D n1 n3=>hq ks (D.good hnd hM n1 n3 hw3) fun x hx=>hMw x (List.mem_of_mem_take (D.mn▸hx))
  have a1:x0∈(x0::x1::wr).take 1:=List.mem_cons_self;have a2:x0∈(x0::x1::wr).take 2:=List.mem_cons_self;have b2:x1∈(x0::x1::wr).take 2:=List.mem_cons_of_mem _ List.mem_cons_self;refine⟨rfl,bF (fun _=>?_) (fun _=>?_)⟩
  ·refine⟨rfl,_,t0,rfl,_,t1,rfl,rfl,?_⟩;exact mkf [(x0,[(m0,[]),(m1,[x0])])] 1 2 ⟨rfl,rfl,by decide,all1 ⟨List.cons_ne_nil _ _,leK 2 6⟩,all1 (all2 ⟨leK 0 4,yE⟩ ⟨leK 1 4,all1 a1⟩)⟩ (by decide) (by decide)
  refine⟨rfl,bF (fun _=>?_) (fun _=>?_)⟩
  ·refine⟨rfl,_,t0,rfl,_,t1,rfl,rfl,_,t2,rfl,rfl,?_⟩;exact mkf [(x0,[(m0,[]),(m1,[x0]),(m2,[x0])])] 1 3 ⟨rfl,rfl,by decide,all1 ⟨List.cons_ne_nil _ _,leK 3 6⟩,all1 (Tt ⟨leK 0 4,yE⟩ ⟨leK 1 4,all1 a1⟩ ⟨leK 1 4,all1 a1⟩)⟩ (by decide) (by decide)
  refine⟨rfl,bF (fun _=>?_) (fun _=>?_)⟩
  ·refine⟨rfl,_,t0,rfl,_,t1,rfl,rfl,_,t2,rfl,_,t3,rfl,rfl,rfl,?_⟩;exact mkf [(x0,[(m0,[]),(m1,[])]),(x1,[(m2,[]),(m3,[x0,x1])])] 2 4 ⟨rfl,rfl,by decide,all2 ⟨List.cons_ne_nil _ _,leK 2 6⟩ ⟨List.cons_ne_nil _ _,leK 2 6⟩,all2 (all2 ⟨leK 0 4,yE⟩ ⟨leK 0 4,yE⟩) (all2 ⟨leK 0 4,yE⟩ ⟨leK 2 4,all2 a2 b2⟩)⟩ (by decide) (by decide)
  refine⟨rfl,bF (fun _=>?_) (fun _=>?_)⟩
  ·refine⟨rfl,_,t0,rfl,_,t1,rfl,rfl,rfl,?_⟩;exact mkf [(x0,[(m0,[]),(m1,[x0,x0])])] 1 2 ⟨rfl,rfl,by decide,all1 ⟨List.cons_ne_nil _ _,leK 2 6⟩,all1 (all2 ⟨leK 0 4,yE⟩ ⟨leK 2 4,all2 a1 a1⟩)⟩ (by decide) (by decide)
  refine⟨rfl,bF (fun _=>?_) (fun _=>?_)⟩
  ·refine⟨rfl,_,t0,rfl,_,t1,rfl,rfl,rfl,_,t2,rfl,rfl,?_⟩;exact mkf [(x0,[(m0,[]),(m1,[x1])]),(x1,[(m2,[x0])])] 2 3 ⟨rfl,rfl,by decide,all2 ⟨List.cons_ne_nil _ _,leK 2 6⟩ ⟨List.cons_ne_nil _ _,leK 1 6⟩,all2 (all2 ⟨leK 0 4,yE⟩ ⟨leK 1 4,all1 b2⟩) (all1 ⟨leK 1 4,all1 a2⟩)⟩ (by decide) (by decide)
  clear t0 t1 t2 t3 at0 at1 mkf a1 a2 b2 hw3
  generalize hMM:m0::m1::m2::m3::mr=M at hM lM hMw ⊢
  generalize hWW:x0::x1::wr=ws at hnd hl hMw hq ⊢
  refine⟨by decide,by decide,fun r2 r20 r21=>?_⟩
  refine⟨by omega,by omega,fun i q=>∃ ks made L o9 o10 o11 o12 o13,q = [.r .jc,.r (.l (ws.map .s)),.o (.i fm),.o (.s x0),.o (.s x1),.o (.l (M.map .s)),.o (.l L),.o (.i (1+r2)),.o (.i (made:Nat)),o9,o10,o11,o12,o13]/\L=ks.map tK/\ux ws M (1+r2).toNat ks i made,
   ⟨[],0,_,_,_,_,_,_,rfl,rfl,⟨rfl,rfl,Nat.le_refl _,(fun _ z=>nomatch z),(fun _ z=>nomatch z)⟩⟩,?_,?_⟩
  ·rintro i x q hx ⟨ks,made,L,o9,o10,o11,o12,o13,rfl,rfl,D⟩
   obtain⟨rfl,hi⟩:=lX hx;have hb1:=D.b1;have lks:ks.length=i:=by
    have:=congrArg List.length D.nm
    rw[List.length_map,List.length_take,Nat.min_eq_left (by omega)]at this
    exact this
   have hwi:i<ws.length:=by omega
   refine⟨_,rfl,rfl,_,Ra 3 6 _,?_,?_,fun r5 r50 r51=>?_⟩
   ·split <;> decide
   ·split <;> decide
   have r5b:r5<6:=by split at r51 <;> omega
   refine⟨by omega,by omega,fun j q=>∃ ms gv L' o11 o12 o13,q = [.r .jc,.r (.l (ws.map .s)),.o (.i fm),.o (.s x0),.o (.s x1),.o (.l (M.map .s)),.o (.l (ks.map tK)),.o (.i (1+r2)),.o (.i (gv:Nat)),.r (.i (0+(i:Nat))),.o (.l L'),o11,o12,o13]/\L'=ms.map tM/\ms.length=j/\gv=made+j/\M.take made++ms.map (·.1)=M.take gv/\(∀ m∈ms,m.2.length<=4/\∀ f∈m.2,f∈ws.take (1+r2).toNat),
    ⟨[],made,_,_,_,_,rfl,rfl,rfl,rfl,by simp,fun _ z=>nomatch z⟩,?_,?_⟩
   ·rintro j x q hx ⟨ms,gv,L',o11,o12,o13,rfl,rfl,lms,emd,hmd,hfl⟩
    obtain⟨rfl,hj⟩:=lX hx;refine⟨_,rfl,by decide,by decide,fun r6 r60 r61=>?_⟩
    obtain⟨v,ev,hv⟩:=Q9 (x:=3) (y:=3) (z:=5) r60 r61;refine⟨_,ev,by omega,by omega,fun r7 r70 r71=>?_⟩
    refine⟨.inl ⟨by omega,by omega⟩,?_⟩
    have hwd:∀ b:Bool,0<=r7*(if b=true then 1 else 0)/\r7*(if b=true then 1 else 0)<=4:=fun b=>by cases b <;> simp <;> omega
    obtain⟨w0,w4⟩:=hwd (decide (0<0+(i:Int)+(0+(j:Int))))
    generalize hwv:r7*(if decide (0<0+(i:Int)+(0+(j:Int)))=true then 1 else 0)=wide at w0 w4 ⊢
    refine⟨by omega,by omega,aK (by rw[fE];omega),fun p ys=>∃ fs:List Str,ys=fs.map .s/\fs.length=p/\∀ f∈fs,f∈ws.take (1+r2).toNat,⟨[],rfl,rfl,fun _ z=>nomatch z⟩,?_,?_⟩
    ·rintro p x ys hx ⟨fs,rfl,lf,hf⟩
     obtain⟨rfl,hp⟩:=lX hx;refine⟨_,rfl,by omega,by omega,fun r8 r80 r81=>?_⟩
     have h8:r8.toNat<ws.length:=by omega
     have e8:atI (ws.map L2.T.s) r8=some (.s ws[r8.toNat]):=by
      have:=ju (ws:=ws) (j:=r8.toNat) (w:=ws[r8.toNat]) (by simp[h8])
      rwa [Int.toNat_of_nonneg r80]at this
     refine⟨_,e8,rfl,fs ++ [ws[r8.toNat]],by simp,by simp[lf],fun f hff=>?_⟩
     rcases List.mem_append.mp hff with h|h
     ·exact hf f h
     ·rw[List.mem_singleton.mp h];exact List.mem_take_iff_getElem.mpr ⟨r8.toNat,Nat.lt_min.mpr ⟨(Int.toNat_lt_toNat (by omega)).mpr r81,h8⟩,rfl⟩
    ·rintro ys ⟨fs,rfl,lf,hf⟩
     rw[fE]at lf;have hi2:i<=2:=Nat.le_of_lt_succ (Nat.lt_of_lt_of_le hi (Int.toNat_le.mpr (show 1+r2<=3 by omega)))
     have hj5:j<=5:=Nat.le_of_lt_succ (Nat.lt_of_lt_of_le hj (Int.toNat_le.mpr (show 1+r5<=6 by omega)))
     have M4:gv<M.length:=by rw[emd,lM];exact Nat.lt_of_le_of_lt (Nat.add_le_add (Nat.le_trans hb1 (Nat.mul_le_mul_left 6 hi2)) hj5) (by decide)
     have em:atI (M.map L2.T.s) ((gv:Nat):Int)=some (.s M[gv]):=ju (by simp[M4])
     refine⟨aK (by rw[List.length_map];omega),_,em,rfl,aZ _,?_⟩
     refine⟨ms ++ [(M[gv],fs)],gv+1,_,_,_,_,rfl,by simp[tM],by simp[lms],by omega,?_,fun m hm=>?_⟩
     ·rw[List.map_append,<- List.append_assoc,hmd];exact take_one (by simp[M4])
     ·rcases List.mem_append.mp hm with h|h
      ·exact hfl m h
      ·rw[List.mem_singleton.mp h];exact⟨by show fs.length<=4;omega,hf⟩
   ·rintro q ⟨ms,gv,L',o11,o12,o13,rfl,rfl,lms,emd,hmd,hfl⟩
    rw[fE]at lms emd;have ei:atI (ws.map L2.T.s) (0+((i:Nat):Int))=some (.s ws[i]):=by rw[Int.zero_add];exact ju (by simp[hwi])
    refine⟨aK (by rw[List.length_map];omega),_,ei,rfl,dz IA _,?_⟩
    refine⟨ks ++ [(ws[i],ms)],gv,_,_,_,_,_,_,rfl,by simp[tK,tMs],D.next (by simp[hwi]) hmd (fun z=>?_) (by omega) (by omega) hfl⟩
    rw[z]at lms;simp at lms;omega
  ·rintro q ⟨ks,made,L,o9,o10,o11,o12,o13,rfl,rfl,D⟩
   rw[fE]at D;refine⟨dz C4 _,?_⟩;exact hq ks (D.good hnd hM (by omega) (by omega) (by omega)) fun x hx=>hMw x (List.mem_of_mem_take (D.mn▸hx))
theorem Ec(T:Txt K mg a):bG P w K mg base CX0 1 a.fK a.tS ["_law_kinds_here"] (spQ K G6):=by
 refine T.kl.okQ dZ (fun ts Q h=>?_) (fun cdv A outer s H E hr=>?_)
 ·obtain⟨ks,rfl,_⟩:=h;rfl
 ·have hu:=de hr;refine⟨_,_,((ai (az (i:=1) dZ.nd rfl (Or.inr rfl) KH)
 (ai (cT (g:=(Tg.nm 2)) PassesOwn.never rfl (kD rfl T.jn (ae (QPF.w (ax (QPF.w (aL (a9 rfl) bO (by rfl) T.dN (by kernel_rfl) (ae (qv 0) (aC.w ah)))) (QPF.w aq))) (aC.w ah))) (aA (i:=2) dZ.nd rfl (Or.inl rfl))
 (au (cT (g:=(Tg.tp [3,4])) PassesOwn.never rfl (iS (QPE.f (qv 0))) (cJ (K:=K) (n:=2) rfl rfl (aM (aA (i:=3) dZ.nd rfl (Or.inl rfl)) (aM (aA (i:=4) dZ.nd rfl (Or.inl rfl)) cI)))
 (au (cT (g:=(Tg.tp [5,6])) PassesOwn.never rfl (iS (QPE.f (qv 4))) (cJ (K:=K) (n:=2) rfl rfl (aM (aA (i:=5) dZ.nd rfl (Or.inl rfl)) (aM (aA (i:=6) dZ.nd rfl (Or.inl rfl)) cI)))
 (au (bQ (dG (QPF.w (aL (wm rfl rfl) CD (by rfl) T.Nc (by kernel_rfl) (ae (QPF.w (du rfl (jP (qv 6)) (N':=["_law_field","_law_found"]) (.own rfl (.got (i:=1) rfl rfl (.inl rfl) .nil)) (fb (g:=(Tg.nm 0)) (fun _ _ _ _ _=>⟨(aA (i:=0) (show(["_law_field","_law_found"]:List Str).Nodup from by decide +kernel) rfl (Or.inl rfl)),(iT (Bg hu) wU rfl (qv 0) (qv 1))⟩)))) (aC.w ah)))))
 (ai (az (i:=7) dZ.nd rfl (Or.inl rfl) (ax (QPF.w aq) (QPF.w (aL (pA rfl rfl) wO (by rfl) T.Jv (by kernel_rfl) (ae (QPF.w (du rfl (jP (qv 6)) (N':=["_law_field","_law_found"]) (.own rfl (.got (i:=1) rfl rfl (.inl rfl) .nil)) (fb (g:=(Tg.nm 0)) (fun _ _ _ _ _=>⟨(aA (i:=0) (show(["_law_field","_law_found"]:List Str).Nodup from by decide +kernel) rfl (Or.inl rfl)),(QPE.f (lZ (qv 1) (qv 0)))⟩)))) (aC.w ah))))))
 (au (NX (i:=1) hu (pv 1) (qv 3) (QPF.w (aL (Fb rfl) AZ (by rfl) T.R5 (by kernel_rfl) (ae (KD hu (qv 1) (qv 3) (qv 7)) (ae (qv 7) (aC.w ah))))))))
 a4)))))))
 (au (w6 (i:=1) (pv 1)))))),fun ts Q h=>?_⟩
  obtain⟨ks,rfl,gk,hq⟩:=h
  have:=gk.k1
  have:=gk.k2
  refine⟨?_,?_,fun i q=>(∃ ds o2 o3 o4 o5 o6 o7,q = [.r (tKs ks),.o (dT ds),o2,o3,o4,o5,o6,o7]/\jI ks ds/\(1<=i->∀ kd∈ks,∀ m∈kd.2,Zd ds kd.1 m)),⟨[],_,_,_,_,_,_,rfl,jI.nil ks,fun z=>absurd z (by omega)⟩,?_,?_⟩
  ·rw[List.length_map];omega
  ·rw[List.length_map];omega
  ·rintro i x q hx ⟨ds,o2,o3,o4,o5,o6,o7,rfl,hI,hZ⟩
   obtain⟨rfl,hi⟩:=lX hx;refine⟨_,rfl,?_⟩;refine⟨xV ks,fun j q=>(∃ ds o2 o3 o4 o5 o6 o7,q = [.r (tKs ks),.o (dT ds),o2,o3,o4,o5,o6,o7]/\jI ks ds/\∀ j' kd,j'<j->ks[j']? = some kd->∀ m∈kd.2,Zd ds kd.1 m),⟨ds,_,_,_,_,_,_,rfl,hI,fun _ _ z=>absurd z (by omega)⟩,?_,?_⟩
   ·rintro j x q hx ⟨ds,o2,o3,o4,o5,o6,o7,rfl,hI,hZ⟩
    rw[List.getElem?_map]at hx;obtain⟨kd,hk,rfl⟩:=Option.map_eq_some_iff.mp hx;refine⟨_,rfl,?_⟩;refine⟨tu _,fun l q=>(∃ ds o2 o5 o6 o7,q = [.r (tKs ks),.o (dT ds),o2,.r (.s kd.1),.r (tMs kd.2),o5,o6,o7]/\jI ks ds/\(∀ j' kd,j'<j->ks[j']? = some kd->∀ m∈kd.2,Zd ds kd.1 m)/\∀ l' m,l'<l->kd.2[l']? = some m->Zd ds kd.1 m),⟨ds,_,_,_,_,rfl,hI,hZ,fun _ _ z=>absurd z (by omega)⟩,?_,?_⟩
    ·rintro l x q hx ⟨ds,o2,o5,o6,o7,rfl,hI,hZ,hL⟩
     rw[List.getElem?_map]at hx;obtain⟨m,hm,rfl⟩:=Option.map_eq_some_iff.mp hx;refine⟨_,rfl,?_⟩;have f4:=gk.fl kd (List.mem_of_getElem? hk) m (List.mem_of_getElem? hm);refine⟨aK (by rw[List.length_map];omega),fun i ys=>ys =(m.2.take i).map fun f=>.b (lk ds f).isSome,rfl,?_,?_⟩
     ·rintro i x ys hx rfl
      rw[List.getElem?_map]at hx;obtain⟨f,hf,rfl⟩:=Option.map_eq_some_iff.mp hx;refine⟨_,rfl,?_⟩;show _ ++ [L2.T.b (dA (ds.map dEn) (.inr f)).isSome]=_;rw[f9,<- take_one hf,List.map_append,Option.isSome_map];rfl
     ·rintro ys rfl
      rw[List.length_map,List.take_length];refine⟨_,yq _ _,?_⟩;refine bF (fun g1=>?_) (fun g1=>?_)
      ·have g1:∀ f∈m.2,(lk ds f).isSome=true:=by simpa using g1
       refine⟨aK (by rw[List.length_map];omega),fun i ys=>ys =(m.2.take i).map fun f=>.i ((lk ds f).getD 0),rfl,?_,?_⟩
       ·rintro i x ys hx rfl
        rw[List.getElem?_map]at hx;obtain⟨f,hf,rfl⟩:=Option.map_eq_some_iff.mp hx;obtain⟨u,hu'⟩:=Option.isSome_iff_exists.mp (g1 f (List.mem_of_getElem? hf));refine⟨_,rfl,.i u,by rw[f9,hu'];rfl,rfl,?_⟩
        show _ ++ [L2.T.i u]=_;rw[<- take_one hf,List.map_append,List.map_singleton,hu'];rfl
       ·rintro ys rfl
        rw[List.length_map,List.take_length];refine⟨_,ins_map _ _,?_⟩;have lI:=hI.len gk;refine NR ?_;dsimp only;refine DS (ds:=ds) (k:=kd.1) (n:=1+cN ds m.2) (v:=min ((lk ds kd.1).getD (1+cN ds m.2)) (1+cN ds m.2)) rfl rfl rfl (aK (by omega)) ?_ ?_
        ·exact OO _ _
        refine⟨_,_,_,_,_,rfl,hI.put (List.mem_map.mpr ⟨kd,List.mem_of_getElem? hk,rfl⟩) (by rw[zD gk.nd hk];exact List.mem_of_getElem? hm) f4.1 g1 rfl,fun j' kd' hj hk' m' hm'=>(hZ j' kd' hj hk' m' hm').put _ _,fun l' m' hl' hm'=>?_⟩
        ·by_cases e:l'=l
         ·intro _;rw[sM,if_pos rfl];rfl
         ·exact(hL l' m' (by omega) hm').put _ _
      ·refine⟨ds,_,_,_,_,rfl,hI,hZ,fun l' m' hl' hm'=>?_⟩
       by_cases e:l'=l
       ·subst e;rw[hm]at hm';cases hm';intro e0;rw[e0]at g1;exact absurd rfl g1
       ·exact hL l' m' (by omega) hm'
    ·rintro q ⟨ds,o2,o5,o6,o7,rfl,hI,hZ,hL⟩
     refine⟨ds,_,_,_,_,_,_,rfl,hI,fun j' kd' hj hk' m hm=>?_⟩
     by_cases e:j'=j
     ·subst e;rw[hk]at hk';cases hk';obtain⟨l,hl⟩:=List.getElem?_of_mem hm;exact hL l m (by have:=(List.getElem?_eq_some_iff.mp hl).1;rw[List.length_map];omega) hl
     ·exact hZ j' kd' (by omega) hk' m hm
   ·rintro q ⟨ds,o2,o3,o4,o5,o6,o7,rfl,hI,hZ⟩
    refine⟨ds,_,_,_,_,_,_,rfl,hI,fun _ kd hk m hm=>?_⟩
    obtain⟨l,hl⟩:=List.getElem?_of_mem hk;exact hZ l kd (by have:=(List.getElem?_eq_some_iff.mp hl).1;rw[List.length_map];omega) hl m hm
  ·rintro q ⟨ds,o2,o3,o4,o5,o6,o7,rfl,hI,hZ⟩
   rw[fE]at hZ;exact hq ds hI (hZ (by omega))
theorem HA(T:Txt K mg a)(n:Nat):bG P w K mg base CX0 (n+2) a.gL a.yd ["_law_deal_here","_law_kinds_here","_law_leasts_here","_law_kind","_law_room"] (spQ K (KN n)):=by
 induction n with
 | zero =>
  refine never fun ts Q hPP=>?_
  obtain⟨ks,ds,k,room,v,_,_,hI,hv,h1,h2,_,_⟩:=hPP
  have:=(hI.bd _ (iY hv)).1
  simp only at this;omega
 | succ n yK =>
  have bL:bG P w K mg base CX0 1 a.fk a.j8 ["_law_deal_here","_law_many"] (spQ K l7):=tL (nj T);refine T.kM.okQ c8 (fun ts Q h=>?_) (fun cdv A outer s H E hr=>?_)
  ·obtain⟨ks,ds,k,room,v,rfl,_⟩:=h;rfl
  ·have hu:=de hr;refine⟨_,_,((ai (az (i:=5) c8.nd rfl (Or.inl rfl) (bD ah))
 (ai (cT (g:=(Tg.tp [6,7])) PassesOwn.never rfl (iS (QPE.f (lZ (QPF.w (bV (nN rfl) rP (by rfl) T.Jy (by kernel_rfl) (ae (qv 1) (aC.w ah)))) (qv 3)))) (cJ (K:=K) (n:=2) rfl rfl (aM (aA (i:=6) c8.nd rfl (Or.inl rfl)) (aM (aA (i:=7) c8.nd rfl (Or.inl rfl)) cI)))
 (au (bQ (dG (QPF.w (aL (wm rfl rfl) CD (by rfl) T.Nc (by kernel_rfl) (ae (QPF.w (du rfl (jP (qv 7)) (N':=["_law_field","_law_leasts_here"]) (.own rfl (.got (i:=2) rfl rfl (.inl rfl) .nil)) (fb (g:=(Tg.nm 0)) (fun _ _ _ _ _=>⟨(aA (i:=0) (show(["_law_field","_law_leasts_here"]:List Str).Nodup from by decide +kernel) rfl (Or.inl rfl)),(iT (Bg hu) wU rfl (qv 0) (qv 1))⟩)))) (aC.w ah)))))
 (au (bQ (aV Rg (gd (g':=fun i j=>.b (decide (i<=j))) fun _ _ _ _=>.b _) (aG _) (QPF.w (ax (QPF.w aq) (QPF.w (aL (pA rfl rfl) wO (by rfl) T.Jv (by kernel_rfl) (ae (QPF.w (du rfl (jP (qv 7)) (N':=["_law_field","_law_leasts_here"]) (.own rfl (.got (i:=2) rfl rfl (.inl rfl) .nil)) (fb (g:=(Tg.nm 0)) (fun _ _ _ _ _=>⟨(aA (i:=0) (show(["_law_field","_law_leasts_here"]:List Str).Nodup from by decide +kernel) rfl (Or.inl rfl)),(QPE.f (lZ (qv 1) (qv 0)))⟩)))) (aC.w ah)))))) (qv 4))
 (au (cD (i:=5) (pv 5) (aB (af (QPE.f (qv 6)) (af (QPE.f (qv 7)) ah)))))
 a4))
 a4)))
 (ai (NV (g:=(Tg.tp [6,7])) (aT (qv 5) (QPF.w (aL (pB rfl) AZ (by rfl) T.Jw (by kernel_rfl) (ae (QPF.w (aD bL (hr.mono (by first|decide|omega)) rfl T.b7 T.bM.kp T.bP (ae (qv 0) (ae (QPF.w (aL (a9 rfl) bO (by rfl) T.dN (by kernel_rfl) (ae (qv 5) (aC.w ah)))) (aC.w ah))))) (ae (QPF.w (aD bL (hr.mono (by first|decide|omega)) rfl T.b7 T.bM.kp T.bP (ae (qv 0) (ae (QPF.w (aL (a9 rfl) bO (by rfl) T.dN (by kernel_rfl) (ae (qv 5) (aC.w ah)))) (aC.w ah))))) (aC.w ah)))))) (cJ (K:=K) (n:=2) rfl rfl (aM (aA (i:=6) c8.nd rfl (Or.inl rfl)) (aM (aA (i:=7) c8.nd rfl (Or.inl rfl)) cI))))
 (ai (az (i:=8) c8.nd rfl (Or.inl rfl) (A6 (QPF.w (A6 (qv 4) (QPF.w aq))) (QPF.w (aL (pA rfl rfl) wO (by rfl) T.Jv (by kernel_rfl) (ae (QPF.w (du rfl (jP (qv 7)) (N':=["_law_field","_law_leasts_here"]) (.own rfl (.got (i:=2) rfl rfl (.inl rfl) .nil)) (fb (g:=(Tg.nm 0)) (fun _ _ _ _ _=>⟨(aA (i:=0) (show(["_law_field","_law_leasts_here"]:List Str).Nodup from by decide +kernel) rfl (Or.inl rfl)),(QPE.f (lZ (qv 1) (qv 0)))⟩)))) (aC.w ah))))))
 (ai (az (i:=9) c8.nd rfl (Or.inl rfl) (bD ah))
 (ai (cT (g:=(Tg.nm 10)) PassesOwn.never rfl (iS (QPE.f (qv 7))) (aA (i:=10) c8.nd rfl (Or.inl rfl))
 (ai (az (i:=11) c8.nd rfl (Or.inl rfl) (aD bL (hr.mono (by first|decide|omega)) rfl T.b7 T.bM.kp T.bP (ae (qv 0) (ae (QPF.w (ax (qv 8) (QPF.w aq))) (aC.w ah)))))
 (ai (az (i:=8) c8.nd rfl (Or.inl rfl) (A6 (qv 8) (qv 11)))
 (au (cD (i:=9) (pv 9) (aD yK (hr.mono (by first|decide|omega)) rfl T.CW T.kM.kp T.q9 (ae (qv 0) (ae (qv 1) (ae (qv 2) (ae (qv 10) (ae (QPF.w (ax (lZ (qv 2) (qv 10)) (qv 11))) (aC.w ah))))))))))))
 (au (a5 (aB (af (QPE.f (qv 6)) (af (bV (gb rfl) ib (by rfl) T.gQ (by kernel_rfl) (ae (qv 9) (aC.w ah))) ah)))))))))))),fun ts Q h=>?_⟩
   obtain⟨ks,ds,k,room,v,rfl,gk,hI,hv,hvr,hrn,hr1,hq⟩:=h;have hk:k∈ks.map (·.1):=hI.sub _ (iY hv);refine⟨dz C4 ks,_,sx ks,_,vY gk.nd hk,tu _,fun i q=>∃ o6 o7 L,q = [.r .jc,.r (tKs ks),.r (dT ds),.r (.s k),.r (.i room),.o (.l L),o6,o7,.no,.no,.no,.no]/\L =(((cK ks k).take i).filter (gp ds room)).map tM,⟨_,_,_,rfl,rfl⟩,?_,?_⟩
   ·rintro i x q hx ⟨o6,o7,L,rfl,rfl⟩
    rw[List.getElem?_map]at hx;obtain⟨m,hm,rfl⟩:=Option.map_eq_some_iff.mp hx;refine⟨_,rfl,?_⟩;have mm:=List.mem_of_getElem? hm;obtain⟨f4,ff,m6⟩:=gk.ma mm;have sn:((cK ks k).take (i+1)).filter (gp ds room) =((cK ks k).take i).filter (gp ds room)++if gp ds room m=true then [m]else []:=by
     rw[cQ hm,List.filter_append]
     congr 1
     by_cases e:gp ds room m=true
     ·rw[if_pos e,List.filter_cons_of_pos e];rfl
     ·rw[if_neg e,List.filter_cons_of_neg e];rfl
    refine⟨aK (by rw[List.length_map];omega),fun i ys=>ys =(m.2.take i).map fun f=>.b (lk ds f).isSome,rfl,?_,?_⟩
    ·rintro i x ys hx rfl
     rw[List.getElem?_map]at hx;obtain⟨f,hf,rfl⟩:=Option.map_eq_some_iff.mp hx;refine⟨_,rfl,?_⟩;show _ ++ [L2.T.b (dA (ds.map dEn) (.inr f)).isSome]=_;rw[f9,<- take_one hf,List.map_append,Option.isSome_map];rfl
    ·rintro ys rfl
     rw[List.length_map,List.take_length];refine⟨_,yq _ _,?_⟩;refine bF (fun g1=>?_) (fun g1=>?_)
     ·have g0:∀ f∈m.2,(lk ds f).isSome=true:=by simpa using g1
      refine⟨aK (by rw[List.length_map];omega),fun i ys=>ys =(m.2.take i).map fun f=>.i ((lk ds f).getD 0),rfl,?_,?_⟩
      ·rintro i x ys hx rfl
       rw[List.getElem?_map]at hx;obtain⟨f,hf,rfl⟩:=Option.map_eq_some_iff.mp hx;obtain⟨u,hu'⟩:=Option.isSome_iff_exists.mp (g0 f (List.mem_of_getElem? hf));refine⟨_,rfl,.i u,by rw[f9,hu'];rfl,rfl,?_⟩
       show _ ++ [L2.T.i u]=_;rw[<- take_one hf,List.map_append,List.map_singleton,hu'];rfl
      ·rintro ys rfl
       rw[List.length_map,List.take_length];refine⟨_,ins_map _ _,?_⟩;refine bF (fun g2=>?_) (fun g2=>?_)
       ·have g2:1+cN ds m.2<=room:=of_decide_eq_true g2;refine⟨?_,rfl,?_,_,_,_,rfl,?_⟩
        ·exact aK (by rw[List.length_map];exact Nat.le_trans (List.length_filter_le _ _) (by rw[List.length_take];omega))
        ·exact dz (fun _=>rfl) m.2
        ·rw[sn,if_pos (by unfold gp;rw[g1,decide_eq_true g2];rfl),List.map_append]
         rfl
       ·have g2:¬ 1+cN ds m.2<=room:=fun z=>g2 (decide_eq_true z)
        refine⟨_,_,_,rfl,?_⟩;rw[sn,if_neg (by unfold gp;rw[decide_eq_false g2,Bool.and_false];exact Bool.false_ne_true),List.append_nil]
     ·refine⟨_,_,_,rfl,?_⟩;rw[sn,if_neg (by unfold gp;intro z;rw[Bool.and_eq_true]at z;exact g1 z.1),List.append_nil]
   ·rintro q ⟨o6,o7,L,rfl,rfl⟩
    rw[List.length_map,List.take_length];obtain⟨m0,hm0,hf0,hs0⟩:=hI.wt k v hv;have lm:=(gk.ma hm0).2.2;have p0:m0∈(cK ks k).filter (gp ds room):=List.mem_filter.mpr ⟨hm0,by unfold gp;rw[decide_eq_true (by omega),Bool.and_true];simpa using hf0⟩
    have l0:=List.length_pos_of_mem p0;have l1:((cK ks k).filter (gp ds room)).length<=6:=Nat.le_trans (List.length_filter_le _ _) lm;have l2:(((cK ks k).filter (gp ds room)).map tM).length =((cK ks k).filter (gp ds room)).length:=List.length_map _;refine⟨by omega,by omega,fun r1 r10 r11=>⟨by omega,by omega,fun r2 r20 r21=>?_⟩⟩
    obtain⟨x,ex,hx⟩:=JA (xs:=((cK ks k).filter (gp ds room)).map tM) (i:=if r2 > r1 then r2 else r1) (by split <;> omega) (by split <;> omega)
    obtain⟨m,hm,rfl⟩:=List.mem_map.mp hx;obtain⟨mm,hp⟩:=List.mem_filter.mp hm;obtain⟨f4,ff,_⟩:=gk.ma mm;unfold gp at hp;rw[Bool.and_eq_true]at hp;have g0:∀ f∈m.2,(lk ds f).isSome=true:=by simpa using hp.1
    have g2:1+cN ds m.2<=room:=of_decide_eq_true hp.2;refine⟨_,ex,IA m,_,rfl,?_⟩;refine⟨aK (by rw[List.length_map];omega),fun i ys=>ys =(m.2.take i).map fun f=>.i ((lk ds f).getD 0),rfl,?_,?_⟩
    ·rintro i x ys hx rfl
     rw[List.getElem?_map]at hx;obtain⟨f,hf,rfl⟩:=Option.map_eq_some_iff.mp hx;obtain⟨u,hu'⟩:=Option.isSome_iff_exists.mp (g0 f (List.mem_of_getElem? hf));refine⟨_,rfl,.i u,by rw[f9,hu'];rfl,rfl,?_⟩
     show _ ++ [L2.T.i u]=_;rw[<- take_one hf,List.map_append,List.map_singleton,hu'];rfl
    ·rintro ys rfl
     rw[List.length_map,List.take_length];refine⟨_,ins_map _ _,?_⟩;have sp0:=hI.sum m.2;refine⟨dz (fun _=>rfl) m.2,fun i q=>∃ sp ps o5 o10 o11 L,q = [.r .jc,.r (tKs ks),.r (dT ds),.r (.s k),.r (.i room),o5,.r (.s m.1),.r (.t (m.2.map .s)),.o (.i sp),.o (.l L),o10,o11]/\L=ps/\ps.length=i/\0<=sp/\(∀(j:Nat) f p,m.2[j]? = some f->ps[j]? = some p->isN ks n f p=true)/\(∀ p∈ps,Ok n p)/\((ps.map (wt n)).sum:Int)+sp<=cN ds (m.2.take i)+(room - 1 - cN ds m.2),⟨room - 1 - cN ds m.2,[],_,_,_,_,rfl,rfl,rfl,by omega,fun j f p _ h=>by simp at h,by simp,by simp[cN]⟩,?_,?_⟩
     ·rintro i x q hx ⟨sp,ps,o5,o10,o11,L,rfl,rfl,hl,s0,hN,hO,hS⟩
      rw[List.getElem?_map]at hx;obtain⟨f,hf,rfl⟩:=Option.map_eq_some_iff.mp hx;obtain⟨u,hu'⟩:=Option.isSome_iff_exists.mp (g0 f (List.mem_of_getElem? hf));have hi:=(List.getElem?_eq_some_iff.mp hf).1;have st:=DE (ds:=ds) hf;rw[hu']at st;have st2:=pM hI m.2 (i+1);have st3:=hI.sum (m.2.take i);simp only[Option.getD_some]at st;have u1:=(hI.bd _ (iY hu')).1;simp only at u1;refine⟨_,rfl,by omega,by omega,fun more h0 h1=>⟨aK (by omega),.i u,by rw[f9,hu'];rfl,?_⟩⟩
      refine⟨ks,ds,f,u+more,u,rfl,gk,hI,hu',by omega,by omega,by omega,fun t t1 t2 t3=>?_⟩
      refine⟨sp - more,L ++ [t],_,_,_,_,rfl,rfl,by simp[hl],by omega,fun j f' p hj hp=>?_,fun p hp=>?_,?_⟩
      ·by_cases e:j=i
       ·subst e;rw[hf]at hj;cases hj;rw[List.getElem?_append_right (by omega),hl,Nat.sub_self]at hp
        cases hp;exact t1
       ·by_cases lt:j<i
        ·rw[List.getElem?_append_left (by omega)]at hp
         exact hN j f' p hj hp
        ·rw[List.getElem?_eq_none (by simp;omega)]at hp
         cases hp
      ·rcases List.mem_append.mp hp with z|z
       ·exact hO p z
       ·rw[List.mem_singleton.mp z];exact t2
      ·rw[FV];omega
     ·rintro q ⟨sp,ps,o5,o10,o11,L,rfl,rfl,hl,s0,hN,hO,hS⟩
      rw[List.length_map]at hl;rw[List.length_map,List.take_length]at hS;refine⟨rfl,eD fun p hp=>(hO p hp).im,?_⟩
      refine hq _ ?_ ?_ ?_
      ·show(match due ks k (.s m.1) L.length with|some fs=>(fs.zip L).all fun p=>isN ks n p.1 p.2|none=>false)=true
       rw[hl,x8 gk mm];rw[List.all_eq_true];intro p hp;obtain⟨j,hj⟩:=List.getElem?_of_mem hp;rw[List.getElem?_zip_eq_some]at hj;exact hN j _ _ hj.1 hj.2
      ·refine⟨?_,rfl,fun x y e=>?_,fun x ps' e=>?_⟩
       ·simp[L2.T.im,L2.T.ims,eD fun p hp=>(hO p hp).im]
       ·cases e;rfl
       ·cases e;exact⟨rfl,by omega,hO⟩
      ·show((1+(L.map (wt n)).sum:Nat):Int)<=room;omega
theorem uO(T:Txt K mg a):bG P w K mg base CX0 2 a.cp a.jf ["kinds","kind","thing"] (spQ K Q6):=by
 have AF:=xu (P:=P) (w:=w) (base:=base) T;refine T.eR.okQ gX (fun ts Q h=>?_) (fun cdv A outer s H E hr=>?_)
 ·obtain⟨ks,k,n,t,rfl,_⟩:=h;rfl
 ·have hu:=de hr;refine⟨_,_,((ai (bQ (QPW.pt (pN (w5 (dG (QPF.w (aL (pC rfl) wR (by rfl) T.bx (by kernel_rfl) (ae (qv 2) (ae (QPF.w (GH (n:="tuple") rfl T.gQ (by kernel_rfl))) (aC.w ah))))))) (pN (aV pS oF (aG _) (QPF.w (aL (a9 rfl) bO (by rfl) T.dN (by kernel_rfl) (ae (qv 2) (aC.w ah)))) (QPF.w aq)) (oM (w5 (dG (QPF.w (aL (pC rfl) wR (by rfl) T.bx (by kernel_rfl) (ae (aT (qv 2) (QPF.w aq)) (ae (QPF.w (GH (n:="tuple") rfl T.gQ (by kernel_rfl))) (aC.w ah)))))))))))
 (au (a5 dW))
 a4)
 (ai (cT (g:=(Tg.tp [3,4])) PassesOwn.never rfl (iS (aD AF (hr.mono (by first|decide|omega)) rfl T.zI T.fM.kp T.ke (ae (qv 0) (ae (qv 1) (aC.w ah))))) (cJ (K:=K) (n:=2) rfl rfl (aM (aA (i:=3) gX.nd rfl (Or.inl rfl)) (aM (aA (i:=4) gX.nd rfl (Or.inl rfl)) cI)))
 (au (bQ (QPW.pt (wZ (aV (cX hu rfl) bX (aG _) (qv 3) (aT (qv 2) (QPF.w aq))) (qR (aV (cX hu rfl) bX (aG _) (QPF.w (aL (a9 rfl) bO (by rfl) T.dN (by kernel_rfl) (ae (qv 4) (aC.w ah)))) (QPF.w (aL (a9 rfl) bO (by rfl) T.dN (by kernel_rfl) (ae (aT (qv 2) (QPF.w aq)) (aC.w ah))))))))
 (au (a5 (QPE.f (qv 4))))
 a4)))
 (au (a5 dW))))),fun ts Q h=>?_⟩
  obtain⟨ks,k,n,t,rfl,hO,hq⟩:=h;have hty:=hO.ty;cases t with
  | n=>exact⟨rfl,hq⟩
  | b _=>exact⟨rfl,hq⟩
  | i _=>exact⟨rfl,hq⟩
  | s _=>exact⟨rfl,hq⟩
  | l _=>exact⟨rfl,hq⟩
  | d _=>exact⟨rfl,hq⟩
  | q=>exact⟨rfl,hq⟩
  | jc=>cases hty
  | z _=>cases hty
  | ty _=>cases hty
  | k _=>cases hty
  | fd _ _ _=>cases hty
  | xc _ _ _=>cases hty
  | t xs =>
   refine⟨rfl,bF (fun h=>absurd h (by decide)) (fun _=>?_)⟩
   refine⟨rfl,bF (fun h2=>?_) (fun h2=>?_)⟩
   ·have h2:¬ xs.length=2:=fun z=>by
     have h2:(!decide (V.int (xs.length:Int)=V.int 2))=true:=h2;rw[z]at h2
     revert h2
     decide
    have e:qI ks k (.t xs)=none:=IZ h2;rw[e]at hq;exact hq
   ·have h2:xs.length=2:=by
     have h2:¬(!decide (V.int (xs.length:Int)=V.int 2))=true:=h2;rw[Bool.not_eq_true',decide_eq_false_iff_not,Classical.not_not]at h2
     have:=V.int.inj h2
     omega
    obtain⟨x,y,rfl⟩:∃ x y,xs = [x,y]:=by
     match xs,h2 with
     | [x,y],_=>exact⟨x,y,rfl⟩
    have hy:=hO.ty2;cases y with
    | n=>exact⟨_,rfl,rfl,hq⟩
    | b _=>exact⟨_,rfl,rfl,hq⟩
    | i _=>exact⟨_,rfl,rfl,hq⟩
    | s _=>exact⟨_,rfl,rfl,hq⟩
    | l _=>exact⟨_,rfl,rfl,hq⟩
    | d _=>exact⟨_,rfl,rfl,hq⟩
    | q=>exact⟨_,rfl,rfl,hq⟩
    | jc=>cases hy
    | z _=>cases hy
    | ty _=>cases hy
    | k _=>cases hy
    | fd _ _ _=>cases hy
    | xc _ _ _=>cases hy
    | t ps =>
     obtain⟨n',rfl,hfl,hps,hO'⟩:=hO.pr;refine⟨_,rfl,rfl,bF (fun h=>absurd h (by decide)) (fun _=>?_)⟩
     refine⟨ks,k,rfl,fun i q=>(∃ o3 o4,q = [.r (tKs ks),.r (.s k),.r (.t [x,.t ps]),o3,o4])/\∀(j:Nat) m,j<i ->(cK ks k)[j]? = some m ->(decide (V.str m.1=x.v)&&decide (m.2.length=ps.length))=false,⟨⟨_,_,rfl⟩,fun j m hj=>absurd hj (by omega)⟩,?_,?_⟩
     ·rintro i z q hx ⟨⟨o3,o4,rfl⟩,hno⟩
      rw[List.getElem?_map]at hx;obtain⟨m,hm,rfl⟩:=Option.map_eq_some_iff.mp hx;refine⟨_,rfl,?_⟩;have nx:¬(decide (V.str m.1=x.v)&&decide (m.2.length=ps.length))=true->∀(j:Nat) m,j<i+1 ->(cK ks k)[j]? = some m ->(decide (V.str m.1=x.v)&&decide (m.2.length=ps.length))=false:=fun hb j m' hj hm'=>by
       by_cases e:j=i
       ·subst e;rw[hm]at hm';cases hm';exact Bool.eq_false_iff.mpr hb
       ·exact hno j m' (by omega) hm'
      refine⟨x,rfl,Ks hfl,bF (fun g1=>?_) (fun g1=>?_)⟩
      ·refine⟨_,rfl,rfl,bF (fun g2=>?_) (fun g2=>?_)⟩
       ·have g1:decide (V.str m.1=x.v)=true:=g1;have g2:m.2.length=ps.length:=by
         have g2:decide (V.int ((m.2.map L2.T.s).length:Int)=V.int (ps.length:Int))=true:=g2
         have:=V.int.inj (of_decide_eq_true g2)
         rw[List.length_map]at this;omega
        have e:qI ks k (.t [x,.t ps])=some m.2:=by
         show due ks k x ps.length=some m.2;unfold due;rw[C9 hm (by rw[g1,decide_eq_true g2];rfl) hno]
         rfl
        rw[e]at hq;exact⟨dz (fun _=>rfl) m.2,hq⟩
       ·refine⟨⟨_,_,rfl⟩,nx fun z=>g2 ?_⟩
        have z2:=of_decide_eq_true (Bool.and_eq_true_iff.mp z).2;refine decide_eq_true ?_;show V.int ((m.2.map L2.T.s).length:Int)=V.int (ps.length:Int);rw[List.length_map,z2]
      ·exact⟨⟨_,_,rfl⟩,nx fun z=>g1 (Bool.and_eq_true_iff.mp z).1⟩
     ·rintro q ⟨⟨o3,o4,rfl⟩,hno⟩
      have e:qI ks k (.t [x,.t ps])=none:=by
       show due ks k x ps.length=none;unfold due;rw[Mc fun j m hm=>hno j m (by have:=(List.getElem?_eq_some_iff.mp hm).1;rw[List.length_map];omega) hm]
       rfl
      rw[e]at hq;exact hq
theorem zy(T:Txt K mg a):bG P w K mg base CX0 3 a.df a.mE ["kinds","kind","thing"] (spQ K Q5):=by
 have yN:=uO (P:=P) (w:=w) (base:=base) T;refine T.gD.okQ gH (fun ts Q h=>?_) (fun cdv A outer s H E hr=>?_)
 ·obtain⟨ks,k,n,t,rfl,_⟩:=h;rfl
 ·have hu:=de hr;refine⟨_,_,((ai (az (i:=3) gH.nd rfl (Or.inl rfl) (bD (af (aB (af (QPE.f (qv 1)) (af (QPE.f (qv 2)) ah))) ah)))
 (ai (zb PassesOwn.never (dG (qv 3))
 (ai (GD (j:=4) gH.nd rfl (Or.inl rfl) (pv 3))
 (ai (az (i:=5) gH.nd rfl (Or.inl rfl) (aD yN (hr.mono (by first|decide|omega)) rfl T.xE T.eR.kp T.jo (ae (qv 0) (ae (aT (qv 4) (QPF.w aq)) (ae (aT (qv 4) (QPF.w aq)) (aC.w ah))))))
 (ai (bQ (aV sA mW (aG _) (qv 5) (QPF.w dW))
 (au (a5 ze))
 a4)
 (au (vN (i:=3) (pv 3) (A7 rfl rfl T.B9 rfl T.R3 (ae (qv 5) (ae (aT (aT (qv 4) (QPF.w aq)) (QPF.w aq)) (aC.w ah))))))))))
 (au (a5 ze))))),fun ts Q h=>?_⟩
  obtain⟨ks,k,n,t,rfl,gk,hk,hO,hw,hq⟩:=h;refine⟨rfl,hO.im,fun c q=>∃ ws o4 o5 L,q = [.r (tKs ks),.r (.s k),.r t,.o (.l L),o4,o5]/\L=ws.map wT/\wW ws<=9000/\(∀ w∈ws,w.1∈ks.map (·.1)/\Ok w.2.1 w.2.2)/\wB ks ws=isN ks n k t/\c=wW ws,⟨_,[(k,n,t)],_,_,_,rfl,rfl,?_,?_,?_,rfl⟩,?_⟩
  ·simpa [wW]using hw
  ·intro w hw;rw[List.mem_singleton.mp hw];exact⟨hk,hO⟩
  ·simp[wB]
  ·rintro c q ⟨ws,o4,o5,L,rfl,rfl,h1,h2,h3,rfl⟩
   rcases List.eq_nil_or_concat ws with rfl |⟨ws',⟨f,d,u⟩,rfl⟩
   ·have h3:true=isN ks n k t:=h3;rw[<- h3]at hq;exact hq
   ·have hO':=(h2 (f,d,u) (by simp)).2
    have hf:=(h2 (f,d,u) (by simp)).1
    simp only at hO' hf;rw[List.concat_eq_append]at *;have hW:wW (ws' ++ [(f,d,u)])=wW ws'+wt d u:=by rw[FE];simp[wW]
    have hB:(wB ks ws'&&isN ks d f u)=isN ks n k t:=by rw[<- h3,FG];simp[wB]
    have hl:=FD ws';refine bF (fun _=>?_) (fun z=>?_)
    ·refine⟨fun q'=>∃ ws2 o4 o5 L,q' = [.r (tKs ks),.r (.s k),.r t,.o (.l L),o4,o5]/\L=ws2.map wT/\wW ws2<wW (ws' ++ [(f,d,u)])/\(∀ w∈ws2,w.1∈ks.map (·.1)/\Ok w.2.1 w.2.2)/\wB ks ws2=isN ks n k t,?_,?_⟩
     ·rintro q' ⟨ws2,o4,o5,L,rfl,rfl,g1,g2,g3⟩
      exact⟨wW ws2,g1,ws2,_,_,_,rfl,rfl,by omega,g2,g3,rfl⟩
     ·refine⟨ws'.map wT,wT (f,d,u),by simp,?_,by decide,?_⟩
      ·refine eD fun p hp=>?_
       obtain⟨w,hw,rfl⟩:=List.mem_map.mp hp
       have:=(h2 w hw).2.im
       simp[wT,L2.T.im,L2.T.ims,this]
      ·refine⟨_,rfl,_,rfl,ks,f,d,u,rfl,hO',?_⟩;cases hd:qI ks f u with
       | none =>
        rw[zQ hd,Bool.and_false]at hB;rw[<- hB]at hq;exact hq
       | some fs =>
        obtain⟨x,ps,rfl,hdu⟩:=v9 hd;obtain⟨d',rfl,hfl,hps,hOp⟩:=hO'.pr;obtain⟨m,hm,rfl,hml,_⟩:=x9 hdu;rw[kJ,hdu]at hB;have hz:=FC d' m.2 ps;have hwt:wt (d'+1) (.t [x,.t ps])=1+(ps.map (wt d')).sum:=rfl;have him:L2.T.ims ps=true:=eD fun p hp=>(hOp p hp).im
        refine⟨_,rfl,_,rfl,aZ _,him,?_,ws'++(m.2.zip ps).map (fun p=>(p.1,d',p.2)),_,_,_,rfl,?_,?_,?_,?_⟩
        ·rw[Fi,List.length_map,List.length_map];exact nu (by omega)
        ·rw[List.map_append,Nj d']
        ·rw[FE,hW,hwt];omega
        ·intro w hw;rcases List.mem_append.mp hw with z|z
         ·exact h2 w (by simp[z])
         ·obtain⟨p,hp,rfl⟩:=List.mem_map.mp z;have hp':=List.of_mem_zip hp;exact⟨(gk.ma hm).2.1 _ hp'.1,hOp _ hp'.2⟩
        ·rw[FG,Nl];exact hB
    ·exact absurd (by simp) z
theorem ni(T:Txt K mg a):bG P w K mg base CX0 1 a.bo a.fq ["value"] (spQ K QZ):=by
 refine T.cF.okQ cY (fun ts Q h=>?_) (fun cdv A outer s H E hr=>?_)
 ·obtain⟨m,ps,rfl,_⟩:=h;rfl
 ·have hu:=de hr;refine⟨_,_,((ai (az (i:=1) cY.nd rfl (Or.inl rfl) (bD (af (QPE.f (aT (qv 0) (QPF.w aq))) ah)))
 (ai (cT (g:=(Tg.tp [2,3])) PassesOwn.never rfl (xa rfl T.kf (by kernel_rfl) (ae (aT (qv 0) (QPF.w aq)) (aC.w ah))) (cJ (K:=K) (n:=2) rfl rfl (aM (aA (i:=2) cY.nd rfl (Or.inl rfl)) (aM (aA (i:=3) cY.nd rfl (Or.inl rfl)) cI)))
 (ai (cD (i:=1) (pv 1) (Qv (aV (cX hu rfl) bX (aG _) (qv 2) (QPF.w aq)) aI aI))
 (au (cD (i:=1) (pv 1) (QPE.f (qv 3))))))
 (ai (bQ (dG (aT (qv 0) (QPF.w aq)))
 (au (cD (i:=1) (pv 1) aI))
 a4)
 (au (w6 (i:=1) (pv 1))))))),fun ts Q h=>?_⟩
  obtain⟨m,ps,rfl,im,lp,hq⟩:=h;refine⟨_,rfl,rfl,_,rfl,im,fun i q=>∃ o2 o3 L,q = [.r (.t [.s m,.t ps]),.o (.l L),o2,o3]/\L = .s m ::((ps.take i).zipIdx.flatMap fun p=>[L2.T.s (a6 p.2),p.1]),⟨_,_,_,rfl,rfl⟩,?_,?_⟩
  ·rintro i x q hx ⟨o2,o3,L,rfl,rfl⟩
   obtain⟨p,hp,rfl⟩:=nE hx;have hi:i<ps.length:=(List.getElem?_eq_some_iff.mp hp).1;have hl:(L2.T.s m ::(ps.take i).zipIdx.flatMap fun p=>[L2.T.s (a6 p.2),p.1]).length=1+2*i:=by
    rw[List.length_cons,x5,List.length_take,Nat.min_eq_left (by omega)]
    omega
   have fin:∀ z:Str,z=a6 i ->(L2.T.s m ::(ps.take i).zipIdx.flatMap fun p=>[L2.T.s (a6 p.2),p.1]) ++ [.s z] ++ [p] = .s m ::((ps.take (i+1)).zipIdx.flatMap fun p=>[L2.T.s (a6 p.2),p.1]):=fun z hz=>by
    rw[hz,FK hp];simp
   refine⟨_,rfl,eC (by rw[hl];omega),rfl,bF (fun h=>?_) (fun h=>?_)⟩
   ·have h:i=0:=by simpa [L2.T.v]using h
    refine⟨eC (by rw[List.length_append,hl];simp;omega),MZ im hp,_,_,_,rfl,fin _ (by rw[h];rfl)⟩
   ·have h:i≠0:=by simpa [L2.T.v]using h
    refine⟨eC (by rw[List.length_append,hl];simp;omega),MZ im hp,_,_,_,rfl,fin _ (by unfold a6;rw[if_neg h])⟩
  ·rintro q ⟨o2,o3,L,rfl,rfl⟩
   rw[iB,List.take_length];refine⟨_,rfl,bF (fun h=>?_) (fun h=>?_)⟩
   ·have h:ps.isEmpty=false:=by simpa using h
    refine⟨eC (by rw[List.length_cons,x5];omega),?_⟩
    unfold unf at hq;rw[h]at hq;exact hq
   ·have h:ps.isEmpty=true:=by simpa using h
    unfold unf at hq;rw[h,if_pos rfl,List.append_nil]at hq;exact hq
theorem uM(T:Txt K mg a):bG P w K mg base CX0 2 a.ck a.jd ["value"] (spQ K Oj):=by
 have pI:=ni (P:=P) (w:=w) (base:=base) T;refine T.eO.okQ fC (fun ts Q h=>?_) (fun cdv A outer s H E hr=>?_)
 ·obtain⟨n,t,rfl,_⟩:=h;rfl
 ·have hu:=de hr;refine⟨_,_,((ai (az (i:=1) fC.nd rfl (Or.inl rfl) (bD ah))
 (ai (az (i:=2) fC.nd rfl (Or.inl rfl) (bD (af (QPE.f (qv 0)) ah)))
 (ai (zb PassesOwn.never (dG (qv 2))
 (ai (GD (j:=3) fC.nd rfl (Or.inl rfl) (pv 2))
 (au (bQ (dG (QPF.w (aL (pC rfl) wR (by rfl) T.bx (by kernel_rfl) (ae (qv 3) (ae (QPF.w (GH (n:="str") rfl T.R4 (by kernel_rfl))) (aC.w ah))))))
 (au (cD (i:=1) (pv 1) (QPE.f (qv 3))))
 (au (vN (i:=2) (pv 2) (zd rfl rfl T.B9 rfl T.ug (QPF.w (aD pI (hr.mono (by first|decide|omega)) rfl T.oY T.cF.kp T.fu (ae (qv 3) (aC.w ah)))))))))))
 (au (a5 (kE (QPF.w aI) (qv 1)))))))),fun ts Q h=>?_⟩
  obtain⟨n,t,rfl,hv,hm,hq⟩:=h;refine⟨hv.im,fun c q=>∃(B:List Str)(ws:List (Nat×L2.T))(o3:Sl)(A1 A2:List L2.T),q = [.r t,.o (.l A1),.o (.l A2),o3]/\A1=B.map .s/\A2=ws.map (·.2)/\B.length+wS ws<=9000/\(∀ w∈ws,(∃ x:Str,w.2 = .s x/\x.length<=20)\/Vd w.1 w.2)/\(∀ x∈B,x.length<=20) /\
   B++ws.reverse.flatMap (fun w=>tell w.1 w.2)=tell n t/\c=wS ws,⟨_,[],[(n,t)],_,_,_,rfl,rfl,rfl,?_,?_,?_,?_,rfl⟩,?_⟩
  ·simpa [wS]using hm
  ·intro w hw;rw[List.mem_singleton.mp hw];exact .inr hv
  ·intro x hx;simp at hx
  ·simp
  ·rintro c q ⟨B,ws,o3,A1,A2,rfl,rfl,rfl,h1,h2,h4,h3,rfl⟩
   rcases List.eq_nil_or_concat ws with rfl |⟨ws',⟨d,u⟩,rfl⟩
   ·have h3:B=tell n t:=by simpa using h3
    have hs:=mT h4;have hB:B.length<=9000:=by omega
    rw[<- h3]at hq;exact⟨B,by rw[<- wJ],by rw[show(Str.ofString "").length=0 from by decide +kernel];omega,hq⟩
   ·rw[List.concat_eq_append]at *;have hW:wS (ws' ++ [(d,u)])=wS ws'+mu d u:=by rw[AO];simp[wS]
    have hl:=FF ws';have hmp:=HS (n:=d) (t:=u);have Pf:L2.T.ims ((ws' ++ [(d,u)]).map (·.2))=true:=eD fun p hp=>by
     obtain⟨w,hw,rfl⟩:=List.mem_map.mp hp;rcases h2 w hw with⟨x,e,_⟩|hv
     ·rw[e];rfl
     ·exact hv.im
    refine bF (fun _=>?_) (fun z=>absurd (by simp) z)
    refine⟨fun q'=>∃(B2:List Str)(ws2:List (Nat×L2.T))(o3:Sl)(A1 A2:List L2.T),q' = [.r t,.o (.l A1),.o (.l A2),o3]/\A1=B2.map .s/\A2=ws2.map (·.2)/\B2.length+wS ws2<=9000/\wS ws2<wS (ws' ++ [(d,u)])/\(∀ w∈ws2,(∃ x:Str,w.2 = .s x/\x.length<=20)\/Vd w.1 w.2)/\(∀ x∈B2,x.length<=20) /\
     B2++ws2.reverse.flatMap (fun w=>tell w.1 w.2)=tell n t,?_,?_⟩
    ·rintro q' ⟨B2,ws2,o3,A1,A2,rfl,rfl,rfl,g0,g1,g2,g4,g3⟩
     exact⟨wS ws2,g1,B2,ws2,_,_,_,rfl,rfl,rfl,g0,g2,g4,g3,rfl⟩
    ·refine⟨ws'.map (·.2),u,by simp,Pf,by decide,?_⟩
     have hu2:=h2 (d,u) (by simp)
     rw[List.reverse_append,List.flatMap_append]at h3;rcases hu2 with⟨x,e,hx⟩|hv
     ·have e:u = .s x:=e;subst e;refine⟨rfl,bF (fun _=>?_) (fun z=>absurd rfl z)⟩
      refine⟨eC (by rw[List.length_map];omega),rfl,B ++ [x],ws',_,_,_,rfl,by simp,rfl,?_,by omega,fun w hw=>h2 w (by simp[hw]),fun y hy=>?_,?_⟩
      ·rw[List.length_append];simp;omega
      ·rcases List.mem_append.mp hy with z|z
       ·exact h4 y z
       ·rw[List.mem_singleton.mp z];exact hx
      ·rw[<- h3];simp[wK]
     ·obtain⟨d',rfl⟩:∃ d',d=d'+1:=by
       cases d with
       | zero=>exact hv.elim
       | succ d'=>exact⟨d',rfl⟩
      obtain⟨m,ps,rfl,m1,m2,lp,hps⟩:=hv;have hmu:=ON (n:=d') (m:=m) (ps:=ps);have him:L2.T.ims ps=true:=eD fun p hp=>(hps p hp).im
      have hul:=JY (m:=m) lp;refine⟨rfl,bF (fun z=>nomatch z) (fun _=>?_)⟩
      refine⟨m,ps,rfl,him,by omega,?_,?_⟩
      ·refine eD fun p hp=>?_
       rcases Cr hp with rfl |⟨i,rfl⟩|z|rfl
       ·rfl
       ·rfl
       ·exact(hps p z).im
       ·rfl
      have eW:wS ((unf m ps).reverse.map fun x=>(d',x)) =((unf m ps).map (mu d')).sum:=by
       unfold wS;rw[List.map_map,List.map_reverse,List.sum_reverse];rfl
      refine⟨by rw[List.length_map,List.length_reverse];exact Nat.le_of_lt (eC (by omega)),B,ws'++((unf m ps).reverse.map fun x=>(d',x)),_,_,_,rfl,rfl,?_,?_,?_,?_,h4,?_⟩
      ·rw[List.map_append,List.map_map]
       congr 1
       exact(List.map_id _).symm
      ·rw[AO,eW];omega
      ·rw[AO,eW,hW];omega
      ·intro w hw;rcases List.mem_append.mp hw with z|z
       ·exact h2 w (by simp[z])
       ·obtain⟨x,hx,rfl⟩:=List.mem_map.mp z;rcases Cr (List.mem_reverse.mp hx)with rfl |⟨i,rfl⟩|z|rfl
        ·exact .inl ⟨m,rfl,m2⟩
        ·exact .inl ⟨_,rfl,y7 i⟩
        ·exact .inr (hps _ z)
        ·exact .inl ⟨_,rfl,by decide +kernel⟩
      ·rw[<- h3,List.reverse_append,List.flatMap_append]
       congr 1
       rw[<- List.map_reverse,List.reverse_reverse,List.flatMap_map];show(unf m ps).flatMap (tell d')++_=tell (d'+1) (.t [.s m,.t ps]) ++ []++_;rw[FO,List.append_nil]
theorem Lj(T:Txt K mg a)(n:Nat):bG P w K mg base CX0 (n+2) a.j6 a.BZ ["_law_value_here"] (spQ K (Oi n)):=by
 induction n with
 | zero=>exact never fun ts Q ⟨t,_,hv,_,_⟩=>hv.elim
 | succ n Cm =>
  refine T.pJ.okQ mX (fun ts Q h=>?_) (fun cdv A outer s H E hr=>?_)
  ·obtain⟨t,rfl,_⟩:=h;rfl
  ·have hu:=de hr;refine⟨_,_,((ai (az (i:=1) mX.nd rfl (Or.inl rfl) (QPE.f (aT (qv 0) (QPF.w aq))))
 (ai (cT (g:=(Tg.tp [2,3])) PassesOwn.never rfl (xa rfl T.kf (by kernel_rfl) (ae (aT (qv 0) (QPF.w aq)) (aC.w ah))) (cJ (K:=K) (n:=2) rfl rfl (aM (aA (i:=2) mX.nd rfl (Or.inl rfl)) (aM (aA (i:=3) mX.nd rfl (Or.inl rfl)) cI)))
 (au (az (i:=1) mX.nd rfl (Or.inl rfl) (ax (QPF.w (ax (qv 1) (aT (QPF.w aI) (QPF.w (bV gc kq (by rfl) T.wz (by kernel_rfl) (ae (QPF.w (iT pT (gd (g':=fun i j=>.b (decide (j<i))) fun _ _ _ _=>.b _) (aG _) (qv 2) (QPF.w aq))) (aC.w ah))))))) (QPF.w (aD Cm (hr.mono (by first|decide|omega)) rfl T.HW T.pJ.kp T.yu (ae (qv 3) (aC.w ah))))))))
 (au (a5 (ax (qv 1) (QPF.w (rX (QPF.w aI) (QPF.w (bV gc kq (by rfl) T.wz (by kernel_rfl) (ae (QPF.w (iT pT (gd (g':=fun i j=>.b (decide (j<i))) fun _ _ _ _=>.b _) (aG _) (QPF.w (aL (a9 rfl) bO (by rfl) T.dN (by kernel_rfl) (ae (aT (qv 0) (QPF.w aq)) (aC.w ah)))) (QPF.w aq))) (aC.w ah)))))))))))),fun ts Q h=>?_⟩
   obtain⟨t,rfl,hv,hm,hq⟩:=h;obtain⟨tl1,tl2⟩:=Nr hv;obtain⟨m,ps,rfl,m1,m2,lp,hps⟩:=hv;have him:L2.T.ims ps=true:=eD fun p hp=>(hps p hp).im
   refine⟨_,rfl,rfl,_,rfl,him,fun i q=>∃ o2 o3 z,q = [.r (.t [.s m,.t ps]),.o (.s z),o2,o3]/\z=Txt.join "" (m ::((ps.take i).zipIdx.flatMap fun p=>a6 p.2::tell n p.1)),⟨_,_,_,rfl,(qZ m).symm⟩,?_,?_⟩
   ·rintro i x q hx ⟨o2,o3,z,rfl,hz⟩
    obtain⟨p,hp,rfl⟩:=nE hx;have hi:i<ps.length:=(List.getElem?_eq_some_iff.mp hp).1;have hpm:p∈ps:=List.mem_of_getElem? hp;obtain⟨s1,s2⟩:=Gp i;have tot:(Txt.join "" (tell (n+1) (.t [.s m,.t ps]))).length<=18000:=by
     rw[yi]
     have:=mT tl2
     omega
    obtain⟨r1,e1⟩:=G7 (n:=n) (m:=m) (ps:=ps) (i+1);rw[e1]at tot;have tot:=Nat.le_trans Pw tot;have ez:Txt.join "" (m ::((ps.take (i+1)).zipIdx.flatMap fun p=>a6 p.2::tell n p.1))=z++a6 i++Txt.join "" (tell n p):=by
     rw[J0 hp,<- List.cons_append,q5,<- hz,<- List.singleton_append,q5,qZ,Str.append_assoc]
    rw[ez,Str.length_append,Str.length_append]at tot;refine⟨_,rfl,by decide +kernel,_,s1,?_⟩
    rw[<- s2];refine⟨nu (by omega),p,rfl,hps p hpm,Nat.le_trans (LA hpm) hm,nu (by rw[Str.length_append];omega),_,_,_,rfl,ez.symm⟩
   ·rintro q ⟨o2,o3,z,rfl,hz⟩
    rw[iB,List.take_length]at hz;have tot:(Txt.join "" (tell (n+1) (.t [.s m,.t ps]))).length<=18000:=by
     rw[yi]
     have:=mT tl2
     omega
    rw[E9 hz]at hq tot;rw[Str.length_append]at tot;refine⟨_,rfl,?_⟩;refine⟨?_,?_,by decide +kernel,nu (by omega),hq⟩
    ·show(0:Int)<=if _ then _ else _
     split <;> decide
    ·show(if _ then _ else _:Int)<=1000
     split <;> decide
theorem pU(T:Txt K mg a):bG P w K mg base CX0 1 a.aW a.dX ["self"] (Qa K a.ak):=by
 refine Fun.ok (k:=0) T.cL kQ (fun vs H Q E h=>?_) fun cdv A outer s H vs Q E hr h=>?_
 ·obtain⟨dl,b,dx,m,l,ys,st,rfl,_⟩:=h;rfl
 ·have hu:=de hr;refine⟨_,bp (pQ (ed pS (fS (pv 0) rfl) b6 (aG _))
   (aY (eg (su PySem.F.plainAttrs_list PySem.F.slot_list_append PySem.F.type_list_append ip (pR kI (fS (pv 0) rfl) (Hi AR br) (fun _ _=>rfl)) (aQ (xm (aQ (fS (pv 0) rfl) (aQ (xm bE) bE))) bE)))
    (bp (se (pv 0) b6 rfl))) m9),?_⟩
  obtain⟨dl,b,dx,m,l,ys,st,rfl,W,hly,hs,k⟩:=h;refine⟨_,rfl,b,a.ak,dx,_,_,rfl,W.ha,T.aE,T.bN,rfl,rfl,_,rfl,?_⟩;refine bF (fun h=>?_) (fun h=>?_)
  ·have h:st.word ≠ "":=fun z=>by rw[z]at h;simp at h
   obtain⟨ys',⟨c,cs⟩,ly',ts,rfl,ely,hpr,hrc⟩:=gI W.rp hly;have hc:H c=some (.lst cs):=W.hy (c,cs) (by simp)
   have hl:H l=some (.lst (ys'.map (fun p=>V.ref p.1) ++ [.ref c])):=by
    have:=W.hl
    rw[List.map_append]at this;exact this
   have hcs:cs.length<=19000:=hs (c,cs) (by simp)
   refine⟨_,rfl,b,a.ak,dx,_,_,rfl,W.ha,T.aE,T.bt,rfl,1,rfl,l,_,-1,.ref c,rfl,rfl,SqL.of hl,uk,.inl ⟨rfl,_,SqL.of hc⟩,_,rfl,b,a.ak,dx,_,_,rfl,W.ha,T.aE,T.bN,rfl,(by show 0<=sizeLine;decide),fun p0 hp0=>⟨(by show 2<=sizeLine;decide),fun p1 hp1=>?_⟩⟩
   have LZ:H p1=none:=by
    by_cases e:p1=p0
    ·rw[e];exact hp0
    ·rw[ag e]at hp1;exact hp1
   have Ly:p1≠p0:=fun e=>by rw[e,ao]at hp1;cases hp1
   have nc0:c≠p0:=ar hc hp0;have nc1:c≠p1:=ar hc LZ;refine⟨c,cs,_,rfl,rfl,by rw[ag nc1,ag nc0];exact hc,eC (by omega),?_⟩
   have nab:∀{x:Addr}{o:HO},H x=some o->x≠p0/\x≠p1:=fun h=>⟨ar h hp0,ar h LZ⟩
   have hbc:b≠c:=cv W.ha hc fun z=>nomatch z
   refine⟨_,rfl,b,a.ak,dx,_,rfl,by rw[ag hbc,ag (nab W.ha).2,ag (nab W.ha).1];exact W.ha,T.aE,T.bN,(by show 3<1000;decide),?_⟩
   have nd:=W.ne;rw[List.map_append]at nd;have nd1:=List.nodup_cons.mp nd;have nd2:=List.nodup_cons.mp nd1.2;have nmc:m≠c:=fun z=>nd1.1 (by rw[z];simp)
   have nlc:l≠c:=fun z=>nd2.1 (by rw[z];simp)
   have nyc:∀ p∈ys',p.1≠c:=fun p hp z=>by
    have:=(List.nodup_append.mp nd2.2).2.2 p.1 (List.mem_map.mpr ⟨p,hp,rfl⟩) c (by simp)
    exact this z
   have Tn:(upd (upd H p0 (.tup [])) p1 (.tup [V.str st.word,.ref p0])) c=some (.lst cs):=by rw[ag nc1,ag nc0];exact hc
   have Tj:(upd (upd (upd H p0 (.tup [])) p1 (.tup [V.str st.word,.ref p0])) c (.lst (cs ++ [V.ref p1]))) b=some (.ins a.ak dx [("word",.str st.word),("makers",.ref m),("layers",.ref l)]):=by
    rw[ag hbc,ag (nab W.ha).2,ag (nab W.ha).1];exact W.ha
   have tf:=(((TF.new (o:=.tup []) hp0).trans (TF.new (o:=.tup [V.str st.word,.ref p0]) hp1)).trans (TF.lst (ys:=cs ++ [V.ref p1]) Tn)).trans (TF.ins (gs:=fN "word" (V.str "") [("word",.str st.word),("makers",.ref m),("layers",.ref l)]) Tj);show Q .non (upd (upd (upd (upd H p0 (.tup [])) p1 (.tup [V.str st.word,.ref p0])) c (.lst (cs ++ [V.ref p1]))) b (.ins a.ak dx (fN "word" (V.str "") [("word",.str st.word),("makers",.ref m),("layers",.ref l)])));have at4:∀{x:Addr}{o:HO},H x=some o->x≠c->x≠b ->(upd (upd (upd (upd H p0 (.tup [])) p1 (.tup [V.str st.word,.ref p0])) c (.lst (cs ++ [V.ref p1]))) b (.ins a.ak dx (fN "word" (V.str "") [("word",.str st.word),("makers",.ref m),("layers",.ref l)]))) x=some o:=fun hx h1 h2=>by
    rw[ag h2,ag h1,ag (nab hx).2,ag (nab hx).1];exact hx
   have n1b:p1≠b:=(nab W.ha).2.symm;have n0b:p0≠b:=(nab W.ha).1.symm;have ew:b8 st =⟨"",st.ms,ly' ++ [ts ++ [.t [.s st.word,.t []]]]⟩:=by
    unfold b8;rw[if_neg h,ely,dj]
   have hk:(upd (upd (upd (upd H p0 (.tup [])) p1 (.tup [V.str st.word,.ref p0])) c (.lst (cs ++ [V.ref p1]))) b (.ins a.ak dx (fN "word" (V.str "") [("word",.str st.word),("makers",.ref m),("layers",.ref l)]))) p1=some (.tup [V.str st.word,.ref p0]):=by rw[ag n1b,ag nc1.symm,ao]
   have hk0:(upd (upd (upd (upd H p0 (.tup [])) p1 (.tup [V.str st.word,.ref p0])) c (.lst (cs ++ [V.ref p1]))) b (.ins a.ak dx (fN "word" (V.str "") [("word",.str st.word),("makers",.ref m),("layers",.ref l)]))) p0=some (.tup []):=by rw[ag n0b,ag nc0.symm,ag Ly.symm,ao]
   refine k _ (ys' ++ [(c,cs ++ [.ref p1])]) ⟨?_,?_,?_,fun p hp=>?_,?_,?_⟩ ⟨fun x o hx hn=>at4 hx (fun z=>hn (by rw[z];simp)) (fun z=>hn (by rw[z];simp)),fun p hp=>.inl ?_⟩ (by simp)
   ·rw[ew,ao];rfl
   ·rw[ew];exact at4 W.hm nmc (cv W.hm W.ha fun z=>nomatch z)
   ·rw[List.map_append];exact at4 hl nlc (cv hl W.ha fun z=>nomatch z)
   ·rcases List.mem_append.mp hp with z|z
    ·exact at4 (W.hy p (by simp[z])) (nyc p z) (cv (W.hy p (by simp[z])) W.ha fun z=>nomatch z)
    ·rw[List.mem_singleton.mp z,ag hbc.symm,ao]
   ·have:=W.ne
    simpa using this
   ·rw[ew];refine l8 (Paired.Br hpr fun p q r=>av.dU tf (fun _ z=>z) r fun _ z=>nomatch z) ?_
    exact av.snoc (.t hk (.cons (F:=[]) (G:=[]) (.s _) (.cons (F:=[]) (G:=[]) (.t hk0 .nil) .nil))) (av.dU tf (fun _ z=>z) hrc fun _ z=>nomatch z) rfl
   ·rcases List.mem_append.mp hp with z|z
    ·exact List.mem_map.mpr ⟨p,by simp[z],rfl⟩
    ·rw[List.mem_singleton.mp z];simp
  ·have h:st.word = "":=by simpa using h
   have e:b8 st=st:=by unfold b8;rw[if_pos h]
   exact k H ys (by rw[e];exact W) ⟨fun _ _ h _=>h,fun p hp=>.inl (List.mem_map.mpr ⟨p,hp,rfl⟩)⟩ rfl
theorem Lm(T:Txt K mg a):bG P w K mg base CX0 1 a.bg a.gA ["self"] (J9 K a.ak):=by
 refine Fun.ok (k:=0) T.eT qp (fun vs H Q E h=>?_) fun cdv A outer s H vs Q E hr h=>?_
 ·obtain⟨b,dx,rfl,_⟩:=h;rfl
 ·refine⟨_,aY (se (pv 0) b6 rfl) (aY (se (pv 0) (sj bE) rfl) (bp (se (pv 0) (sj (aQ (sj bE) bE)) rfl))),?_⟩;obtain⟨b,dx,rfl,hb,k⟩:=h;refine⟨_,rfl,b,a.ak,dx,_,rfl,hb,T.aE,T.bN,(by show 0<1000;decide),?_⟩
  have fr1:∀{x:Addr},(upd H b (.ins a.ak dx (fN "word" (V.str "") []))) x=none->H x=none/\x≠b:=fun{x} hx=>by
   by_cases e:x=b
   ·rw[e,ao]at hx;cases hx
   ·rw[ag e]at hx;exact⟨hx,e⟩
  refine⟨(by show 0<=sizeLine;decide),fun m hm=>?_⟩
  obtain⟨hm1,nmb⟩:=fr1 hm;refine⟨_,rfl,b,a.ak,dx,_,rfl,(ag nmb.symm).trans ao,T.aE,T.cg,(by show 1<1000;decide),?_⟩
  refine⟨(by show 0<=sizeLine;decide),fun c hc=>⟨(by show 1<=sizeLine;decide),fun l hl=>?_⟩⟩
  have ncb:c≠b:=fun e=>by rw[e,ao]at hc;cases hc
  have ncm:c≠m:=fun e=>by rw[e,ag nmb,ao]at hc;cases hc
  have hc1:H c=none:=by rw[ag ncb,ag ncm,ag ncb]at hc;exact hc
  have nlc:l≠c:=fun e=>by rw[e,ao]at hl;cases hl
  have nlb:l≠b:=fun e=>by rw[e,ag ncb.symm,ao]at hl;cases hl
  have nlm:l≠m:=fun e=>by rw[e,ag ncm.symm,ag nmb,ao]at hl;cases hl
  have hl1:H l=none:=by rw[ag nlc,ag nlb,ag nlm,ag nlb]at hl;exact hl
  refine⟨_,rfl,b,a.ak,dx,_,rfl,(ag nlb.symm).trans ((ag ncb.symm).trans ao),T.aE,T.bt,(by show 2<1000;decide),?_⟩
  refine k _ m l c (fun dl=>⟨?_,?_,?_,fun p hp=>?_,?_,?_⟩) (fun x o hx hn=>?_) hm1 hl1 hc1
  ·rw[ao];rfl
  ·rw[ag nmb,ag nlm.symm,ag ncm.symm,ag nmb,ao];rfl
  ·rw[ag nlb,ao];rfl
  ·rw[List.mem_singleton.mp hp,ag ncb,ag nlc.symm,ao]
  ·simp[ncm.symm,nlm.symm,nlc]
  ·exact .cons .nil .nil
  ·rw[ag hn,ag (ar hx hl1),ag (ar hx hc1),ag hn,ag (ar hx hm1),ag hn];exact hx
theorem HE(T:Txt K mg a):bG P w K mg base (CX1 P w) 1 a.bj a.fW ["self"] (F7 K a.ak a.aS):=by
 refine Fun.okX (k:=0) T.dS ie (fun vs H Q E h=>?_) fun cdv A outer s H vs Q E hr h=>?_
 ·obtain⟨dl,b,dx,m,l,ys,st,rfl,_⟩:=h;rfl
 ·have hu:=de hr;refine⟨_,aY (pQ (A9 (sd (fS (pv 0) rfl) (fun _=>rfl))) (bp (zk (fn:=fns) rfl rV (vQ T.bA T.sT rfl T.mw))) m9)
   (aY (fO (i:=1) ie.nd rfl (Or.inl rfl) (so PySem.F.plainAttrs_list PySem.F.slot_list_pop PySem.F.type_list_pop xA (fS (pv 0) rfl)))
    (bp (eg (su PySem.F.plainAttrs_list PySem.F.slot_list_append PySem.F.type_list_append ip (pR kI (fS (pv 0) rfl) (Hi AR br) (fun _ _=>rfl))
     (aQ (xm (aQ (so PySem.F.plainAttrs_list PySem.F.slot_list_pop PySem.F.type_list_pop xA (fS (pv 0) rfl)) (aQ (vR (gb (K:=K) rfl) (by rfl) T.gQ (by kernel_rfl) (aQ (pv 1) bE)) bE))) bE))))),?_⟩
  obtain⟨dl,b,dx,m,l,ys,st,rfl,W,h2,hs,hE,k0⟩:=h;by_cases hms:st.ms = []
  ·refine⟨_,rfl,b,a.ak,dx,_,_,rfl,W.ha,T.aE,T.cg,rfl,?_⟩;refine⟨false,.inl ⟨_,SqL.of W.hm,by simp[hms]⟩,?_⟩
   refine bF (fun _=>?_) (fun z=>absurd rfl z)
   intro a0 ha0;refine⟨a0,a.aS,_,_,none,rfl,T.bA,ao,?_⟩;rw[JX];exact hE hms a0 ha0
  have hly:=h2 hms;have k:=k0 hms;obtain⟨ys1,⟨c,cs⟩,ly1,ts,rfl,ely,S6,hrc⟩:=gI W.rp (fun z=>by rw[z]at hly;simp at hly)
  obtain⟨ys',⟨d,ds⟩,ly',us,rfl,Tp,hpr,hrd⟩:=gI S6 (fun z=>by rw[ely,z]at hly;simp at hly)
  obtain⟨ms',wd,ems⟩:∃ ms' wd,st.ms=ms' ++ [wd]:=by
   rcases List.eq_nil_or_concat st.ms with z |⟨ms',wd,z⟩
   ·exact absurd z hms
   ·exact⟨ms',wd,by rw[z,List.concat_eq_append]⟩
  have hc:H c=some (.lst cs):=W.hy (c,cs) (by simp)
  have hd:H d=some (.lst ds):=W.hy (d,ds) (by simp)
  have hm:H m=some (.lst (ms'.map V.str ++ [.str wd])):=by
   have:=W.hm
   rw[ems,List.map_append]at this;exact this
  have hl:H l=some (.lst ((ys'.map (fun p=>V.ref p.1) ++ [.ref d]) ++ [.ref c])):=by
   have:=W.hl
   rw[List.map_append,List.map_append]at this;exact this
  have hds:ds.length<=19000:=hs (d,ds) (by simp)
  refine⟨_,rfl,b,a.ak,dx,_,_,rfl,W.ha,T.aE,T.cg,rfl,?_⟩;refine⟨true,.inl ⟨_,SqL.of hm,by simp⟩,?_⟩
  refine bF (fun z=>nomatch z) (fun _=>?_)
  have nd:=W.ne;rw[List.map_append,List.map_append]at nd;have nd1:=List.nodup_cons.mp nd;have nd2:=List.nodup_cons.mp nd1.2;have nml:m≠l:=fun z=>nd1.1 (by rw[z];simp)
  have nmc:m≠c:=fun z=>nd1.1 (by rw[z];simp)
  have nmd:m≠d:=fun z=>nd1.1 (by rw[z];simp)
  have nlc:l≠c:=fun z=>nd2.1 (by rw[z];simp)
  have nld:l≠d:=fun z=>nd2.1 (by rw[z];simp)
  have nd3:=List.nodup_append.mp nd2.2;have ndc:d≠c:=nd3.2.2 d (by simp) c (by simp)
  have hbl:b≠l:=cv W.ha hl fun z=>nomatch z
  have hbm:b≠m:=cv W.ha hm fun z=>nomatch z
  have hbd:b≠d:=cv W.ha hd fun z=>nomatch z
  refine⟨_,rfl,b,a.ak,dx,_,_,rfl,W.ha,T.aE,T.bt,rfl,.inl ⟨rfl,_,SqL.of hl⟩,l,_,.ref c,rfl,rfl,hl,by simp,?_⟩
  rw[List.dropLast_concat];have a1:(upd H l (.lst (ys'.map (fun p=>V.ref p.1) ++ [.ref d]))) b=some (.ins a.ak dx [("word",.str st.word),("makers",.ref m),("layers",.ref l)]):=by rw[ag hbl];exact W.ha
  have m1:(upd H l (.lst (ys'.map (fun p=>V.ref p.1) ++ [.ref d]))) m=some (.lst (ms'.map V.str ++ [.str wd])):=by rw[ag nml];exact hm
  refine⟨_,rfl,b,a.ak,dx,_,_,rfl,a1,T.aE,T.bt,rfl,1,rfl,l,_,-1,.ref d,rfl,rfl,SqL.of ao,uk,.inl ⟨rfl,ds,SqL.of (by rw[ag nld.symm];exact hd)⟩,_,rfl,b,a.ak,dx,_,_,rfl,a1,T.aE,T.cg,rfl,.inl ⟨rfl,_,SqL.of m1⟩,m,_,.str wd,rfl,rfl,m1,by simp,_,rfl,c,cs,rfl,.inl ⟨SqL.of (by rw[ag nmc.symm,ag nlc.symm];exact hc),fun p0 hp0=>⟨(by show 2<=sizeLine;decide),fun p1 hp1=>?_⟩⟩⟩
  rw[List.dropLast_concat]at hp0 hp1 ⊢;have tf1:=TF.lst (ys:=ys'.map (fun p=>V.ref p.1) ++ [.ref d]) hl
  have tf2:=tf1.trans (TF.lst (ys:=ms'.map V.str) m1);have at2:∀{x:Addr}{o:HO},H x=some o->x≠l->x≠m ->(upd (upd H l (.lst (ys'.map (fun p=>V.ref p.1) ++ [.ref d]))) m (.lst (ms'.map V.str))) x=some o:=fun hx h1 h2=>by rw[ag h2,ag h1];exact hx
  have l2:(upd (upd H l (.lst (ys'.map (fun p=>V.ref p.1) ++ [.ref d]))) m (.lst (ms'.map V.str))) l=some (.lst (ys'.map (fun p=>V.ref p.1) ++ [.ref d])):=by rw[ag nml.symm,ao]
  have m2:(upd (upd H l (.lst (ys'.map (fun p=>V.ref p.1) ++ [.ref d]))) m (.lst (ms'.map V.str))) m=some (.lst (ms'.map V.str)):=ao
  generalize upd (upd H l (.lst (ys'.map (fun p=>V.ref p.1) ++ [.ref d]))) m (.lst (ms'.map V.str))=H2 at hp0 hp1 tf2 at2 l2 m2 ⊢
  have d2:=at2 hd nld.symm nmd.symm;have b2:=at2 W.ha hbl hbm;have Ly:p1≠p0:=fun e=>by rw[e,ao]at hp1;cases hp1
  have LZ:H2 p1=none:=by rw[ag Ly]at hp1;exact hp1
  have nab:∀{x:Addr}{o:HO},H2 x=some o->x≠p0/\x≠p1:=fun h=>⟨ar h hp0,ar h LZ⟩
  have d4:(upd (upd H2 p0 (.tup cs)) p1 (.tup [V.str wd,.ref p0])) d=some (.lst ds):=by rw[ag (nab d2).2,ag (nab d2).1];exact d2
  refine⟨d,ds,_,rfl,rfl,d4,eC (by omega),?_⟩
  have tf:=((tf2.trans (TF.new (o:=.tup cs) hp0)).trans (TF.new (o:=.tup [V.str wd,.ref p0]) hp1)).trans (TF.lst (ys:=ds ++ [V.ref p1]) d4);show Q .non (upd (upd (upd H2 p0 (.tup cs)) p1 (.tup [V.str wd,.ref p0])) d (.lst (ds ++ [V.ref p1])));have at5:∀{x:Addr}{o:HO},H2 x=some o->x≠d ->(upd (upd (upd H2 p0 (.tup cs)) p1 (.tup [V.str wd,.ref p0])) d (.lst (ds ++ [V.ref p1]))) x=some o:=fun hx h1=>by
   rw[ag h1,ag (nab hx).2,ag (nab hx).1];exact hx
  have hk:(upd (upd (upd H2 p0 (.tup cs)) p1 (.tup [V.str wd,.ref p0])) d (.lst (ds ++ [V.ref p1]))) p1=some (.tup [V.str wd,.ref p0]):=by rw[ag (nab d2).2.symm,ao]
  have hk0:(upd (upd (upd H2 p0 (.tup cs)) p1 (.tup [V.str wd,.ref p0])) d (.lst (ds ++ [V.ref p1]))) p0=some (.tup cs):=by rw[ag (nab d2).1.symm,ag Ly.symm,ao]
  have ec:jg st =⟨st.word,ms',ly' ++ [us ++ [.t [.s wd,.t ts]]]⟩:=by
   unfold jg;rw[ems,ely,Tp];have x1:(ly' ++ [us] ++ [ts]).dropLast=ly' ++ [us]:=by simp
   have x2:(ly' ++ [us] ++ [ts]).getLast?.getD []=ts:=by simp
   have x3:(ms' ++ [wd]).dropLast=ms':=by simp
   have x4:(ms' ++ [wd]).getLast?.getD "" = wd:=by simp
   rw[x1,x2,x3,x4,dj]
  have hyl:∀ p∈ys',p.1≠l/\p.1≠m/\p.1≠d:=fun p hp=>by
   have hpm:p.1∈ys'.map (·.1):=List.mem_map.mpr ⟨p,hp,rfl⟩;refine⟨fun z=>nd2.1 (by rw[<- z];simp;exact .inl ⟨_,hp⟩),fun z=>nd1.1 (by rw[<- z];simp;exact .inr (.inl ⟨_,hp⟩)),?_⟩
   exact(List.nodup_append.mp nd3.1).2.2 p.1 hpm d (by simp)
  refine k _ (ys' ++ [(d,ds ++ [.ref p1])]) ⟨?_,?_,?_,fun p hp=>?_,?_,?_⟩ ⟨fun x o hx hn=>?_,fun p hp=>.inl ?_⟩ ?_
  ·rw[ec];exact at5 b2 hbd
  ·rw[ec];exact at5 m2 nmd
  ·rw[List.map_append];exact at5 l2 nld
  ·rcases List.mem_append.mp hp with z|z
   ·obtain⟨z1,z2,z3⟩:=hyl p z;exact at5 (at2 (W.hy p (by simp[z])) z1 z2) z3
   ·rw[List.mem_singleton.mp z,ao]
  ·have e:(ys' ++ [(d,ds ++ [V.ref p1])]).map (·.1)=ys'.map (·.1) ++ [d]:=by simp
   rw[e];refine List.nodup_cons.mpr ⟨fun z=>nd1.1 ?_,List.nodup_cons.mpr ⟨fun z=>nd2.1 (List.mem_append_left _ z),nd3.1⟩⟩
   rcases List.mem_cons.mp z with z|z
   ·rw[z];exact List.mem_cons_self
   ·exact List.mem_cons_of_mem _ (List.mem_append_left _ z)
  ·rw[ec];refine l8 (Paired.Br hpr fun p q r=>av.dU tf (fun _ z=>z) r fun _ z=>nomatch z) ?_
   exact av.snoc (.t hk (.cons (F:=[]) (G:=[]) (.s _) (.cons (F:=[]) (G:=[]) (.t hk0 (av.dU tf (fun _ z=>z) hrc fun _ z=>nomatch z)) .nil))) (av.dU tf (fun _ z=>z) hrd fun _ z=>nomatch z) rfl
  ·refine at5 (at2 hx (fun z=>hn (by rw[z];simp)) fun z=>hn (by rw[z];simp)) fun z=>hn (by rw[z];simp)
  ·rcases List.mem_append.mp hp with z|z
   ·exact List.mem_map.mpr ⟨p,by simp[z],rfl⟩
   ·rw[List.mem_singleton.mp z];simp
  ·simp
theorem Oy(T:Txt K mg a):bG P w K mg base (CX1 P w) 2 a.bI a.g7 ["self","sign"] (NF K a.ak a.aS):=by
 have Dv:=pU (P:=P) (w:=w) (base:=base) T;have MG:=HE (P:=P) (w:=w) (base:=base) T;refine Fun.okX (k:=1) T.fH rR (fun vs H Q E h=>?_) fun cdv A outer s H vs Q E hr h=>?_
 ·obtain⟨dl,b,dx,m,l,ys,st,c,rfl,_⟩:=h;rfl
 ·have hu:=de hr;refine⟨_,bp (pQ (ed vV (pv 1) b6 (aG _))
   (aY (eg (su PySem.F.plainAttrs_list PySem.F.slot_list_append PySem.F.type_list_append ip (fS (pv 0) rfl) (aQ (fS (pv 0) rfl) bE)))
    (aY (eg (su PySem.F.plainAttrs_list PySem.F.slot_list_append PySem.F.type_list_append ip (fS (pv 0) rfl) (aQ (sj bE) bE)))
     (bp (se (pv 0) b6 rfl))))
   (bp (pQ (ed vV (pv 1) b6 (aG _))
    (bp (eg (jQ (pv 0) T.aE T.dF Dv hr T.bW .nil nh)))
    (bp (pQ (ed vV (pv 1) b6 (aG _))
     (aY (eg (jQ (pv 0) T.aE T.dF Dv hr T.bW .nil nh)) (bp (eg (jQ (pv 0) T.aE T.oX MG hr T.fX .nil MV))))
     (bp (DV (pv 0) (pv 1) LU))))))),?_⟩
  obtain⟨dl,b,dx,m,l,ys,st,c,rfl,W,hlm,hw,hms,hn,hs,hE,k0⟩:=h;have hp1:st.ly ≠ []:=fun z=>by rw[z]at hlm;simp at hlm
  refine⟨_,rfl,rfl,_,rfl,?_⟩;have hyl:=sy W.rp;have hys:=W.OT hs;have s40:(Str.ofString "(") =⟨#[40]⟩:=by decide +kernel
  have s44:(Str.ofString ",") =⟨#[44]⟩:=by decide +kernel
  have s41:(Str.ofString ")") =⟨#[41]⟩:=by decide +kernel
  refine bF (fun h=>?_) (fun h40=>?_)
  ·have hc:c=40:=by
    have z:=of_decide_eq_true h;rw[s40]at z;simpa using z
   subst hc;have k:=k0 (fun z=>absurd z (by decide))
   have ep:bh st 40 =⟨"",st.ms ++ [st.word],st.ly ++ [[]]⟩:=by unfold bh;rw[if_pos rfl]
   have nd1:=List.nodup_cons.mp W.ne;have nd2:=List.nodup_cons.mp nd1.2;have nml:m≠l:=fun z=>nd1.1 (by rw[z];simp)
   have hbm:b≠m:=cv W.ha W.hm fun z=>nomatch z
   have hbl:b≠l:=cv W.ha W.hl fun z=>nomatch z
   refine⟨_,rfl,b,a.ak,dx,_,_,rfl,W.ha,T.aE,T.cg,rfl,.inl ⟨rfl,_,SqL.of W.hm⟩,_,rfl,b,a.ak,dx,_,_,rfl,W.ha,T.aE,T.bN,rfl,m,_,_,rfl,rfl,W.hm,eC (by rw[List.length_map];omega),?_⟩
   have a1:(upd H m (.lst (st.ms.map V.str ++ [.str st.word]))) b=_:=(ag hbm).trans W.ha;have l1:(upd H m (.lst (st.ms.map V.str ++ [.str st.word]))) l=_:=(ag nml.symm).trans W.hl;have tf1:=TF.lst (ys:=st.ms.map V.str ++ [.str st.word]) W.hm;have at1:∀{x:Addr}{o:HO},H x=some o->x≠m ->(upd H m (.lst (st.ms.map V.str ++ [.str st.word]))) x=some o:=fun hx h1=>by rw[ag h1];exact hx
   have m1:(upd H m (.lst (st.ms.map V.str ++ [.str st.word]))) m=some (.lst (st.ms.map V.str ++ [.str st.word])):=ao;have fr1:∀{x:Addr},(upd H m (.lst (st.ms.map V.str ++ [.str st.word]))) x=none->H x=none:=fun{x} hx=>by
    by_cases e:x=m
    ·rw[e,ao]at hx;cases hx
    ·rw[ag e]at hx;exact hx
   refine⟨_,rfl,b,a.ak,dx,_,_,rfl,a1,T.aE,T.bt,rfl,.inl ⟨rfl,_,SqL.of l1⟩,(by show 0<=sizeLine;decide),fun p hp0=>?_⟩
   have hpH:=fr1 hp0;have nlp:l≠p:=ar W.hl hpH;have nbp:b≠p:=ar W.ha hpH;have nmp:m≠p:=ar W.hm hpH;refine⟨l,_,_,rfl,rfl,(ag nlp).trans l1,eC (by rw[List.length_map];omega),?_⟩
   refine⟨_,rfl,b,a.ak,dx,_,rfl,(ag hbl).trans ((ag nbp).trans a1),T.aE,T.bN,(by show 3<1000;decide),?_⟩
   have tf:=((tf1.trans (TF.new (o:=.lst []) hp0)).trans (TF.lst (ys:=ys.map (fun p=>V.ref p.1) ++ [.ref p]) ((ag nlp).trans l1))).trans (TF.ins (gs:=fN "word" (V.str "") [("word",.str st.word),("makers",.ref m),("layers",.ref l)]) ((ag hbl).trans ((ag nbp).trans a1)))
   refine k _ (ys ++ [(p,[])]) ⟨?_,?_,?_,fun r hr=>?_,?_,?_⟩ ⟨fun x o hx hn=>?_,fun r hr=>?_⟩
   ·rw[ep,ao];rfl
   ·rw[ep,ag hbm.symm,ag nml,ag nmp,m1,List.map_append];rfl
   ·rw[ag hbl.symm,ao,List.map_append];rfl
   ·rcases List.mem_append.mp hr with z|z
    ·have hx:=W.hy r z;have n1:r.1≠m:=fun e=>nd1.1 (by rw[<- e];exact List.mem_cons_of_mem _ (List.mem_map.mpr ⟨r,z,rfl⟩))
     have n2:r.1≠l:=fun e=>nd2.1 (by rw[<- e];exact List.mem_map.mpr ⟨r,z,rfl⟩)
     rw[ag (cv hx W.ha fun z=>nomatch z),ag n2,ag (ar hx hpH),ag n1]
     exact hx
    ·rw[List.mem_singleton.mp z,ag nbp.symm,ag nlp.symm,ao]
   ·have e:(ys ++ [(p,([]:List V))]).map (·.1)=ys.map (·.1) ++ [p]:=by simp
    have hpy:p ∉ ys.map (·.1):=fun z=>by
     obtain⟨r,hr,e⟩:=List.mem_map.mp z
     have:=W.hy r hr
     rw[e,hpH]at this;cases this
    rw[e];refine List.nodup_cons.mpr ⟨fun z=>?_,List.nodup_cons.mpr ⟨fun z=>?_,List.nodup_append.mpr ⟨nd2.2,by simp,fun x hx y hy e=>?_⟩⟩⟩
    ·rcases List.mem_cons.mp z with z|z
     ·exact nml z
     ·rcases List.mem_append.mp z with z|z
      ·exact nd1.1 (List.mem_cons_of_mem _ z)
      ·exact nmp (List.mem_singleton.mp z)
    ·rcases List.mem_append.mp z with z|z
     ·exact nd2.1 z
     ·exact nlp (List.mem_singleton.mp z)
    ·rw[List.mem_singleton.mp hy]at e;exact hpy (e▸hx)
   ·rw[ep];exact l8 (Paired.Br W.rp fun p q r=>av.dU tf (fun _ z=>z) r fun _ z=>nomatch z) .nil
   ·have h1:x≠b:=fun z=>hn (by rw[z];simp)
    have h2:x≠l:=fun z=>hn (by rw[z];simp)
    have h3:x≠m:=fun z=>hn (by rw[z];simp)
    rw[ag h1,ag h2,ag (ar hx hpH),ag h3];exact hx
   ·rcases List.mem_append.mp hr with z|z
    ·exact .inl (List.mem_map.mpr ⟨r,z,rfl⟩)
    ·rw[List.mem_singleton.mp z];exact .inr hpH
  have c40:c≠40:=fun z=>h40 (by rw[z,s40];exact decide_eq_true rfl)
  refine⟨_,rfl,rfl,_,rfl,bF (fun h=>?_) (fun h44=>?_)⟩
  ·have hc:c=44:=by
    have z:=of_decide_eq_true h;rw[s44]at z;simpa using z
   subst hc;have k:=k0 (fun z=>absurd z (by decide))
   have ep:bh st 44=b8 st:=by unfold bh;rw[if_neg (by decide),if_pos rfl]
   refine⟨_,rfl,b,dx,_,rfl,W.ha,rfl,dl,b,dx,m,l,ys,st,rfl,W,hp1,fun p hp=>Nat.le_trans (hys p hp) (by decide),fun H1 ys1 W1 K1 _=>?_⟩
   exact k H1 ys1 (by rw[ep];exact W1) K1
  have c44:c≠44:=fun z=>h44 (by rw[z,s44];exact decide_eq_true rfl)
  refine⟨_,rfl,rfl,_,rfl,bF (fun h=>?_) (fun h41=>?_)⟩
  ·have hc:c=41:=by
    have z:=of_decide_eq_true h;rw[s41]at z;simpa using z
   subst hc;have ep:bh st 41=jg (b8 st):=by unfold bh;rw[if_neg (by decide),if_neg (by decide),if_pos rfl]
   refine⟨_,rfl,b,dx,_,rfl,W.ha,rfl,dl,b,dx,m,l,ys,st,rfl,W,hp1,fun p hp=>Nat.le_trans (hys p hp) (by decide),fun H1 ys1 W1 K1 e1=>?_⟩
   have hl1:=sy W1.rp;rw[iC st hp1]at hl1;refine⟨_,rfl,b,dx,_,rfl,W1.ha,rfl,dl,b,dx,m,l,ys1,b8 st,rfl,W1,(fun hz=>?_),(fun p hp'=>Nat.le_trans (W1.OT (ER hs hp1) p hp') (by decide)),(fun hz x hx=>hE rfl (by rw[gO]at hz;exact hz) H1 ys1 W1 K1 x hx),fun hz H2 ys2 W2 K2 _=>?_⟩
   ·rw[gO]at hz;have this:=List.length_pos_iff.mpr hz;rw[iC st hp1,hlm];exact Nat.succ_le_succ this
   ·exact k0 (fun _=>by rw[gO]at hz;exact hz) H2 ys2 (by rw[ep];exact W2) (WrK.trans W1 K1 K2)
  ·have c41:c≠41:=fun z=>h41 (by rw[z,s41];exact decide_eq_true rfl)
   have k:=k0 (fun z=>absurd z c41)
   have ep:bh st c =⟨st.word++⟨#[c]⟩,st.ms,st.ly⟩:=by unfold bh;rw[if_neg c40,if_neg c44,if_neg c41]
   refine⟨_,rfl,b,a.ak,dx,_,_,rfl,W.ha,T.aE,T.bN,rfl,_,rfl,_,_,rfl,rfl,nu (by show st.word.length+1<=20000;omega),dx,_,W.ha,(by show 3<1000;decide),?_⟩
   have tf:=TF.ins (gs:=fN "word" (V.str (st.word++⟨#[c]⟩)) [("word",.str st.word),("makers",.ref m),("layers",.ref l)]) W.ha;refine k _ ys ⟨?_,?_,?_,fun r hr=>?_,W.ne,?_⟩ ⟨fun x o hx hn=>by rw[ag (fun z=>hn (by rw[z];simp))];exact hx,fun r hr=>.inl (List.mem_map.mpr ⟨r,hr,rfl⟩)⟩
   ·rw[ep,ao];rfl
   ·rw[ep,ag (cv W.hm W.ha fun z=>nomatch z)];exact W.hm
   ·rw[ag (cv W.hl W.ha fun z=>nomatch z)];exact W.hl
   ·rw[ag (cv (W.hy r hr) W.ha fun z=>nomatch z)];exact W.hy r hr
   ·rw[ep];exact Paired.Br W.rp fun p q r=>av.dU tf (fun _ z=>z) r fun _ z=>nomatch z
theorem Lk(T:Txt K mg a):bG P w K mg base CX0 1 a.aO a.dg ["self"] (J8 K a.ak):=by
 refine Fun.ok (k:=0) T.cq jz (fun vs H Q E h=>?_) fun cdv A outer s H vs Q E hr h=>?_
 ·obtain⟨dl,b,dx,m,l,c,cs,ys,st,rfl,_⟩:=h;rfl
 ·refine⟨_,bp (l6 (zt (ed vV (il jh (by rfl) T.dN PySem.boot_len (aQ (pR kI (fS (pv 0) rfl) br (fun _ _=>rfl)) bE)) br (aG _)) (pR kI (pR kI (fS (pv 0) rfl) br (fun _ _=>rfl)) br (fun _ _=>rfl)) Hj)),?_⟩
  obtain⟨dl,b,dx,m,l,c,cs,ys,st,rfl,W,h1,h2⟩:=h;have hc:H c=some (.lst cs):=W.hy (c,cs) (by simp)
  refine⟨_,rfl,b,a.ak,dx,_,_,rfl,W.ha,T.aE,T.bt,rfl,l,_,0,.ref c,rfl,rfl,SqL.of W.hl,pE,c,_,rfl,.inl (SqL.of hc),rfl,_,rfl,?_⟩;refine bF (fun z=>?_) (fun z=>?_)
  ·have hl0:(cs.length:Int)=1:=by simpa using z
   have hl:cs.length=1:=by omega
   obtain⟨v,rfl⟩:=List.length_eq_one_iff.mp hl;exact⟨_,rfl,b,a.ak,dx,_,_,rfl,W.ha,T.aE,T.bt,rfl,l,_,0,.ref c,rfl,rfl,SqL.of W.hl,pE,c,_,0,v,rfl,rfl,SqL.of hc,pE,h1 v rfl⟩
  ·exact h2 (fun hl=>z (by simp[hl]))
theorem uN(T:Txt K mg a):bG P w K mg base (CX1 P w) 40 a.cn a.je ["kinds","kind","text"] (ND K (KP a)):=by
 have So:=Oy (P:=P) (w:=w) (base:=base) T;have Dv:=pU (P:=P) (w:=w) (base:=base) T;have PK:=Lm (P:=P) (w:=w) (base:=base) T;have PJ:=Lk (P:=P) (w:=w) (base:=base) T;have PF:=uM (P:=P) (w:=w) (base:=base) T;have TK:=zy (P:=P) (w:=w) (base:=base) T;refine T.eQ.okX fD (fun vs H Q E h=>?_) fun cdv A outer s H vs Q E hr h=>?_
 ·obtain⟨dl,ts,F,Qp,Wp,D,r,⟨ks,k,z,rfl,_⟩,_⟩:=h;rw[r.r.len];rfl
 ·have hu:=de hr;refine⟨_,aY (fO (i:=3) fD.nd rfl (Or.inl rfl) (Hk T.Bp PK (hr.mono (by first|decide|omega)) rfl T.Bk T.gB .nil nh))
   (aY (Ba PassesOwn.leaving rfl (He (pv 2)) (aA (i:=4) fD.nd rfl (Or.inl rfl)) (bp (eg (K9 (pv 3) T.aE T.sJ So (hr.mono (by first|decide|omega)) T.g9 .nil MV (aQ (pv 4) bE)))))
   (aY (eg (jQ (pv 3) T.aE T.dF Dv (hr.mono (by first|decide|omega)) T.bW .nil nh))
   (aY (fO (i:=5) fD.nd rfl (Or.inl rfl) (jQ (pv 3) T.aE T.jD PJ (hr.mono (by first|decide|omega)) T.di .nil nh))
   (aY (pQ (PW.pt (MU (A9 (sd (qV TK (hr.mono (by first|decide|omega)) rfl T.Bv T.gD.kp T.mH .nil nh (aQ (pv 0) (aQ (pv 1) (aQ (pv 5) bE)))) (fun _=>rfl))) (GS (ed pS (qV PF (hr.mono (by first|decide|omega)) rfl T.xC T.eO.kp T.jl .nil nh (aQ (pv 5) bE)) (pv 2) (aG _)))))
    (bp (zk (fn:=fns) rfl rV (vQ T.bA T.sT rfl T.mw))) m9)
   (bp (l6 (pv 5))))))),?_⟩
  obtain⟨dl,ts,F,Qp,Wp,D,r,⟨ks,k,z,rfl,gk,hL,hkk,hz,qy,qn⟩,fin,fix⟩:=h;obtain⟨v0,v1,v2,F1,F2,F3,rfl,r1,r2,r3⟩:=r.three;obtain⟨rfl,_⟩:=r2.r.str;obtain⟨rfl,_⟩:=r3.r.str;intro b dx hb hdx nex;refine⟨b,dx,rfl,ao,fun H1 m l c W0 kp hm hl hc=>⟨rfl,?_⟩⟩
  have Rq:∀ x o,H x=some o->H1 x=some o:=fun x o hx=>by
   refine kp x o ?_ (ar hx hb);rw[ag (ar hx hb),ag (ar hx hdx)];exact hx
  have fr:∀{x:Addr},(upd (upd H dx (.own b)) b (.ins a.ak dx [])) x=none->H x=none:=fun{x} hx=>by
   by_cases e:x=b
   ·rw[e];exact hb
   ·rw[ag e]at hx;by_cases e2:x=dx
    ·rw[e2];exact hdx
    ·rw[ag e2]at hx;exact hx
  have evo:∀{H3:Hp}{ys3:List (Addr×List V)},WrK H1 H3 b m l [(c,[])] ys3->Evo dl H H3:=fun{H3 ys3} K3=>by
   have Ii:∀ x o,H x=some o->H3 x=some o:=fun x o hx=>K3.k x o (Rq x o hx) (by
    simp only[List.map_cons,List.map_nil,List.mem_cons,List.not_mem_nil,or_false,not_or];exact⟨ar hx hb,ar hx (fr hm),ar hx (fr hl),ar hx (fr hc)⟩)
   have D3:Dls dl H3:=fun p hp=>by
    obtain⟨s0,n0,ls0,Q0⟩:=D p hp;exact⟨s0,n0,ls0,{ Q0 with hd:=Ii _ _ Q0.hd,hl:=Ii _ _ Q0.hl }⟩
   exact⟨fun x o h _=>Ii x o h,D3⟩
  have raise:∀{H3:Hp}(a0:Addr),Evo dl H H3->H3 a0=none ->(∀ n t,isN ks n k t=true->Txt.join "" (tell n t)≠z)->E (.ref a.aS) (some a0) (upd H3 a0 (.ext (XAt a0 a.aS none false))):=fun a0 ev ha0 hno =>
   fix a0 _ [] [] _ (ev.new (o:=.ext (XAt a0 a.aS none false)) ha0) ⟨.e (vs:=[]) (.inl ⟨rfl,ao⟩) .nil,fun _ z=>nomatch z⟩ (qn hno)
  have MH:∀{n t},isN ks n k t=true->Txt.join "" (tell n t)=z->Vl n t/\chars (tell n t)=z.cps.toList:=fun{n t} h e=>⟨(g6 gk hL h).2.1,by rw[<- e,cz];rfl⟩
  refine⟨_,rfl,z,rfl,?_⟩;refine L8 (fun i σ H2=>i<=z.cps.size/\∃ ys o4,σ = [some v0,some (.str k),some (.str z),some (.ref b),o4,none]/\WrH K dl H2 a.ak b dx m l ys ((z.cps.toList.take i).foldl bh ⟨"",[],[[]]⟩)/\WrK H1 H2 b m l [(c,[])] ys/\qM i ((z.cps.toList.take i).foldl bh ⟨"",[],[[]]⟩)/\((z.cps.toList.take i).foldl bh ⟨"",[],[[]]⟩).ly.length =((z.cps.toList.take i).foldl bh ⟨"",[],[[]]⟩).ms.length+1) ⟨Nat.zero_le _,_,_,rfl,W0 dl,WrK.refl,qM.start,rfl⟩ ?_ ?_
  ·rintro i ch σ H2 hi ⟨hiz,ys,o4,rfl,W,K2,hst,II⟩
   have hz':z.cps.size<=1500:=hz;have hcs:z.cps.toList[i]? = some ch:=by rw[Array.getElem?_toList];exact hi
   have hil:i<z.cps.size:=by
    have:=(List.getElem?_eq_some_iff.mp hcs).1
    rw[Array.length_toList]at this;exact this
   have bd:=yr (z.cps.toList.take i) Az;have hli:(z.cps.toList.take i).length<=1500:=by rw[List.length_take,Array.length_toList];omega
   rw[Nat.zero_add]at bd;have b1:=bd.w;have b2:=bd.m;have b3:=bd.l;have IT:(z.cps.toList.take (i+1)).foldl bh ⟨"",[],[[]]⟩=bh ((z.cps.toList.take i).foldl bh ⟨"",[],[[]]⟩) ch:=by
    rw[List.take_succ,hcs,List.foldl_append];rfl
   refine⟨_,rfl,b,dx,_,rfl,W.ha,rfl,_,rfl,dl,b,dx,m,l,ys,_,ch,rfl,W,II,by omega,by omega,by omega,(fun ts ht=>Nat.le_trans (bd.t ts ht) (by omega)),(fun h41 hms H3 ys3 W3 K3 x hx=>?_),fun h41 H3 ys3 W3 K3=>?_⟩
   ·refine raise x (evo (WrK.trans W K2 K3)) hx fun n t hN e=>?_
    obtain⟨hvl,ec⟩:=MH hN e;have sf:=Kt (DN hvl [] [] []) (i:=i) (c:=ch) (by rw[ec];exact hcs)
    rw[ec]at sf;exact(sf.2 h41).1 hms
   ·refine⟨by omega,ys3,_,rfl,?_,WrK.trans W K2 K3,?_,?_⟩
    ·rw[IT];exact W3
    ·rw[IT];exact NC hst II h41 (by omega)
    ·rw[IT];exact KJ II h41
  ·rintro σ H2 ⟨_,ys,o4,rfl,W,K2,hst,II⟩
   have hz':z.cps.size<=1500:=hz;have RH:z.cps.toList.take z.cps.size=z.cps.toList:=by rw[<- Array.length_toList,List.take_length]
   rw[RH]at W hst II;have bd:=yr z.cps.toList Az;rw[Nat.zero_add,Array.length_toList]at bd;refine⟨_,rfl,b,dx,_,rfl,W.ha,rfl,dl,b,dx,m,l,ys,_,rfl,W,qX (by simp),(W.OT fun ts ht=>Nat.le_trans (bd.t ts ht) (by omega)),fun H3 ys3 W3 K3 _=>?_⟩
   have ev:=evo (WrK.trans W K2 K3);have ert:∀{n t},isN ks n k t=true->Txt.join "" (tell n t)=z->b8 (z.cps.toList.foldl bh ⟨"",[],[[]]⟩) =⟨"",[],[[t]]⟩:=fun{n t} hN e=>by
    obtain⟨hvl,ec⟩:=MH hN e;rw[<- ec];exact oK hvl [] [] []
   have Rw:=wM hst (by omega)
   generalize b8 (z.cps.toList.foldl bh ⟨"",[],[[]]⟩)=S at W3 ert Rw
   obtain⟨kz,hne,rz,bz⟩:=Rw;obtain⟨c3,cs,ys4,ts0,ly4,rfl,ely,rc⟩:∃ c3 cs ys4 ts0 ly4,ys3 =(c3,cs)::ys4/\S.ly=ts0::ly4/\av K dl H3 cs ts0 []:=by
    have rp:=W3.rp
    revert rp hne
    generalize S.ly=L
    intro hne rp;cases rp with
    | nil=>exact absurd rfl hne
    | cons g1 g2=>exact⟨_,_,_,_,_,rfl,rfl,g1⟩
   have hl0:=rc.len;obtain⟨j0,hj0,rl0⟩:=Gv (by rw[<- ely];exact rz)
   refine⟨_,rfl,b,dx,_,rfl,W3.ha,rfl,dl,b,dx,m,l,c3,cs,ys4,_,rfl,W3,(fun v ev1=>?_),fun hl1=>?_⟩
   ·subst ev1;obtain⟨t,rfl⟩:∃ t,ts0 = [t]:=List.length_eq_one_iff.mp (by rw[<- hl0];rfl)
    obtain⟨v',G,e2,rv,eG⟩:=DR rc;rw[List.append_nil]at eG;subst eG;cases e2;obtain⟨j,hj,hR⟩:=NO rl0;have hjz:j<=1500:=by omega
    have rvp:Rp K dl H3 v t []:=⟨rv,fun _ z=>nomatch z⟩
    refine⟨_,rfl,_,rfl,_,rfl,dl,[tKs ks,.s k,t],_,fun z=>z = .b (isN ks j k t),ev.d,Rps.cons (r1.evo D ev) (Rps.cons (.c (.s k)) (Rps.cons rvp ⟨.nil,fun _ z=>nomatch z⟩)),⟨ks,k,j,t,rfl,gk,hkk,hR.1,Nat.le_trans hR.2.1 hR.2.2,rfl⟩,fun v' t' F' H4 e4 r4 f4 n4 hz=>?_⟩
    subst hz;obtain⟨rfl,_⟩:=r4.r.bl;refine⟨_,rfl,?_⟩;have ev4:=ev.trans e4;cases hN:isN ks j k t with
    | false =>
     intro a0 ha0;refine⟨a0,a.aS,_,_,none,rfl,T.bA,ao,?_⟩;rw[JX];refine raise a0 ev4 ha0 fun n t' hN' e=>?_
     have:=ert hN' e
     rw[this]at ely;cases ely;rw[Iy hR.1 hN']at hN;cases hN
    | true =>
     have rv4:=rvp.evo ev.d e4;obtain⟨hvd,_,hmu⟩:=g6 gk hL hN;have hw:=hR.2.1;refine⟨_,rfl,dl,[t],_,fun z=>z = .s (Txt.join "" (tell j t)),e4.d,Rps.cons rv4 ⟨.nil,fun _ z=>nomatch z⟩,⟨j,t,rfl,hvd,by omega,rfl⟩,fun v5 t5 F5 H5 e5 r5 f5 n5 hz5=>?_⟩
     subst hz5;obtain⟨rfl,_⟩:=r5.r.str;refine⟨_,rfl,rfl,_,rfl,bF (fun hd=>?_) (fun hd=>?_)⟩
     ·intro a0 ha0;refine⟨a0,a.aS,_,_,none,rfl,T.bA,ao,?_⟩;rw[JX];refine raise a0 (ev4.trans e5) ha0 fun n t' hN' e=>?_
      have:=ert hN' e
      rw[this]at ely;cases ely;rw[<- oA hN' hN,e]at hd;simp at hd
     ·have e:Txt.join "" (tell j t)=z:=by
       have:V.str (Txt.join "" (tell j t))=V.str z:=by simpa using hd
       injection this
      exact⟨_,rfl,fin v t [] H5 (ev4.trans e5) (rv4.evo e4.d e5) (fun _ z=>nomatch z) List.nodup_nil (qy j t hN e)⟩
   ·refine⟨_,rfl,_,rfl,_,rfl,dl,[tKs ks,.s k,.n],_,fun z=>z = .b (isN ks 1 k .n),ev.d,Rps.cons (r1.evo D ev) (Rps.cons (.c (.s k)) (Rps.cons (.c .n) ⟨.nil,fun _ z=>nomatch z⟩)),⟨ks,k,1,.n,rfl,gk,hkk,Ll,by decide,rfl⟩,fun v' t' F' H4 e4 r4 f4 n4 hz=>?_⟩
    subst hz;obtain⟨rfl,_⟩:=r4.r.bl;refine⟨_,rfl,?_⟩;intro a0 ha0;refine⟨a0,a.aS,_,_,none,rfl,T.bA,ao,?_⟩;rw[JX];refine raise a0 (ev.trans e4) ha0 fun n t' hN' e=>?_
    have:=ert hN' e
    rw[this]at ely;cases ely;exact hl1 (by rw[hl0];rfl)
theorem Li(T:Txt K mg a):bG P w K mg base CX0 41 a.j4 a.BY ["_law_kinds_here","_law_kind","_law_text_here"] (spQ K Oh):=by
 have yM:=uN (P:=P) (w:=w) (base:=base) T;refine T.mM.okQ gG (fun ts Q h=>?_) (fun cdv A outer s H E hr=>?_)
 ·obtain⟨ks,k,z,rfl,_⟩:=h;rfl
 ·have hu:=de hr;refine⟨_,_,((ai (az (i:=3) gG.nd rfl (Or.inl rfl) dW)
 (ai (az (i:=4) gG.nd rfl (Or.inl rfl) dW)
 (ai (NW (fun _ _=>(GC (Kz (i:=3) gG.nd rfl (Or.inl rfl) (Ky yM (hr.mono (by first|decide|omega)) rfl T.xD T.eQ.kp T.jm (ae (qv 0) (ae (qv 1) (ae (qv 2) (aC.w ah))))))))
 (Qt (i:=5) rfl gG.nd rfl rfl rfl T.uW T.wG (fun _=>(au (az (i:=4) gG.nd rfl (Or.inl rfl) (QPE.f (qv 5)))))
 GF))
 (ai (bQ (aV sA mW (aG _) (qv 4) (QPF.w dW))
 (au (a5 (QPE.f (qv 3))))
 a4)
 (ai (az (i:=6) gG.nd rfl (Or.inl rfl) (bD (af (l5 rfl T.Dz rfl T.bx rfl T.Bm (qv 4)) (af (l5 rfl T.Dy rfl T.bx rfl T.Bl (qv 4)) (af (l5 rfl T.yS rfl T.bx rfl T.xy (qv 4)) ah)))))
 (ai (az (i:=6) gG.nd rfl (Or.inl rfl) (ax (qv 6) (QPF.w (bD (af (l5 rfl T.JU rfl T.bx rfl T.HR (qv 4)) (af (l5 rfl T.Fz rfl T.bx rfl T.Er (qv 4)) (af (l5 rfl T.Fy rfl T.bx rfl T.Ep (qv 4)) ah)))))))
 (ai (bQ (QPW.pt (pN (aV (xr rfl) rO rfl (QPF.w ze) (qv 6)) (pN (w5 (dG (QPF.w (l5 rfl T.bA rfl T.bx rfl T.mw (qv 4))))) (oM (w5 (dG (QPF.w (N0 (fn:=fns) (n:="ValueError") rfl (by decide +kernel) rfl T.bx rfl T.yy (by kernel_rfl) (qv 4)))))))))
 (au (a5 aI))
 a4)
 (au (a5 dW)))))))))),fun ts Q h=>?_⟩
  obtain⟨ks,k,z,rfl,gk,hL,hkk,hz,qy,qn⟩:=h;refine⟨ks,k,z,rfl,gk,hL,hkk,hz,fun n t hN e=>?_,fun hno=>?_⟩
  ·have im:=(g6 gk hL hN).1.im;refine⟨im,qy n t hN e⟩
  ·refine R7 T.bA Ny ?_;have hq:=qn hno;have no:∀(i:Nat)(x:Addr),[a.ay,a.cO,a.bC,a.aS,a.cb,a.dh,a.cc,a.eM][i]? = some x->i≠3->i≠0 ->(Value.ref a.aS :: .ref a.ay::bmV).contains (.ref x)=false:=fun i x hi h3 h0=>Nz (MX T.nd i 3 hi rfl h3) (MX T.nd i 0 hi rfl h0)
   refine⟨rfl,_,_,T.bA,_,_,T.bA,_,_,T.bA,?_⟩;rw[no 6 _ rfl (by decide) (by decide),no 4 _ rfl (by decide) (by decide),no 2 _ rfl (by decide) (by decide)]
   refine⟨_,_,T.bA,_,_,T.bA,_,_,T.bA,?_⟩;rw[no 7 _ rfl (by decide) (by decide),no 1 _ rfl (by decide) (by decide),no 5 _ rfl (by decide) (by decide)]
   have hv:(Value.ref a.aS :: .ref a.ay::bmV).contains (.type "ValueError")=true:=by
    rw[List.contains_cons,List.contains_cons];exact Bool.or_eq_true_iff.mpr (.inr (Bool.or_eq_true_iff.mpr (.inr (by decide +kernel))))
   refine⟨aw (by show 6<=10000;decide),rfl,rfl,rfl,_,_,T.bA,?_⟩
   rw[NA];refine⟨_,_,T.bA,?_⟩;rw[hv];exact hq
theorem vW(T:Txt K mg a):bG P w K mg base CX0 1 a.fJ a.tR ["_law_text_here"] (spQ K G0):=by
 refine T.iF.okQ ku (fun ts Q h=>?_) (fun cdv A outer s H E hr=>?_)
 ·obtain⟨z,rfl,_⟩:=h;rfl
 ·have hu:=de hr;refine⟨_,_,((ai (az (i:=1) ku.nd rfl (Or.inl rfl) (bD (kF (by rfl))))
 (ai (cT (g:=(Tg.nm 2)) PassesOwn.never rfl (NZ (qv 0)) (aA (i:=2) ku.nd rfl (Or.inl rfl))
 (au (bQ (aV (xr rfl) rO rfl (qv 2) (QPF.w aI))
 (au (az (i:=1) ku.nd rfl (Or.inl rfl) (ax (qv 1) (QPF.w (bD (af (QPE.f (qv 2)) (af aI ah)))))))
 (au (CH (i:=1) (pv 1) (QPF.w (GI (QPF.w aq))) (QPF.w (ax (aT (qv 1) (QPF.w (GI (QPF.w aq)))) (qv 2))))))))
 (au (a5 (du rfl (qS (qv 1)) (N':=["_law_piece"]) (.own rfl .nil) (GL (g:=(Tg.nm 0)) (fun _ _ _ _ _=>⟨(aA (i:=0) (show(["_law_piece"]:List Str).Nodup from by decide +kernel) rfl (Or.inl rfl)),(aV pS oF (aG _) (qv 0) (QPF.w aI)),(QPE.f (qv 0))⟩)))))))),fun ts Q h=>?_⟩
  obtain⟨z,rfl,hz,hq⟩:=h;have hz':z.cps.size<=1500:=hz;refine⟨fun i q=>i<=z.cps.size/\∃(W:List Str)(o2:Sl),q = [.r (.s z),.o (.l (W.map .s)),o2]/\W =(z.cps.toList.take i).foldl pst [("":Str)],⟨Nat.zero_le _,_,_,rfl,rfl⟩,?_,?_⟩
  ·rintro i x q hx ⟨hi,W,o2,rfl,hW⟩
   unfold chT at hx;rw[List.getElem?_map]at hx;obtain⟨c,hc,rfl⟩:=Option.map_eq_some_iff.mp hx;have hi':i<z.cps.size:=by
    have:=(List.getElem?_eq_some_iff.mp hc).1
    rw[Array.length_toList]at this;exact this
   obtain⟨S,cur,e,hch,hl⟩:=jY (z.cps.toList.take i) (S:=[]) (cur:="");have e:(z.cps.toList.take i).foldl pst [("":Str)]=S ++ [cur]:=e;have hSl:(S ++ [cur]).length<=3001:=by
    have h1:(z.cps.toList.take i).length<=z.cps.toList.length:=by rw[List.length_take];exact Nat.min_le_right _ _
    have h2:z.cps.toList.length=z.cps.size:=Array.length_toList;have h3:(S ++ [cur]).length<=1+2*(z.cps.toList.take i).length:=hl;omega
   have M3:(z.cps.toList.take (i+1)).foldl pst [("":Str)]=pst (S ++ [cur]) c:=by
    rw[List.take_succ,hc,List.foldl_append,e];rfl
   rw[e]at hW;subst hW;have h3:(chars (S ++ [cur])).length<=1500:=by
    rw[hch,List.nil_append,tX,List.nil_append,List.length_take,Array.length_toList];omega
   have hcl:cur.length<=1500:=by
    have h1:cur.cps.toList.length <=(chars (S ++ [cur])).length:=by rw[aR,cE,List.length_append];omega
    show cur.cps.size<=1500;rw[<- Array.length_toList];omega
   refine⟨_,rfl,bF (fun h=>?_) (fun h=>?_)⟩
   ·have hs:sgn c=true:=by rw[<- CU];exact h
    refine⟨rfl,aw ?_,aZ _,rfl,hi',S ++ [cur] ++ [(⟨#[c]⟩:Str),("":Str)],.r (.s ⟨#[c]⟩),?_,?_⟩
    ·rw[List.length_map];exact Nat.le_trans (Nat.add_le_add_right hSl 2) (by decide)
    ·have e2:(S ++ [cur] ++ [(⟨#[c]⟩:Str),("":Str)]).map L2.T.s =(S ++ [cur]).map L2.T.s ++ [.s ⟨#[c]⟩,.s ""]:=List.map_append ..;rw[e2];rfl
    ·rw[M3,xi hs];simp
   ·have hs:sgn c=false:=by
     cases hh:sgn c with
     | false=>rfl
     | true=>exact absurd (by rw[<- CU]at hh;exact hh) h
    have hat:atI ((S ++ [cur]).map L2.T.s) (-1)=some (.s cur):=by rw[List.map_append];exact uk
    have hix:ixN ((S ++ [cur]).map L2.T.s).length (-1)=some S.length:=by
     rw[List.length_map,List.length_append,List.length_singleton];unfold ixN;rw[if_neg (by decide),if_pos (by omega)]
     congr 1
     omega
    refine⟨_,hat,aw ?_,S.length,hix,aZ _,rfl,hi',S ++ [cur++(⟨#[c]⟩:Str)],.r (.s ⟨#[c]⟩),?_,?_⟩
    ·show cur.length+1<=10000;omega
    ·rw[List.map_append,List.map_append,List.set_append_right _ _ (by rw[List.length_map];exact Nat.le_refl _),List.length_map,Nat.sub_self]
     rfl
    ·rw[M3,xj hs]
  ·rintro q ⟨_,W,o2,rfl,hW⟩
   have hlen:(chT z).length=z.cps.size:=by simp[chT]
   rw[hlen,show z.cps.toList.take z.cps.size=z.cps.toList from by rw[<- Array.length_toList,List.take_length]]at hW
   obtain⟨S,cur,e,hch,hl⟩:=jY z.cps.toList (S:=[]) (cur:="");have hWl:W.length<=3001:=by
    have hl2:(S ++ [cur]).length<=1+2*z.cps.toList.length:=hl;have hsz:z.cps.toList.length=z.cps.size:=Array.length_toList;rw[hW,show z.cps.toList.foldl pst [("":Str)]=S ++ [cur]from e];omega
   refine⟨rL (by rw[List.length_map];omega),fun i ys=>ys =((W.take i).filter nz).map .s,rfl,?_,?_⟩
   ·rintro i x ys hx rfl
    rw[List.getElem?_map]at hx;obtain⟨m,hm,rfl⟩:=Option.map_eq_some_iff.mp hx;have ht:W.take (i+1)=W.take i ++ [m]:=cQ hm;refine⟨_,rfl,rfl,bF (fun g=>?_) (fun g=>?_)⟩
    ·have g:nz m=true:=by simpa [nz,L2.T.v]using g
     refine⟨rfl,?_⟩;show _ ++ [L2.T.s m]=_;rw[ht,dM,List.map_append,List.filter_cons,if_pos g];rfl
    ·have g:nz m=false:=by simpa [nz,L2.T.v]using g
     show _=_;rw[ht,dM,List.map_append,List.filter_cons,if_neg (by rw[g];decide)]
     simp
   ·rintro ys rfl
    rw[List.length_map,List.take_length,hW];exact hq
theorem HC(T:Txt K mg a)(N:Nat):bG P w K mg base CX0 (N+2) a.gM a.ye ["_law_kinds_here","_law_kind","_law_bits","_law_at"] (spQ K (KO N)):=by
 induction N with
 | zero=>exact never fun ts Q hz=>by obtain⟨_,_,_,_,_,_,_,_,_,_,_,_,h,_⟩:=hz;exact absurd h (Nat.not_lt_zero _)
 | succ N yL =>
  refine T.kN.okQ d9 (fun ts Q h=>?_) (fun cdv A outer s H E hr=>?_)
  ·obtain⟨ks,k,bs,x,i,rfl,_⟩:=h;rfl
  ·have hu:=de hr;refine⟨_,_,((ai (cT (g:=(Tg.tp [4,5])) PassesOwn.never rfl (iS (QPE.f (lZ (QPF.w (bV (nN rfl) rP (by rfl) T.Jy (by kernel_rfl) (ae (qv 0) (aC.w ah)))) (qv 1)))) (cJ (K:=K) (n:=2) rfl rfl (aM (aA (i:=4) d9.nd rfl (Or.inl rfl)) (aM (aA (i:=5) d9.nd rfl (Or.inl rfl)) cI)))
 (au (bQ (QPW.pt (wZ (aV Rf (gd (g':=fun i j=>.b (decide (i<j))) fun _ _ _ _=>.b _) (aG _) (qv 3) (QPF.w (aL (a9 rfl) bO (by rfl) T.dN (by kernel_rfl) (ae (qv 2) (aC.w ah))))) (qR (aV (cX hu rfl) bX (aG _) (aT (qv 2) (qv 3)) (qv 4)))))
 (ai (az (i:=3) d9.nd rfl (Or.inl rfl) (ax (qv 3) (QPF.w aq)))
 (ai (az (i:=6) d9.nd rfl (Or.inl rfl) (bD ah))
 (ai (cT (g:=(Tg.tp [7,8])) PassesOwn.never rfl (xa rfl T.kf (by kernel_rfl) (ae (qv 5) (aC.w ah))) (cJ (K:=K) (n:=2) rfl rfl (aM (aA (i:=7) d9.nd rfl (Or.inl rfl)) (aM (aA (i:=8) d9.nd rfl (Or.inl rfl)) cI)))
 (ai (bQ (QPW.pt (pN (aV Hy (gd (g':=fun i j=>.b (decide (j<=i))) fun _ _ _ _=>.b _) (aG _) (qv 3) (QPF.w (aL (a9 rfl) bO (by rfl) T.dN (by kernel_rfl) (ae (qv 2) (aC.w ah))))) (oM (aV pS oF (aG _) (aT (qv 2) (qv 3)) (aT (QPF.w aI) (QPF.w (bV gc kq (by rfl) T.wz (by kernel_rfl) (ae (QPF.w (iT pT (gd (g':=fun i j=>.b (decide (j<i))) fun _ _ _ _=>.b _) (aG _) (qv 7) (QPF.w aq))) (aC.w ah)))))))))
 (au (a5 dW))
 a4)
 (ai (az (i:=9) d9.nd rfl (Or.inl rfl) (aD yL (hr.mono (by first|decide|omega)) rfl T.CY T.kN.kp T.rf (ae (qv 0) (ae (qv 8) (ae (qv 2) (ae (QPF.w (ax (qv 3) (QPF.w aq))) (aC.w ah)))))))
 (ai (bQ (aV sA mW (aG _) (qv 9) (QPF.w dW))
 (au (a5 dW))
 a4)
 (ai (cD (i:=6) (pv 6) (QPE.f (aT (qv 9) (QPF.w aq))))
 (au (az (i:=3) d9.nd rfl (Or.inl rfl) (QPE.f (aT (qv 9) (QPF.w aq))))))))))
 (ai (bQ (QPW.pt (wZ (aV pT (gd (g':=fun i j=>.b (decide (j<i))) fun _ _ _ _=>.b _) (aG _) (QPF.w (aL (a9 rfl) bO (by rfl) T.dN (by kernel_rfl) (ae (qv 5) (aC.w ah)))) (QPF.w aq)) (qR (QPW.pt (pN (aV Hy (gd (g':=fun i j=>.b (decide (j<=i))) fun _ _ _ _=>.b _) (aG _) (qv 3) (QPF.w (aL (a9 rfl) bO (by rfl) T.dN (by kernel_rfl) (ae (qv 2) (aC.w ah))))) (oM (aV pS oF (aG _) (aT (qv 2) (qv 3)) (QPF.w aI))))))))
 (au (a5 dW))
 a4)
 (au (a5 (aB (af (aB (af (QPE.f (qv 4)) (af (bV (gb rfl) ib (by rfl) T.gQ (by kernel_rfl) (ae (qv 6) (aC.w ah))) ah))) (af (ax (qv 3) (QPF.w (bV gc kq (by rfl) T.wz (by kernel_rfl) (ae (QPF.w (iT pT (gd (g':=fun i j=>.b (decide (j<i))) fun _ _ _ _=>.b _) (aG _) (QPF.w (aL (a9 rfl) bO (by rfl) T.dN (by kernel_rfl) (ae (qv 5) (aC.w ah)))) (QPF.w aq))) (aC.w ah))))) ah)))))))))
 a4)))
 (au (a5 dW)))),fun ts Q h=>?_⟩
   obtain⟨ks,k,bs,x,i0,rfl,rfl,gk,hL,hk,hbl,hi0,hop,qy,qn⟩:=h;have EJ:(bs.map L2.T.s).length=bs.length:=List.length_map _;refine⟨dz C4 ks,_,sx ks,_,vY gk.nd hk,tu _,fun i q=>∃ o4 o5:Sl,q = [.r (tKs ks),.r (.s k),.r (.l (bs.map .s)),.r (.i (i0:Int)),o4,o5,.no,.no,.no,.no]/\∀(j:Nat) m,j<i ->(cK ks k)[j]? = some m->bs[i0]? ≠ some m.1,⟨_,_,rfl,fun j m hj=>absurd hj (Nat.not_lt_zero _)⟩,?_,?_⟩
   ·rintro i x q hx ⟨o4,o5,rfl,hno⟩
    rw[List.getElem?_map]at hx;obtain⟨m,hm,rfl⟩:=Option.map_eq_some_iff.mp hx;have mm:=List.mem_of_getElem? hm;obtain⟨f4,ff,m6⟩:=gk.ma mm;refine⟨_,rfl,?_⟩;have more:bs[i0]? ≠ some m.1->∀(j:Nat) m',j<i+1 ->(cK ks k)[j]? = some m'->bs[i0]? ≠ some m'.1:=fun hne j m' hj hm'=>by
     rcases Nat.lt_succ_iff_lt_or_eq.mp hj with z|z
     ·exact hno j m' z hm'
     ·rw[z,hm]at hm';cases hm';exact hne
    refine bF (fun h1=>?_) (fun h1=>?_)
    ·have hlt:i0<bs.length:=by
      have z:=of_decide_eq_true h1;rw[EJ]at z;omega
     have hw:bs[i0]? = some bs[i0]:=by simp[hlt]
     refine⟨_,ju hw,rfl,bF (fun h2=>?_) (fun h2=>?_)⟩
     ·have e1:bs[i0]=m.1:=by simpa [L2.T.v]using h2
      have hd0:bs.drop i0=m.1::bs.drop (i0+1):=by rw[List.drop_eq_getElem_cons hlt,e1]
      refine⟨aZ _,fun j q=>∃(n:Nat)(ps:List L2.T)(x:Int)(ix:Nat)(o7 o8 o9:Sl),q = [.r (tKs ks),.r (.s k),.r (.l (bs.map .s)),.o (.i x),.r (.s m.1),.r (.t (m.2.map .s)),.o (.l ps),o7,o8,o9]/\x =(ix:Int)/\ps.length=j/\Pts ks n m.2 ps/\bs.drop i0=m.1 ::(fl n ps 0++bs.drop ix)/\ix=i0+1+(fl n ps 0).length/\ix<=bs.length,⟨0,[],_,i0+1,_,_,_,rfl,rfl,rfl,(fun j f p _ z=>nomatch z),hd0,rfl,hlt⟩,?_,?_⟩
      ·rintro j y q hy ⟨n,ps,x,ix,o7,o8,o9,rfl,rfl,hj,hP,hd,hix,Td⟩
       obtain⟨fT,hf0,rfl⟩:=nE hy;rw[List.getElem?_map]at hf0;obtain⟨f,hf,rfl⟩:=Option.map_eq_some_iff.mp hf0;have hjl:j<m.2.length:=(List.getElem?_eq_some_iff.mp hf).1;have key:∀ n' t rest,isN ks n' k t=true->bs.drop i0=tell n' t++rest->∃ n1 p Y,isN ks n1 f p=true/\bs.drop ix=a6 j ::(tell n1 p++Y):=fun n' t rest hN e=>by
        obtain⟨n1,ps',_,_,hl',hp',_,hX⟩:=behind gk mm hP (by omega) hN (by rw[<- hd];exact e)
        have hjp:j<ps'.length:=by omega
        rw[hj,List.drop_eq_getElem_cons hjp,fG,List.cons_append,List.append_assoc]at hX;exact⟨n1,ps'[j],_,hp' j f _ hf (by simp[hjp]),hX⟩
       have none:(∀ n1 p Y,isN ks n1 f p=true->bs.drop ix≠a6 j ::(tell n1 p++Y))->Q .n:=fun hh=>qn fun n' t rest hN e=>by
        obtain⟨n1,p,Y,h1,h2⟩:=key n' t rest hN e;exact hh n1 p Y h1 h2
       obtain⟨s1,s2⟩:=Gp j;refine⟨_,rfl,bF (fun h3=>?_) (fun h3=>?_)⟩
       ·refine none fun n1 p Y _ e=>?_
        have z:=(drop_tail e).1;have z2:=of_decide_eq_true h3;rw[EJ]at z2;omega
       ·have hlx:ix<bs.length:=by
         have z2:=of_decide_eq_false (Bool.eq_false_iff.mpr h3);rw[EJ]at z2;omega
        have hwx:bs[ix]? = some bs[ix]:=by simp[hlx]
        have hdx:bs.drop ix=bs[ix]::bs.drop (ix+1):=List.drop_eq_getElem_cons hlx;refine⟨_,ju hwx,by decide +kernel,_,s1,?_⟩
        rw[<- s2];refine⟨rfl,bF (fun h4=>?_) (fun h4=>?_)⟩
        ·refine none fun n1 p Y _ e=>?_
         rw[hdx]at e;rw[(List.cons.inj e).1]at h4;simp at h4
        ·have e4:bs[ix]=a6 j:=by simpa [L2.T.v]using h4
         rw[e4]at hdx;have RA:∃ Y,bs.drop (i0+1) =("(":Str)::Y:=by
          rw[hd0]at hd;have hd:=(List.cons.inj hd).2;cases ps with
          | nil =>
           have hj0:j=0:=hj.symm;refine⟨bs.drop (ix+1),?_⟩;rw[hd];show bs.drop ix=_;rw[hdx,hj0];rfl
          | cons p0 r =>
           rw[fG,List.cons_append]at hd;exact⟨_,hd⟩
         have S7:opn (bs.drop (ix+1))<N:=by
          obtain⟨Y,hY⟩:=RA;have h5:=zv (bs:=bs) (Nat.le_succ i0);have h6:=(drop_tail hY).2.2;rw[hY,zw rfl,<- h6]at h5;have h7:=zv (bs:=bs) (i:=i0+1+1) (j:=ix+1) (by omega)
          omega
         refine⟨ks,f,bs,_,ix+1,rfl,rfl,gk,hL,(ff f (List.mem_of_getElem? hf)),hbl,hlx,S7,fun n' p rest hN' e' y hy=>?_,fun Ta=>?_⟩
         ·have him:=(g6 gk hL hN').1.im;refine⟨rL ?_,_,rfl,him,_,rfl,rfl,?_⟩
          ·omega
          have RF:n<=max n n':=Nat.le_max_left _ _;have RE:n'<=max n n':=Nat.le_max_right _ _;have ef:=Mb gk RF (by omega) hP 0
          have et:=oA (xR gk RE hN') hN';have eX:fl (max n n') (ps ++ [p]) 0=fl n ps 0++a6 j::tell n' p:=by rw[Ma,ef,et,Nat.zero_add,hj]
          refine⟨max n n',ps ++ [p],_,ix+1+(tell n' p).length,_,_,_,rfl,hy,by simp[hj],fun l g q' hg hq'=>?_,?_,?_,?_⟩
          ·rcases Nat.lt_or_ge l ps.length with z|z
           ·rw[List.getElem?_append_left z]at hq';exact xR gk RF (hP l g q' hg hq')
           ·rw[List.getElem?_append_right z]at hq';have hl0:l - ps.length=0:=by
             have:=(List.getElem?_eq_some_iff.mp hq').1
             simp at this;omega
            rw[hl0]at hq';have hlj:l=j:=by omega
            rw[hlj,hf]at hg;cases hg;cases hq';exact xR gk RE hN'
          ·have Ac:bs.drop (ix+1+(tell n' p).length)=rest:=by rw[<- List.drop_drop,e',List.drop_left]
           rw[eX,hd,hdx,e',Ac];simp
          ·rw[eX,List.length_append,List.length_cons];omega
          ·have:=congrArg List.length e'
           rw[List.length_drop,List.length_append]at this;omega
         ·refine none fun n1 p Y h5 e=>Ta n1 p Y h5 ?_
          rw[hdx]at e;exact(List.cons.inj e).2
      ·rintro q ⟨n,ps,x,ix,o7,o8,o9,rfl,rfl,hj,hP,hd,hix,Td⟩
       rw[iB,List.length_map]at hj;have Pf:L2.T.ims ps=true:=eD fun p hp=>by
        obtain⟨l,hl⟩:=List.getElem?_of_mem hp;have hll:l<m.2.length:=by rw[<- hj];exact(List.getElem?_eq_some_iff.mp hl).1
        exact(g6 gk hL (hP l _ p (by simp[hll]:m.2[l]? = some m.2[l]) hl)).1.im
       have hmk:=Iw gk mm hj.symm hP;have hml:(m.2.map L2.T.s).length=m.2.length:=List.length_map _;have key:∀ n' t rest,isN ks n' k t=true->bs.drop i0=tell n' t++rest->bs.drop ix=clo ps++rest:=fun n' t rest hN e=>by
        obtain⟨n1,ps',_,_,hl',_,htk,hX⟩:=behind gk mm hP (by omega) hN (by rw[<- hd];exact e)
        have hpp:ps'=ps:=by rw[<- htk,List.take_of_length_le (by omega)]
        subst hpp;rw[List.drop_length]at hX;exact hX
       have ret:∀ rest,bs.drop ix=clo ps++rest->∀ y:Int,y =((ix+(clo ps).length:Nat):Int)->Q (.t [.t [.s m.1,.t ps],.i y]):=fun rest er y hy=>qy (n+1) _ rest hmk (by rw[hd,er,dY];simp) y (by rw[hy,dY,List.length_cons,List.length_append];congr 1;omega)
       refine bF (fun h5=>?_) (fun h5=>?_)
       ·have z5:=of_decide_eq_true h5;rw[hml]at z5;have EI:clo ps = [(")":Str)]:=by
         cases ps with
         | nil=>exfalso;rw[<- hj]at z5;simp at z5
         | cons p r=>rfl
        refine bF (fun h6=>?_) (fun h6=>?_)
        ·refine qn fun n' t rest hN e=>?_
         have z:=key n' t rest hN e;rw[EI]at z;have z1:=(drop_tail z).1;have z2:=of_decide_eq_true h6;rw[EJ]at z2;omega
        ·have hlx:ix<bs.length:=by
          have z2:=of_decide_eq_false (Bool.eq_false_iff.mpr h6);rw[EJ]at z2;omega
         have hwx:bs[ix]? = some bs[ix]:=by simp[hlx]
         have hdx:bs.drop ix=bs[ix]::bs.drop (ix+1):=List.drop_eq_getElem_cons hlx;refine⟨_,ju hwx,rfl,bF (fun h7=>?_) (fun h7=>?_)⟩
         ·refine qn fun n' t rest hN e=>?_
          have z:=key n' t rest hN e;rw[EI,hdx]at z;rw[(List.cons.inj z).1]at h7;simp at h7
         ·have e7:bs[ix] = ")":=by simpa [L2.T.v]using h7
          refine⟨rfl,Pf,?_⟩;refine ret (bs.drop (ix+1)) (by rw[EI,hdx,e7];rfl) _ ?_
          rw[EI,if_pos h5];rfl
       ·have hps:ps = []:=by
         have z5:=of_decide_eq_false (Bool.eq_false_iff.mpr h5);rw[hml]at z5;exact List.length_eq_zero_iff.mp (by omega)
        subst hps;refine⟨rfl,rfl,?_⟩;refine ret (bs.drop ix) rfl _ ?_;rw[if_neg h5];show(ix:Int)+0 =((ix+0:Nat):Int);rw[Int.add_zero];rfl
     ·exact⟨_,_,rfl,more fun z=>by
       rw[hw]at z;exact h2 (by rw[Option.some.inj z];exact decide_eq_true rfl)⟩
    ·exact⟨_,_,rfl,more fun z=>h1 (decide_eq_true (by
      rw[EJ]
      have:=(List.getElem?_eq_some_iff.mp z).1
      omega))⟩
   ·rintro q ⟨o4,o5,rfl,hno⟩
    refine qn fun n t rest hN e=>?_
    obtain⟨n',m,ps,rfl,rfl,hm,_⟩:=dR hN;obtain⟨j,hj⟩:=List.getElem?_of_mem hm;refine hno j m ?_ hj ?_
    ·have:=(List.getElem?_eq_some_iff.mp hj).1
     rw[List.length_map];exact this
    ·have:(bs.drop i0)[0]? = some m.1:=by rw[e];rfl
     rw[List.getElem?_drop]at this;exact this
theorem OA(T:Txt K mg a):bG P w K mg base CX0 64 a.p6 a.Jg ["_law_kinds_here","_law_kind","_law_text_here"] (spQ K Ol):=by
 have uy:=vW (P:=P) (w:=w) (base:=base) T;have yL:=HC (P:=P) (w:=w) (base:=base) T 61;refine T.AG.okQ A4 (fun ts Q h=>?_) (fun cdv A outer s H E hr=>?_)
 ·obtain⟨ks,k,z,rfl,_⟩:=h;rfl
 ·have hu:=de hr;refine⟨_,_,((ai (az (i:=3) A4.nd rfl (Or.inl rfl) (aD uy (hr.mono (by first|decide|omega)) rfl T.zH T.iF.kp T.nP (ae (qv 2) (aC.w ah))))
 (ai (az (i:=4) A4.nd rfl (Or.inl rfl) (aD yL (hr.mono (by first|decide|omega)) rfl T.CY T.kN.kp T.rf (ae (qv 0) (ae (qv 1) (ae (qv 3) (ae (QPF.w aq) (aC.w ah)))))))
 (ai (bQ (QPW.pt (pN (aV sA mW (aG _) (qv 4) (QPF.w dW)) (oM (aV pS oF (aG _) (aT (qv 4) (QPF.w aq)) (QPF.w (aL (a9 rfl) bO (by rfl) T.dN (by kernel_rfl) (ae (qv 3) (aC.w ah))))))))
 (au (a5 dW))
 a4)
 (au (a5 (QPE.f (aT (qv 4) (QPF.w aq))))))))),fun ts Q h=>?_⟩
  obtain⟨ks,k,z,rfl,gk,hL,hk,hz,hop,qy,qn⟩:=h;refine⟨z,rfl,hz,?_⟩;have hpl:=CS z;have hpo:=Ld z;have text:∀{n t},isN ks n k t=true->Txt.join "" (tell n t)=z->pcs z.cps.toList=tell n t:=fun{n t} hN e=>by
   have ec:chars (tell n t)=z.cps.toList:=by rw[<- e,cz];rfl
   rw[<- ec];exact sv (g6 gk hL hN).2.1
  have M5:=zu z
  generalize pcs z.cps.toList=bs at hpl hpo text M5 ⊢
  have hbl:(bs.map L2.T.s).length=bs.length:=List.length_map _;refine⟨ks,k,bs,_,0,rfl,rfl,gk,hL,hk,by omega,Nat.zero_le _,by rw[List.drop_zero];omega,fun n t rest hN e y hy=>?_,fun hno=>?_⟩
  ·rw[List.drop_zero]at e;refine⟨_,rfl,rfl,bF (fun h1=>?_) (fun h1=>?_)⟩
   ·refine qn fun n' t' hN' e'=>?_
    have eb:=text hN' e';rw[e]at eb;obtain⟨rfl,hr0⟩:=pf gk hN hN' (show tell n t++rest=tell n' t' ++ []by rw[List.append_nil];exact eb)
    rw[hr0,List.append_nil]at e
    have:y =((bs.map L2.T.s).length:Nat):=by rw[hy,hbl,e,Nat.zero_add]
    rw[this]at h1;simp[L2.T.v]at h1
   ·have h2:y =((bs.map L2.T.s).length:Nat):=by simpa [L2.T.v]using h1
    have hr0:rest = []:=by
     rw[hy,hbl,e,List.length_append]at h2;exact List.length_eq_zero_iff.mp (by omega)
    rw[hr0,List.append_nil]at e;refine⟨_,rfl,(g6 gk hL hN).1.im,qy n t hN (by rw[<- e];exact M5)⟩
  ·refine qn fun n' t' hN' e'=>hno n' t' [] hN' ?_
   rw[List.drop_zero,List.append_nil];exact text hN' e'
theorem Eb(T:Txt K mg a):bG P w K mg base CX0 2 a.fI a.tQ ["_law_deal_here","_law_kinds_here","_law_text_here"] (spQ K GZ):=by
 have bL:bG P w K mg base CX0 1 a.fk a.j8 ["_law_deal_here","_law_many"] (spQ K l7):=tL (nj T);have uy:=vW (P:=P) (w:=w) (base:=base) T;refine T.kj.okQ cB (fun ts Q h=>?_) (fun cdv A outer s H E hr=>?_)
 ·obtain⟨ks,z,rfl,_⟩:=h;rfl
 ·have hu:=de hr;refine⟨_,_,((ai (az (i:=3) cB.nd rfl (Or.inl rfl) (aD uy (hr.mono (by first|decide|omega)) rfl T.zH T.iF.kp T.nP (ae (qv 2) (aC.w ah))))
 (ai (az (i:=4) cB.nd rfl (Or.inl rfl) (aD bL (hr.mono (by first|decide|omega)) rfl T.b7 T.bM.kp T.bP (ae (qv 0) (ae (QPF.w (aL (a9 rfl) bO (by rfl) T.dN (by kernel_rfl) (ae (qv 3) (aC.w ah)))) (aC.w ah)))))
 (ai (az (i:=5) cB.nd rfl (Or.inl rfl) (aD bL (hr.mono (by first|decide|omega)) rfl T.b7 T.bM.kp T.bP (ae (qv 0) (ae (QPF.w (ax (QPF.w (aL (a9 rfl) bO (by rfl) T.dN (by kernel_rfl) (ae (qv 2) (aC.w ah)))) (QPF.w aq))) (aC.w ah)))))
 (ai (az (i:=6) cB.nd rfl (Or.inl rfl) (bD ah))
 (ai (cT (g:=(Tg.tp [7,8])) PassesOwn.never rfl (iS (QPE.f (qv 1))) (cJ (K:=K) (n:=2) rfl rfl (aM (aA (i:=7) cB.nd rfl (Or.inl rfl)) (aM (aA (i:=8) cB.nd rfl (Or.inl rfl)) cI)))
 (au (az (i:=6) cB.nd rfl (Or.inl rfl) (ax (qv 6) (QPF.w (du rfl (jP (qv 8)) (N':=["_law_maker","_law_fields"]) (.own rfl (.own rfl .nil)) (fb (g:=(Tg.tp [0,1])) (fun _ _ _ _ _=>⟨(cJ (K:=K) (n:=2) rfl rfl (aM (aA (i:=0) (show(["_law_maker","_law_fields"]:List Str).Nodup from by decide +kernel) rfl (Or.inl rfl) (Or.inr rfl)) (aM (aA (i:=1) (show(["_law_maker","_law_fields"]:List Str).Nodup from by decide +kernel) rfl (Or.inl rfl) (Or.inr rfl)) cI))),(QPE.f (qv 0))⟩))))))))
 (ai (az (i:=9) cB.nd rfl (Or.inl rfl) (ax (qv 6) (QPF.w (bD (kF (by rfl))))))
 (ai (az (i:=10) cB.nd rfl (Or.inl rfl) (QPE.f (aT (qv 9) (QPF.w (aD bL (hr.mono (by first|decide|omega)) rfl T.b7 T.bM.kp T.bP (ae (qv 0) (ae (QPF.w (aL (a9 rfl) bO (by rfl) T.dN (by kernel_rfl) (ae (qv 9) (aC.w ah)))) (aC.w ah))))))))
 (ai (az (i:=11) cB.nd rfl (Or.inl rfl) (aD bL (hr.mono (by first|decide|omega)) rfl T.b7 T.bM.kp T.bP (ae (qv 0) (ae (QPF.w aq) (aC.w ah)))))
 (ai (bQ (aV (cX hu rfl) bX (aG _) (qv 11) (QPF.w aq))
 (au (a5 (kE (QPF.w aI) (QPF.w (ax (QPF.w (bJ (qv 3) cw (bY (qv 4)))) (QPF.w (bJ (qv 3) (bY (QPF.w (ax (qv 4) (QPF.w aq)))) cw)))))))
 a4)
 (ai (bQ (aV (cX hu rfl) bX (aG _) (qv 11) (QPF.w aq))
 (au (a5 (kE (QPF.w aI) (QPF.w (ax (QPF.w (bJ (qv 3) cw (bY (QPF.w (ax (qv 4) (QPF.w aq)))))) (QPF.w (bJ (qv 3) (bY (qv 4)) cw)))))))
 a4)
 (ai (bQ (aV (cX hu rfl) bX (aG _) (qv 11) (QPF.w aq))
 (au (a5 (kE (QPF.w aI) (QPF.w (ax (QPF.w (ax (QPF.w (bJ (qv 3) cw (bY (qv 4)))) (QPF.w (bD (af (QPE.f (qv 10)) ah))))) (QPF.w (bJ (qv 3) (bY (QPF.w (ax (qv 4) (QPF.w aq)))) cw)))))))
 a4)
 (ai (bQ (aV (cX hu rfl) bX (aG _) (qv 11) (QPF.w aq))
 (au (a5 (kE (QPF.w aI) (QPF.w (ax (QPF.w (ax (QPF.w (bJ (qv 3) cw (bY (qv 4)))) (QPF.w (bD (af (QPE.f (qv 10)) ah))))) (QPF.w (bJ (qv 3) (bY (qv 4)) cw)))))))
 a4)
 (ai (bQ (aV (cX hu rfl) bX (aG _) (qv 11) (QPF.w aq))
 (au (a5 (ax (QPF.w (ax (QPF.w (bJ (qv 2) cw (bY (qv 5)))) (qv 10))) (QPF.w (bJ (qv 2) (bY (qv 5)) cw)))))
 a4)
 (au (a5 (ax (QPF.w (bJ (qv 2) cw (bY (qv 5)))) (QPF.w (bJ (qv 2) (bY (QPF.w (ax (qv 5) (QPF.w aq)))) cw))))))))))))))))))),fun ts Q h=>?_⟩
  obtain⟨ks,z,rfl,gk,hL,hz1,hz,hop,hq⟩:=h;refine⟨z,rfl,by omega,?_⟩
  have hpl:=CS z;have hpc:=vS z;have hzl:z.cps.toList.length=z.length:=Array.length_toList;have hp0:0<(pcs z.cps.toList).length:=by
   rcases Nat.eq_zero_or_pos (pcs z.cps.toList).length with e|e
   ·rw[List.length_eq_zero_iff.mp e]at hpc
    have:z.cps.toList.length=0:=by rw[<- hpc];rfl
    omega
   ·exact e
  have BQ:∀ xs:List Str,xs.Sublist (pcs z.cps.toList) ->(chars xs).length<=462/\opc (chars xs)<=20:=fun xs hx=>by
   obtain⟨h1,h2⟩:=E8 hx;rw[hpc]at h1 h2;exact⟨by omega,Nat.le_trans h2 hop⟩
  generalize pcs z.cps.toList=bs at hpl hpc hp0 BQ ⊢
  have hbl:(bs.map L2.T.s).length=bs.length:=List.length_map _;refine⟨by rw[hbl];omega,by rw[hbl];omega,fun at_ a0 a1=>?_⟩
  refine⟨aw (by omega),by omega,by omega,fun FZ s0 s1=>?_⟩
  have nl:∀ i,(names (ks.take i)).length<=18:=fun i=>by
   have h1:=oV (ks:=ks.take i) fun k hk=>(gk.ne k (List.mem_of_mem_take hk)).2
   have h2:=gk.k2;rw[List.length_take]at h1;omega
  refine⟨xV ks,fun i q=>∃(o7 o8:Sl)(L:List L2.T),q = [.r .jc,.r (tKs ks),.r (.s z),.o (.l (bs.map .s)),.o (.i at_),.o (.i FZ),.o (.l L),o7,o8,.no,.no,.no]/\L =(names (ks.take i)).map .s,⟨_,_,_,rfl,rfl⟩,?_,?_⟩
  ·rintro i x q hx ⟨o7,o8,L,rfl,rfl⟩
   rw[List.getElem?_map]at hx;obtain⟨kd,hk,rfl⟩:=Option.map_eq_some_iff.mp hx;have h6:=(gk.ne kd (List.mem_of_getElem? hk)).2;refine⟨_,rfl,aK (by rw[List.length_map];omega),fun i ys=>ys =((kd.2.take i).map (·.1)).map .s,rfl,?_,?_⟩
   ·rintro i x ys hx rfl
    rw[List.getElem?_map]at hx;obtain⟨m,hm,rfl⟩:=Option.map_eq_some_iff.mp hx;refine⟨_,rfl,rfl,?_⟩;show _ ++ [L2.T.s m.1]=_;rw[cQ hm,List.map_append,List.map_append];rfl
   ·rintro ys rfl
    have h7:=nl i;refine⟨aw (by rw[List.length_map,List.length_map,List.length_map,List.length_take,List.length_map];omega),aZ _,aZ _,_,_,_,rfl,?_⟩
    rw[List.length_map,List.take_length,sG hk,List.map_append]
  ·rintro q ⟨o7,o8,L,rfl,rfl⟩
   have h7:=nl (ks.map tK).length;rw[List.length_map,List.take_length]at h7 ⊢;refine⟨aw (by rw[List.length_map];show(names ks).length+9<=10000;omega),aZ _,aZ _,?_⟩
   have eS:(names ks).map L2.T.s++List.map L2.T.s exS =(names ks++exS).map L2.T.s:=(List.map_append ..).symm;have hex:∀ w∈exS,w.length<=20/\opz w<=1:=by decide +kernel
   have hS:∀ w∈names ks++exS,w.length<=20/\opz w<=1:=fun w hw=>by
    rcases List.mem_append.mp hw with y|y
    ·exact⟨(hL w y).2.1,by rw[xn (hL w y).2.2];exact Nat.zero_le _⟩
    ·exact hex w y
   have hSl:(names ks++exS).length<=27/\0<(names ks++exS).length:=by
    rw[List.length_append];show _+9<=27/\0<_+9;omega
   have hSS:(((names ks).map L2.T.s++List.map L2.T.s exS).length:Int) =(names ks++exS).length:=by rw[eS,List.length_map]
   have hS0:(0:Int)<(((names ks).map L2.T.s++List.map L2.T.s exS).length:Nat):=by rw[hSS];omega
   have hS1:((((names ks).map L2.T.s++List.map L2.T.s exS).length:Nat):Int)<2 ^ 64:=by rw[hSS];omega
   refine⟨hS0,hS1,fun r r0 r1=>?_⟩
   obtain⟨one,eo,ho⟩:=yz (ws:=names ks++exS) r0 (by rw[<- hSS];exact r1)
   rw[<- eS]at eo;obtain⟨o20,o1⟩:=hS one ho;refine⟨_,eo,rfl,by decide,by decide,fun fm f0 f1=>?_⟩
   have J:∀(L:List Str)(xs:List L2.T),xs=L.map .s ->(chars L).length<=1000->opc (chars L)<=45->∃ ys,txs xs=some ys/\(ys.map (·.length)).sum+ys.length*(Str.ofString "").length<=16777216/\Q (.s (Txt.join (Str.ofString "") ys)):=fun L xs e h1 h2=>by
    have hl:(Txt.join "" L).length =(chars L).length:=by
     show(Txt.join "" L).cps.size=_;rw[<- Array.length_toList,cz];rfl
    refine⟨L,by rw[e];exact wJ L,?_,hq _ ⟨by rw[hl];omega,by rw[xo];exact h2⟩⟩
    rw[<- yi,hl,show(Str.ofString "").length=0 from by decide +kernel]
    omega
   have hc1:∀ lo hi lo' hi',(chars (cu bs lo hi++cu bs lo' hi')).length<=1000/\opc (chars (cu bs lo hi++cu bs lo' hi'))<=45:=fun lo hi lo' hi'=>by
    obtain⟨x1,x2⟩:=BQ _ (nI bs lo hi);obtain⟨y1,y2⟩:=BQ _ (nI bs lo' hi');rw[aR,List.length_append,dy];omega
   have hc2:∀ lo hi lo' hi',(chars (cu bs lo hi ++ [one]++cu bs lo' hi')).length<=1000/\opc (chars (cu bs lo hi ++ [one]++cu bs lo' hi'))<=45:=fun lo hi lo' hi'=>by
    obtain⟨x1,x2⟩:=BQ _ (nI bs lo hi);obtain⟨y1,y2⟩:=BQ _ (nI bs lo' hi');have o3:one.cps.toList.length=one.length:=Array.length_toList;rw[aR,aR,cE,List.length_append,List.length_append,dy,dy,show opc one.cps.toList=opz one from rfl];omega
   have cl:∀ lo hi,(cu (bs.map L2.T.s) lo hi).length<=bs.length:=fun lo hi=>by rw[<- hbl];exact C2 _ _ _
   have ci:∀ lo hi,L2.T.ims (cu (bs.map L2.T.s) lo hi)=true:=fun lo hi=>xU _ _ _
   refine⟨rfl,bF (fun _=>?_) (fun _=>?_)⟩
   ·refine⟨aZ _,aZ _,aw ?_,ci _ _,ci _ _,J (cu bs none (some at_)++cu bs (some (at_+1)) none) _ ?_ (hc1 _ _ _ _).1 (hc1 _ _ _ _).2⟩
    ·have:=cl none (some at_);have:=cl (some (at_+1)) none;omega
    ·rw[List.map_append,eJ,eJ]
   refine⟨rfl,bF (fun _=>?_) (fun _=>?_)⟩
   ·refine⟨aZ _,aZ _,aw ?_,ci _ _,ci _ _,J (cu bs none (some (at_+1))++cu bs (some at_) none) _ ?_ (hc1 _ _ _ _).1 (hc1 _ _ _ _).2⟩
    ·have:=cl none (some (at_+1));have:=cl (some at_) none;omega
    ·rw[List.map_append,eJ,eJ]
   have ia:∀ lo hi,L2.T.ims (cu (bs.map L2.T.s) lo hi ++ [.s one])=true:=fun lo hi=>by rw[gw,ci];rfl
   have sa:∀ lo hi,(cu (bs.map L2.T.s) lo hi).length + [L2.T.s one].length<=10000:=fun lo hi=>by have:=cl lo hi;rw[List.length_singleton];omega
   refine⟨rfl,bF (fun _=>?_) (fun _=>?_)⟩
   ·refine⟨aZ _,rfl,aw (sa _ _),ci _ _,rfl,aZ _,aw ?_,ia _ _,ci _ _,J (cu bs none (some at_) ++ [one]++cu bs (some (at_+1)) none) _ ?_ (hc2 _ _ _ _).1 (hc2 _ _ _ _).2⟩
    ·have:=cl none (some at_);have:=cl (some (at_+1)) none;rw[List.length_append,List.length_singleton];omega
    ·rw[List.map_append,List.map_append,eJ,eJ];rfl
   refine⟨rfl,bF (fun _=>?_) (fun _=>?_)⟩
   ·refine⟨aZ _,rfl,aw (sa _ _),ci _ _,rfl,aZ _,aw ?_,ia _ _,ci _ _,J (cu bs none (some at_) ++ [one]++cu bs (some at_) none) _ ?_ (hc2 _ _ _ _).1 (hc2 _ _ _ _).2⟩
    ·have:=cl none (some at_);have:=cl (some at_) none;rw[List.length_append,List.length_singleton];omega
    ·rw[List.map_append,List.map_append,eJ,eJ];rfl
   have ts:∀ lo hi,(Txt.slice z lo hi).length<=462/\opz (Txt.slice z lo hi)<=20:=fun lo hi=>⟨Nat.le_trans (Txt.slice_le _ _ _) hz,Nat.le_trans (D7 z lo hi) hop⟩
   refine⟨rfl,bF (fun _=>?_) (fun _=>?_)⟩
   ·have x1:=ts none (some FZ);have x2:=ts (some FZ) none;refine⟨aw (by omega),aw (by omega),aw (by omega),aw (by rw[Str.length_append];omega),hq _ ⟨?_,?_⟩⟩
    ·rw[Str.length_append,Str.length_append];omega
    ·rw[fF,fF];omega
   ·have x1:=ts none (some FZ);have x2:=ts (some (FZ+1)) none;refine⟨aw (by omega),aw (by omega),aw (by omega),hq _ ⟨?_,?_⟩⟩
    ·rw[Str.length_append];omega
    ·rw[fF];omega
theorem OB(T:Txt K mg a):bG P w K mg base CX0 1 a.p7 a.Jh ["_law_kinds_here","_law_text_here"] (spQ K Q7):=by
 refine T.AH.okQ jN (fun ts Q h=>?_) (fun cdv A outer s H E hr=>?_)
 ·obtain⟨ks,z,rfl,_⟩:=h;rfl
 ·have hu:=de hr;refine⟨_,_,((ai (az (i:=2) jN.nd rfl (Or.inl rfl) (bD ah))
 (ai (cT (g:=(Tg.tp [3,4])) PassesOwn.never rfl (iS (QPE.f (qv 0))) (cJ (K:=K) (n:=2) rfl rfl (aM (aA (i:=3) jN.nd rfl (Or.inl rfl)) (aM (aA (i:=4) jN.nd rfl (Or.inl rfl)) cI)))
 (au (az (i:=2) jN.nd rfl (Or.inl rfl) (ax (qv 2) (QPF.w (du rfl (jP (qv 4)) (N':=["_law_maker","_law_fields"]) (.own rfl (.own rfl .nil)) (fb (g:=(Tg.tp [0,1])) (fun _ _ _ _ _=>⟨(cJ (K:=K) (n:=2) rfl rfl (aM (aA (i:=0) (show(["_law_maker","_law_fields"]:List Str).Nodup from by decide +kernel) rfl (Or.inl rfl) (Or.inr rfl)) (aM (aA (i:=1) (show(["_law_maker","_law_fields"]:List Str).Nodup from by decide +kernel) rfl (Or.inl rfl) (Or.inr rfl)) cI))),(QPE.f (qv 0))⟩))))))))
 (ai (az (i:=5) jN.nd rfl (Or.inl rfl) (bD (af aI (af aI (af aI (af aI (af aI (af aI (af aI (af aI (af aI (af aI (af aI (af (ax (qv 1) (QPF.w aI)) (af (ax (QPF.w aI) (qv 1)) (af (ax (qv 1) (QPF.w aI)) (af (ax (QPF.w aI) (qv 1)) ah)))))))))))))))))
 (ai (az (i:=5) jN.nd rfl (Or.inl rfl) (ax (qv 5) (QPF.w (bD (af (ax (QPF.w (ax (QPF.w aI) (qv 1))) (QPF.w aI)) (af (ax (qv 1) (QPF.w aI)) (af (ax (qv 1) (QPF.w aI)) (af (ax (QPF.w aI) (qv 1)) (af (ax (qv 1) (qv 1)) (af (ax (qv 1) (QPF.w aI)) (af (ax (qv 1) (QPF.w aI)) ah)))))))))))
 (ai (cD (i:=5) (pv 5) (GG (qv 1)))
 (ai (az (i:=5) jN.nd rfl (Or.inl rfl) (ax (qv 5) (QPF.w (bD (GN (KI (qv 1) (qv 1)) (rY (xb (qv 1)) (rY (xb (qv 1)) (rY (xb (qv 1)) (N1 ah)))))))))
 (au (a5 (ax (QPF.w (ax (QPF.w (ax (qv 5) (QPF.w (du rfl (qS (qv 2)) (N':=["_law_name"]) (.own rfl .nil) (fb (g:=(Tg.nm 0)) (fun _ _ _ _ _=>⟨(aA (i:=0) (show(["_law_name"]:List Str).Nodup from by decide +kernel) rfl (Or.inl rfl)),(ax (qv 0) (QPF.w aI))⟩)))))) (QPF.w (du rfl (qS (qv 2)) (N':=["_law_name"]) (.own rfl .nil) (fb (g:=(Tg.nm 0)) (fun _ _ _ _ _=>⟨(aA (i:=0) (show(["_law_name"]:List Str).Nodup from by decide +kernel) rfl (Or.inl rfl)),(ax (qv 0) (QPF.w aI))⟩)))))) (QPF.w (du rfl (qS (qv 2)) (N':=["_law_name"]) (.own rfl .nil) (fb (g:=(Tg.nm 0)) (fun _ _ _ _ _=>⟨(aA (i:=0) (show(["_law_name"]:List Str).Nodup from by decide +kernel) rfl (Or.inl rfl)),(ax (qv 0) (QPF.w aI))⟩)))))))))))))),fun ts Q h=>?_⟩
  obtain⟨ks,z,rfl,gk,hL,hLz,hz,hop,hq⟩:=h;have nl:∀ i,(names (ks.take i)).length<=18:=fun i=>by
   have h1:=oV (ks:=ks.take i) fun k hk=>(gk.ne k (List.mem_of_mem_take hk)).2
   have h2:=gk.k2;rw[List.length_take]at h1;omega
  refine⟨xV ks,fun i q=>∃(o3 o4:Sl)(L:List L2.T),q = [.r (tKs ks),.r (.s z),.o (.l L),o3,o4,.no]/\L =(names (ks.take i)).map .s,⟨_,_,_,rfl,rfl⟩,?_,?_⟩
  ·rintro i x q hx ⟨o3,o4,L,rfl,rfl⟩
   rw[List.getElem?_map]at hx;obtain⟨kd,hk,rfl⟩:=Option.map_eq_some_iff.mp hx;have h6:=(gk.ne kd (List.mem_of_getElem? hk)).2;refine⟨_,rfl,aK (by rw[List.length_map];omega),fun i ys=>ys =((kd.2.take i).map (·.1)).map .s,rfl,?_,?_⟩
   ·rintro i x ys hx rfl
    rw[List.getElem?_map]at hx;obtain⟨m,hm,rfl⟩:=Option.map_eq_some_iff.mp hx;refine⟨_,rfl,rfl,?_⟩;show _ ++ [L2.T.s m.1]=_;rw[cQ hm,List.map_append,List.map_append];rfl
   ·rintro ys rfl
    have h7:=nl i;refine⟨aw (by rw[List.length_map,List.length_map,List.length_map,List.length_take,List.length_map];omega),aZ _,aZ _,_,_,_,rfl,?_⟩
    rw[List.length_map,List.take_length,sG hk,List.map_append]
  ·rintro q ⟨o3,o4,L,rfl,rfl⟩
   have h7:=nl (ks.map tK).length;rw[List.length_map,List.take_length]at h7 ⊢;have l1:∀ w:Str,w.length<=2->z.length+w.length<=10000:=fun w hw=>by omega
   have l2:∀ w:Str,w.length<=2->w.length+z.length<=10000:=fun w hw=>by omega
   refine⟨aw (l1 _ (by decide +kernel)),aw (l2 _ (by decide +kernel)),aw (l1 _ (by decide +kernel)),aw (l2 _ (by decide +kernel)),?_⟩
   have zl:∀ w:Str,w.length<=2 ->(z++w).length<=464/\(w++z).length<=464:=fun w hw=>by rw[Str.length_append,Str.length_append];omega
   refine⟨aw (l2 _ (by decide +kernel)),aw (by have:=(zl "(" (by decide +kernel)).2;rw[show(Str.ofString ")").length=1 from by decide +kernel];omega),aw (l1 _ (by decide +kernel)),aw (l1 _ (by decide +kernel)),aw (l2 _ (by decide +kernel)),aw (by omega),aw (l1 _ (by decide +kernel)),aw (l1 _ (by decide +kernel)),aw (leK 22 10000),rfl,rfl,?_⟩
   refine⟨rL (leK 22 10000),by omega,?_⟩
   refine⟨aw (l1 _ (by decide +kernel)),aw (by have:=(zl "," (by decide +kernel)).1;omega),by omega,by omega,by omega,aw (leK 27 10000),rfl,rfl,?_⟩
   have RC:∀ m∈names ks,m.length<=20:=fun m hm=>(hL m hm).2.1
   have cm:∀{m:Str}{i:Nat},(names ks)[i]? = some m->∀ w:Str,w.length<=2->m.length+w.length<=10000:=fun{m i} hm w hw=>by have:=RC m (List.mem_of_getElem? hm);omega
   have En:((names ks).map L2.T.s).length =(names ks).length:=List.length_map _;refine⟨aK (by rw[En];omega),fun i ys=>ys =((names ks).take i).map fun m=>.s (m++("(":Str)),rfl,?_,?_⟩
   ·rintro i x ys hx rfl
    rw[List.getElem?_map]at hx;obtain⟨m,hm,rfl⟩:=Option.map_eq_some_iff.mp hx;refine⟨_,rfl,aw (cm hm _ (by decide +kernel)),?_⟩
    show _ ++ [_]=_;rw[cQ hm,List.map_append];rfl
   rintro ys rfl
   rw[En,List.take_length];have iN:∀ w:Str,L2.T.ims ((names ks).map fun m=>L2.T.s (m++w))=true:=fun w=>dz (fun _=>rfl) _
   have lN:∀ w:Str,((names ks).map fun m=>L2.T.s (m++w)).length =(names ks).length:=fun w=>List.length_map _
   refine⟨aw (show 27+_<=10000 from by rw[lN];omega),rfl,iN _,?_⟩
   refine⟨aK (by rw[En];omega),fun i ys=>ys =((names ks).take i).map fun m=>.s (m++("()":Str)),rfl,?_,?_⟩
   ·rintro i x ys hx rfl
    rw[List.getElem?_map]at hx;obtain⟨m,hm,rfl⟩:=Option.map_eq_some_iff.mp hx;refine⟨_,rfl,aw (cm hm _ (by decide +kernel)),?_⟩
    show _ ++ [_]=_;rw[cQ hm,List.map_append];rfl
   rintro ys rfl
   rw[En,List.take_length];refine⟨aw ?_,?_,iN _,?_⟩
   ·rw[List.length_append,lN,lN];show 27+_+_<=10000;omega
   ·rw[gw,iN];rfl
   refine⟨aK (by rw[En];omega),fun i ys=>ys =((names ks).take i).map fun m=>.s (m++(")":Str)),rfl,?_,?_⟩
   ·rintro i x ys hx rfl
    rw[List.getElem?_map]at hx;obtain⟨m,hm,rfl⟩:=Option.map_eq_some_iff.mp hx;refine⟨_,rfl,aw (cm hm _ (by decide +kernel)),?_⟩
    show _ ++ [_]=_;rw[cQ hm,List.map_append];rfl
   rintro ys rfl
   rw[En,List.take_length];refine⟨aw ?_,?_,iN _,?_⟩
   ·rw[List.length_append,List.length_append,lN,lN,lN];show 27+_+_+_<=10000;omega
   ·rw[gw,gw,iN,iN];rfl
   have eY:(Mu z++(names ks).map (· ++ ("(":Str))++(names ks).map (· ++ ("()":Str))++(names ks).map (· ++ (")":Str))).map L2.T.s =(Mu z).map L2.T.s++((names ks).map fun m=>L2.T.s (m++("(":Str)))++((names ks).map fun m=>L2.T.s (m++("()":Str)))++((names ks).map fun m=>L2.T.s (m++(")":Str))):=by
    rw[List.map_append,List.map_append,List.map_append,List.map_map,List.map_map,List.map_map];rfl
   have nm:∀ w:Str,w.length<=20->opz w<=1->∀ y∈(names ks).map (· ++ w),kn y:=fun w a b y hy=>by
    obtain⟨m,hm,rfl⟩:=List.mem_map.mp hy;refine(kn.two (z:=m) ?_ ?_ a b).1
    ·have:=RC m hm;omega
    ·rw[xn (hL m hm).2.2];exact Nat.zero_le _
   refine cast (congrArg (fun l=>Q (L2.T.l l)) eY) (hq _ ?_ ?_)
   ·rw[List.length_append,List.length_append,List.length_append,List.length_map,List.length_map,List.length_map];show 27+_+_+_<=200;omega
   ·intro y hy;rcases List.mem_append.mp hy with hy|hy
    ·rcases List.mem_append.mp hy with hy|hy
     ·rcases List.mem_append.mp hy with hy|hy
      ·exact Mt hLz hz hop y hy
      ·exact nm _ (by decide +kernel) (by decide +kernel) y hy
     ·exact nm _ (by decide +kernel) (by decide +kernel) y hy
    ·exact nm _ (by decide +kernel) (by decide +kernel) y hy
theorem Oz(T:Txt K mg a):bG P w K mg base CX0 70 a.tI a.Jf ["_law_script"] (rK K):=by
 have PL:bG P w K mg base CX0 1 a.jb a.yg ["_law_script","_law_base"] (F6 K):=Ln T;have bL:bG P w K mg base CX0 1 a.fk a.j8 ["_law_deal_here","_law_many"] (spQ K l7):=tL (nj T);have ME:=Hz (P:=P) (w:=w) (base:=base) T;have MF:=HD (P:=P) (w:=w) (base:=base) T;have JJ:=Ec (P:=P) (w:=w) (base:=base) T;have yK:=HA (P:=P) (w:=w) (base:=base) T 21;have Cm:=Lj (P:=P) (w:=w) (base:=base) T 21;have Ck:=Li (P:=P) (w:=w) (base:=base) T;have Sr:=OA (P:=P) (w:=w) (base:=base) T;have Ss:=OB (P:=P) (w:=w) (base:=base) T;have JI:=Eb (P:=P) (w:=w) (base:=base) T;refine T.Dw.SS (n:=9) (s1:=(aF jO).headD (.Pass ⟨0,0,0,0⟩)) (rest:=(aF jO).tail) gi rfl rfl (fun cdv A outer s H E hr=>?_)
 have hu:=de hr;refine⟨_,_,_,(fO (i:=1) gi.nd rfl (Or.inr rfl) (qV PL (hr.mono (by decide)) rfl T.OQ T.uz.kp T.Ca .nil nh (aQ (pv 0) (aQ br bE)))),((ai (az (i:=2) gi.nd rfl (Or.inl rfl) (aD ME (hr.mono (by first|decide|omega)) rfl T.m_words T.nU.kp T.yt (ae (qv 1) (ae (QPF.w aq) (aC.w ah)))))
 (ai (az (i:=3) gi.nd rfl (Or.inr rfl) (aD MF (hr.mono (by first|decide|omega)) rfl T.LF T.nV.kp T.yw (ae (qv 1) (ae (qv 2) (aC.w ah)))))
 (ai (az (i:=4) gi.nd rfl (Or.inr rfl) (aD JJ (hr.mono (by first|decide|omega)) rfl T.HY T.kl.kp T.uh (ae (qv 3) (aC.w ah))))
 (ai (CI (i:=5) gi.nd rfl (Or.inl rfl) rfl (jP (qv 3)) (N':=["_law_kind","_law_makers","_law_leasts_here"]) (.own rfl (.own rfl (.got (i:=4) rfl rfl (.inl rfl) .nil))) (GL (g:=(Tg.tp [0,1])) (fun _ _ _ _ _=>⟨(cJ (K:=K) (n:=2) rfl rfl (aM (aA (i:=0) (show(["_law_kind","_law_makers","_law_leasts_here"]:List Str).Nodup from by decide +kernel) rfl (Or.inl rfl) (Or.inr rfl)) (aM (aA (i:=1) (show(["_law_kind","_law_makers","_law_leasts_here"]:List Str).Nodup from by decide +kernel) rfl (Or.inl rfl) (Or.inr rfl)) cI))),(aV (Bg hu) wU rfl (qv 0) (qv 2)),(QPE.f (qv 0))⟩)))
 (ai (bQ (aV (cX hu rfl) bX (aG _) (qv 5) (QPF.w (bD ah)))
 (au (a5 (iT sA mW (aG _) (QPF.w (aD Ck (hr.mono (by first|decide|omega)) rfl T.Bu T.mM.kp T.ud (ae (qv 3) (ae (aT (aT (qv 3) (QPF.w aq)) (QPF.w aq)) (ae (aT (aT (aT (aT (qv 3) (QPF.w aq)) (QPF.w aq)) (QPF.w aq)) (QPF.w aq)) (aC.w ah)))))) (QPF.w dW))))
 a4)
 (ai (az (i:=6) gi.nd rfl (Or.inl rfl) (QPE.f (aT (qv 5) (QPF.w (aD bL (hr.mono (by first|decide|omega)) rfl T.b7 T.bM.kp T.bP (ae (qv 1) (ae (QPF.w (aL (a9 rfl) bO (by rfl) T.dN (by kernel_rfl) (ae (qv 5) (aC.w ah)))) (aC.w ah))))))))
 (ai (az (i:=7) gi.nd rfl (Or.inl rfl) (aD yK (hr.mono (by first|decide|omega)) rfl T.CW T.kM.kp T.q9 (ae (qv 1) (ae (qv 3) (ae (qv 4) (ae (qv 6) (ae (QPF.w (aL (pB rfl) AZ (by rfl) T.Jw (by kernel_rfl) (ae (lZ (qv 4) (qv 6)) (ae (QPF.w (ax (QPF.w aq) (QPF.w (aD bL (hr.mono (by first|decide|omega)) rfl T.b7 T.bM.kp T.bP (ae (qv 1) (ae (QPF.w aq) (aC.w ah))))))) (aC.w ah))))) (aC.w ah))))))))
 (ai (az (i:=8) gi.nd rfl (Or.inr rfl) (aD Cm (hr.mono (by first|decide|omega)) rfl T.HW T.pJ.kp T.yu (ae (qv 7) (aC.w ah))))
 (ai (az (i:=9) gi.nd rfl (Or.inl rfl) (ax (QPF.w (aD Ss (hr.mono (by first|decide|omega)) rfl T.Rm T.AH.kp T.Jz (ae (qv 3) (ae (qv 8) (aC.w ah))))) (QPF.w (du rfl (oO rfl T.jn (ae (QPF.w (ax (QPF.w aq) (QPF.w (aL (a9 rfl) bO (by rfl) T.dN (by kernel_rfl) (ae (QPF.w (bJ (qv 0) (bY (QPF.w aq)) (bY (QPF.w aq)))) (aC.w ah)))))) (aC.w ah))) (N':=["_law_k","_law_deal_here","_law_kinds_here","_law_text_here"]) (.own rfl (.got (i:=1) rfl rfl (.inl rfl) (.got (i:=3) rfl rfl (.inl rfl) (.got (i:=8) rfl rfl (.inl rfl) .nil)))) (fb (g:=(Tg.nm 0)) (fun _ _ _ _ _=>⟨(aA (i:=0) (show(["_law_k","_law_deal_here","_law_kinds_here","_law_text_here"]:List Str).Nodup from by decide +kernel) rfl (Or.inl rfl)),(aD JI (hr.mono (by first|decide|omega)) rfl T.HX T.kj.kp T.uf (ae (qv 1) (ae (qv 2) (ae (qv 3) (aC.w ah)))))⟩))))))
 (ai (cT (g:=(Tg.nm 10)) PassesOwn.never rfl (KA (i:=9) (pv 9)) (aA (i:=10) gi.nd rfl (Or.inl rfl))
 (au (bQ (QPW.pt (pN (aV (Hx (M1 hr) rfl) CB (aG _) (QPF.w (aD Ck (hr.mono (by first|decide|omega)) rfl T.Bu T.mM.kp T.ud (ae (qv 3) (ae (qv 6) (ae (qv 10) (aC.w ah)))))) (QPF.w (aD Sr (hr.mono (by first|decide|omega)) rfl T.Rl T.AG.kp T.Jx (ae (qv 3) (ae (qv 6) (ae (qv 10) (aC.w ah))))))) (oM (aV (Hx (M1 hr) rfl) CB (aG _) (QPF.w (aD Ck (hr.mono (by first|decide|omega)) rfl T.Bu T.mM.kp T.ud (ae (qv 3) (ae (qv 6) (ae (qv 8) (aC.w ah)))))) (qv 7)))))
 (au (a5 ze))
 a4)))
 (au (a5 ze))))))))))))),fun p0 ns D hS hlen k=>?_,fun ns hlen=>?_⟩
 ·refine⟨_,rfl,p0,ns,_,rfl,hS,hlen,by decide,by decide,fun d l H1 fd fl D1 s1=>?_⟩
  exact k d l H1 fd fl D1 s1
 ·refine⟨30,rfl,by decide,by decide,fun ws lw nw wl wL=>?_⟩
  refine⟨ws,rfl,by omega,nw,fun ks gk nms=>?_⟩
  refine⟨ks,rfl,gk,fun ds hI hZ=>?_⟩
  have k1:=gk.k1;have k2:=gk.k2;have hL:∀ m∈names ks,1<=m.length/\m.length<=20/\cP m:=fun m hm=>⟨(wl m (nms m hm)).1,(wl m (nms m hm)).2,wL m (nms m hm)⟩
  refine⟨aK (by rw[List.length_map];omega),fun i ys=>ys =(((ks.take i).map (·.1)).filter (fnd ds)).map .s,rfl,?_,?_⟩
  ·rintro i x ys hx rfl
   rw[List.getElem?_map]at hx;obtain⟨kd,hk,rfl⟩:=Option.map_eq_some_iff.mp hx;refine⟨_,rfl,?_⟩;have e:(dA (ds.map dEn) (.inr kd.1)).isSome=fnd ds kd.1:=by rw[f9,Option.isSome_map];rfl
   refine bF (fun g=>?_) (fun g=>?_)
   ·have g:(dA (ds.map dEn) (.inr kd.1)).isSome=true:=g;rw[e]at g;refine⟨rfl,?_⟩;show _ ++ [L2.T.s kd.1]=_;rw[p5 hk,List.map_append,if_pos g];rfl
   ·have g:¬(dA (ds.map dEn) (.inr kd.1)).isSome=true:=g;rw[e]at g;show _=_;rw[p5 hk,List.map_append,if_neg g];exact(List.append_nil _).symm
  ·rintro ys rfl
   rw[List.length_map,List.take_length];cases hS:(ks.map (·.1)).filter (fnd ds)with
   | nil =>
    refine⟨rfl,bF (fun _=>?_) (fun z=>absurd rfl z)⟩
    obtain⟨kd,kr,rfl⟩:∃ kd kr,ks=kd::kr:=by
     cases ks with
     | nil=>simp at k1
     | cons kd kr=>exact⟨kd,kr,rfl⟩
    obtain⟨k0,ms⟩:=kd;have hne:=(gk.ne (k0,ms) (by simp)).1
    obtain⟨m0,mr,rfl⟩:∃ m0 mr,ms=m0::mr:=by
     cases ms with
     | nil=>exact absurd rfl hne
     | cons m0 mr=>exact⟨m0,mr,rfl⟩
    have c0:atI (((k0,m0::mr)::kr).map tK) 0=some (tK (k0,m0::mr)):=yB (j:=0) rfl;have c1:atI ((m0::mr).map tM) 0=some (tM m0):=yB (j:=0) rfl;have mm:m0∈cK ((k0,m0::mr)::kr) k0:=by
     rw[zD (i:=0) (kd:=(k0,m0::mr)) gk.nd rfl];exact List.mem_cons_self
    have hm0:=hL m0.1 (oW mm);refine⟨_,c0,_,rfl,_,c0,_,rfl,_,c1,_,rfl,(k0,m0::mr)::kr,k0,m0.1,rfl,gk,hL,by simp,by omega,fun n t hN e=>?_,fun _=>rfl⟩
    exfalso
    obtain⟨n',m,ps,rfl,rfl,hm,hl,hp⟩:=dR hN;have ec:chars (tell (n'+1) (.t [.s m.1,.t ps]))=m0.1.cps.toList:=by rw[<- e,cz];rfl
    cases ps with
    | cons p r =>
     have h40:40∈chars (tell (n'+1) (.t [.s m.1,.t (p::r)])):=by
      rw[dY,fG,aJ,aR,aJ];refine List.mem_append_right _ (List.mem_append_left _ (List.mem_append_left _ ?_));rw[show(a6 0).cps.toList = [40]from by decide +kernel]
      exact List.mem_cons_self
     rw[ec]at h40
     have:=hm0.2.2 40 h40
     omega
    | nil =>
     have em:m.1=m0.1:=by
      rw[<- e];show _=Txt.join "" [m.1];exact(qZ _).symm
     obtain rfl:=xB gk hm mm em;have hz0:=hZ (k0,m::mr) (by simp) m (by simp)
     have hf:fnd ds k0=true:=hz0 (List.length_eq_zero_iff.mp hl)
     have:=List.filter_eq_nil_iff.mp hS k0 (by simp)
     contradiction
   | cons s0 sr =>
    refine⟨by rw[Aj];rfl,bF (fun z=>absurd z (by simp[eqF,x6])) (fun _=>?_)⟩
    have lS:(s0::sr).length<=3:=by rw[<- hS];exact Nat.le_trans (List.length_filter_le _ _) (by rw[List.length_map];exact k2)
    have lS':((s0::sr).map L2.T.s).length =(s0::sr).length:=List.length_map _;have lS0:0<(s0::sr).length:=by simp
    refine⟨by omega,by omega,fun r r0 r1=>?_⟩
    obtain⟨own,eo,ho⟩:=yz (ws:=s0::sr) r0 (by omega)
    rw[<- hS]at ho;obtain⟨hon,hfo⟩:=List.mem_filter.mp ho;obtain⟨v,hv⟩:=Option.isSome_iff_exists.mp hfo;have hb:=hI.bd _ (iY hv);have hb3:bnd ds.length<=21:=Int.le_trans (B8 (hI.len gk)) (by decide)
    simp only at hb;refine⟨_,eo,rfl,.i v,by rw[f9,hv];rfl,by decide,by decide,fun r2 r20 r21=>?_⟩
    refine⟨ks,ds,own,_,v,rfl,gk,hI,hv,?_,?_,?_,fun t t1 t2 t3=>?_⟩
    ·dsimp only;split <;> omega
    ·dsimp only;split <;> omega
    ·dsimp only;split <;> omega
    have tw:wt 21 t<=21:=by
     have:(wt 21 t:Int)<=21:=Int.le_trans t3 (by dsimp only;split <;> omega)
     omega
    clear t3;obtain⟨hvd,hvl,hmu⟩:=g6 gk hL t1;obtain⟨b1,b2,b3,b4⟩:=J1 hL t1;refine⟨t,rfl,hvd,by omega,?_⟩
    have zc:(Txt.join "" (tell 21 t)).cps.toList=chars (tell 21 t):=by rw[cz];rfl
    have zl:(Txt.join "" (tell 21 t)).length =(chars (tell 21 t)).length:=by rw[<- zc];exact Array.length_toList.symm
    have zo:opz (Txt.join "" (tell 21 t))<=20:=by rw[xo];omega
    have zz:Lz (Txt.join "" (tell 21 t)):=fun c hc=>b3 c (by rw[<- zc];exact hc)
    have Nk:(Txt.join "" (tell 21 t)).length<=462:=by omega
    have z1:1 <=(Txt.join "" (tell 21 t)).length:=by omega
    clear b1 b2 b3 b4 zc zl
    generalize hz:Txt.join "" (tell 21 t)=z at zo zz Nk z1
    refine⟨ks,z,rfl,gk,hL,zz,Nk,zo,fun ys hyl hya=>?_⟩
    have TV:((cu ns (some 40) (some 63)).map L2.T.i).length<=63:=by rw[List.length_map];exact Nat.le_trans (C2 _ _ _) hlen
    refine⟨?_,?_,aK (by rw[fE];omega),fun i ys=>∃ L:List Str,ys=L.map .s/\L.length=i/\∀ y∈L,kn y,⟨[],rfl,rfl,yE⟩,?_,?_⟩
    ·omega
    ·omega
    ·rintro i x ys hx ⟨L,rfl,hLl,hLa⟩
     obtain⟨rfl,hi⟩:=lX hx;refine⟨_,rfl,ks,z,rfl,gk,hL,z1,Nk,zo,fun y hy=>⟨L ++ [y],by rw[List.map_append];rfl,by simp[hLl],fun w hw=>?_⟩⟩
     rcases List.mem_append.mp hw with h|h
     ·exact hLa w h
     ·rw[List.mem_singleton.mp h];exact hy
    ·rintro ys2 ⟨L,rfl,hLl,hLa⟩
     rw[fE]at hLl;refine⟨aw (by rw[List.length_map,List.length_map];omega),aZ _,aZ _,fun i q=>∃ o10:Sl,q = [.r (.z ns),.r .jc,.o (.l (ws.map .s)),.o (tKs ks),.o (dT ds),.o (.l ((s0::sr).map .s)),.o (.s own),.o t,.o (.s z),.r (.l (ys.map .s++L.map .s)),o10],⟨_,rfl⟩,?_,?_⟩
     ·rintro i x q hx ⟨o10,rfl⟩
      obtain⟨one,rfl,ha⟩:∃ one:Str,x = .s one/\kn one:=by
       rcases List.mem_append.mp (List.mem_of_getElem? hx)with h|h
       ·obtain⟨y,hy,rfl⟩:=List.mem_map.mp h;exact⟨y,rfl,hya y hy⟩
       ·obtain⟨y,hy,rfl⟩:=List.mem_map.mp h;exact⟨y,rfl,hLa y hy⟩
      have ha2:opz one<=60:=Nat.le_trans ha.2 (by decide)
      refine⟨_,rfl,?_⟩;refine⟨ks,own,one,rfl,gk,hL,hon,ha.1,fun n t' hN e=>?_,fun hno=>?_⟩
      ·refine⟨ks,own,one,rfl,gk,hL,hon,ha.1,ha2,fun n2 t2' hN2 e2=>?_,fun hno=>absurd e (hno n t' hN)⟩
       obtain rfl:=rF gk hL hN hN2 (e.trans e2.symm);refine wV hN (by rw[e];exact ha.2) ?_
       refine⟨ks,own,z,rfl,gk,hL,hon,by omega,fun n3 t3 hN3 e3=>?_,fun Pc=>absurd hz (Pc 21 t t1)⟩
       obtain rfl:=rF gk hL hN3 t1 (e3.trans hz.symm);refine qv7 ?_;refine wV t1 (by rw[hz];omega) ?_
       exact⟨_,rfl⟩
      ·refine⟨ks,own,one,rfl,gk,hL,hon,ha.1,ha2,fun n2 t2' hN2 e2=>absurd e2 (hno n2 t2' hN2),fun _=>⟨rfl,?_⟩⟩
       refine⟨ks,own,z,rfl,gk,hL,hon,by omega,fun n3 t3 hN3 e3=>?_,fun Pc=>absurd hz (Pc 21 t t1)⟩
       obtain rfl:=rF gk hL hN3 t1 (e3.trans hz.symm);refine qv7 ?_;refine wV t1 (by rw[hz];omega) ?_
       exact⟨_,rfl⟩
     ·rintro q ⟨o10,rfl⟩
      rfl
end
theorem all_mk{l:W.OpenLaw}{w:World}{K:W.Frag}{h:Heap}{mg:Str->Option Value}{fa:Addr}(X:K.In h)(G:h.Ns mainGlobals mg)(hfa:mg "law" = some (.ref fa))
  {ay:Addr} (gW:W.nsIn K mainGlobals "PurseError" = some (some (.ref ay))) (gT:W.keepIn K (.ref ay)=true)
  (gS:gU K fns ay (bmV) none=true)
  {cO:Addr} (oo:W.nsIn K mainGlobals "NoText" = some (some (.ref cO))) (og:W.keepIn K (.ref cO)=true)
  {wk:ClassData} (vD:W.clsIn K cO=some wk)
  {dH:Addr} {BK BM BN BI tD BO:Value} {BJ BP:Option Addr} {BG:Array (Option Value)}
  (vE:W.nsIn K wk.ns "__init__" = some (some (.ref dH)))
  (n6:K.lookup dH=some ⟨BK,BJ,.func (W.fnOf "__init__" "NoText.__init__" (aP ic) (aF ic) (aj ic) .none BM BN BI BP tD BO),BG⟩)
  (oj:W.codeIn K tD "NoText.__init__" = true) (nZ:W.keepIn K (.ref dH)=true) (oh:W.isFn K (.ref dH)=true)
  (nY:gU K fns cO (.ref ay::bmV) (some dH)=true)
  {bC:Addr} (iQ:W.nsIn K mainGlobals "NoProgram" = some (some (.ref bC))) (iM:W.keepIn K (.ref bC)=true)
  {nL:ClassData} (mQ:W.clsIn K bC=some nL)
  {bR:Addr} {va vd ve u7 lg vf:Value} {u9 vg:Option Addr} {u6:Array (Option Value)}
  (mR:W.nsIn K nL.ns "__init__" = some (some (.ref bR)))
  (iL:K.lookup bR=some ⟨va,u9,.func (W.fnOf "__init__" "NoProgram.__init__" (aP d8) (aF d8) (aj d8) .none vd ve u7 vg lg vf),u6⟩)
  (iP:W.codeIn K lg "NoProgram.__init__" = true) (iK:W.keepIn K (.ref bR)=true) (iO:W.isFn K (.ref bR)=true)
  (iJ:gU K fns bC (.ref ay::bmV) (some bR)=true)
  {aS:Addr} (lR:W.nsIn K mainGlobals "NoValue" = some (some (.ref aS))) (lH:W.keepIn K (.ref aS)=true)
  (lA:gU K fns aS (.ref ay::bmV) none=true)
  {cb:Addr} (lT:W.nsIn K mainGlobals "NoPaper" = some (some (.ref cb))) (lJ:W.keepIn K (.ref cb)=true)
  {tY:ClassData} (rl:W.clsIn K cb=some tY)
  {cR:Addr} {zV zY z6 zR pZ z8:Value} {zT Aa:Option Addr} {zO:Array (Option Value)}
  (rA:W.nsIn K tY.ns "__init__" = some (some (.ref cR)))
  (lF:K.lookup cR=some ⟨zV,zT,.func (W.fnOf "__init__" "NoPaper.__init__" (aP gf) (aF gf) (aj gf) .none zY z6 zR Aa pZ z8),zO⟩)
  (lP:W.codeIn K pZ "NoPaper.__init__" = true) (lD:W.keepIn K (.ref cR)=true) (lL:W.isFn K (.ref cR)=true)
  (lB:gU K fns cb (.ref ay::bmV) (some cR)=true)
  {dh:Addr} (om:W.nsIn K mainGlobals "NoTurn" = some (some (.ref dh))) (n8:W.keepIn K (.ref dh)=true)
  (nX:gU K fns dh (.ref ay::bmV) none=true)
  {cc:Addr} (lU:W.nsIn K mainGlobals "NoChain" = some (some (.ref cc))) (lK:W.keepIn K (.ref cc)=true)
  {tZ:ClassData} (rm:W.clsIn K cc=some tZ)
  {cS:Addr} {zW zZ z7 zS p4 z9:Value} {zU Ab:Option Addr} {zP:Array (Option Value)}
  (rB:W.nsIn K tZ.ns "__init__" = some (some (.ref cS)))
  (lG:K.lookup cS=some ⟨zW,zU,.func (W.fnOf "__init__" "NoChain.__init__" (aP gg) (aF gg) (aj gg) .none zZ z7 zS Ab p4 z9),zP⟩)
  (lQ:W.codeIn K p4 "NoChain.__init__" = true) (lE:W.keepIn K (.ref cS)=true) (lO:W.isFn K (.ref cS)=true)
  (lC:gU K fns cc (.ref ay::bmV) (some cS)=true)
  {eM:Addr} (rC:W.nsIn K mainGlobals "NoRow" = some (some (.ref eM))) (rn:W.keepIn K (.ref eM)=true)
  (rj:gU K fns eM (.ref ay::bmV) none=true)
  {ak:Addr} (l9:W.nsIn K mainGlobals "Written" = some (some (.ref ak))) (mq:W.plainGet K ak Str.empty=true) (mj:W.hasDictIn K ak=true) (mh:W.plainOver K ak=true)
  (mf:W.findIn K (.ref ak) "__setattr__" = some (some (.builtin "object.__setattr__"))) (me:W.makesIn K ak=true) (md:W.keepIn K (.ref ak)=true)
  (fR:W.findIn K (.ref ak) "word" = some none)
  (eu:W.findIn K (.ref ak) "makers" = some none)
  (eB:W.findIn K (.ref ak) "layers" = some none)
  {bg:Addr} {qD qG qJ qw jx qK:Value} {qz qL:Option Addr} {qm:Array (Option Value)}
  (dv:W.findIn K (.ref ak) "__init__" = some (some (.ref bg)))
  (fQ:K.lookup bg=some ⟨qD,qz,.func (W.fnOf "__init__" "Written.__init__" (aP b9) (aF b9) (aj b9) .none qG qJ qw qL jx qK),qm⟩)
  (fU:W.codeIn K jx "Written.__init__" = true) (dQ:W.keepIn K (.ref bg)=true) (dP:W.isFn K (.ref bg)=true)
  {bI:Addr} {sD tj tP sh ka tV:Value} {sC um:Option Addr} {rN:Array (Option Value)}
  (fP:W.findIn K (.ref ak) "put" = some (some (.ref bI)))
  (gn:K.lookup bI=some ⟨sD,sC,.func (W.fnOf "put" "Written.put" (aP cA) (aF cA) (aj cA) .none tj tP sh um ka tV),rN⟩)
  (gq:W.codeIn K ka "Written.put" = true) (el:W.keepIn K (.ref bI)=true) (gm:W.isFn K (.ref bI)=true)
  {aW:Addr} {kT kU kY kR fY kZ:Value} {kS k6:Option Addr} {kP:Array (Option Value)}
  (c9:W.findIn K (.ref ak) "end_word" = some (some (.ref aW)))
  (dC:K.lookup aW=some ⟨kT,kS,.func (W.fnOf "end_word" "Written.end_word" (aP bB) (aF bB) (aj bB) .none kU kY kR k6 fY kZ),kP⟩)
  (dD:W.codeIn K fY "Written.end_word" = true) (cy:W.keepIn K (.ref aW)=true) (dB:W.isFn K (.ref aW)=true)
  {bj:Addr} {oU pb pk oP iD pz:Value} {oR pF:Option Addr} {oE:Array (Option Value)}
  (eh:W.findIn K (.ref ak) "close" = some (some (.ref bj)))
  (fe:K.lookup bj=some ⟨oU,oR,.func (W.fnOf "close" "Written.close" (aP bS) (aF bS) (aj bS) .none pb pk oP pF iD pz),oE⟩)
  (fg:W.codeIn K iD "Written.close" = true) (dw:W.keepIn K (.ref bj)=true) (fc:W.isFn K (.ref bj)=true)
  {aO:Addr} {jC jE jF jA eV jG:Value} {jB jH:Option Addr} {jy:Array (Option Value)}
  (cH:W.findIn K (.ref ak) "only_thing" = some (some (.ref aO)))
  (cV:K.lookup aO=some ⟨jC,jB,.func (W.fnOf "only_thing" "Written.only_thing" (aP bf) (aF bf) (aj bf) .none jE jF jA jH eV jG),jy⟩)
  (cW:W.codeIn K eV "Written.only_thing" = true) (bZ:W.keepIn K (.ref aO)=true) (cU:W.isFn K (.ref aO)=true)
  (xnd:decide [ay,cO,bC,aS,cb,dh,cc,eM].Nodup=true)
  {cG:Addr} {xw xP ya xl nK yh:Value} {xv yD:Option Addr} {wN:Array (Option Value)}
  (kh:W.nsIn K mainGlobals "makers_of" = some (some (.ref cG)))
  (jV:K.lookup cG=some ⟨xw,xv,.func (W.fnOf "makers_of" "makers_of" (aP d5) (aF d5) (aj d5) .none xP ya xl yD nK yh),wN⟩)
  (kc:W.codeIn K nK "makers_of" = true) (jW:W.keepIn K (.ref cG)=true)
  {df:Addr} {zB zN Am zm qf An:Value} {zA AB:Option Addr} {yZ:Array (Option Value)}
  (mI:W.nsIn K mainGlobals "is_value" = some (some (.ref df)))
  (my:K.lookup df=some ⟨zB,zA,.func (W.fnOf "is_value" "is_value" (aP e9) (aF e9) (aj e9) .none zN Am zm AB qf An),yZ⟩)
  (mG:W.codeIn K qf "is_value" = true) (mz:W.keepIn K (.ref df)=true)
  {cp:Addr} {uU u4 vk uL lr vp:Value} {uR vy:Option Addr} {uI:Array (Option Value)}
  (js:W.nsIn K mainGlobals "fields_due" = some (some (.ref cp)))
  (i6:K.lookup cp=some ⟨uU,uR,.func (W.fnOf "fields_due" "fields_due" (aP dq) (aF dq) (aj dq) .none u4 vk uL vy lr vp),uI⟩)
  (jk:W.codeIn K lr "fields_due" = true) (i9:W.keepIn K (.ref cp)=true)
  {ck:Addr} {uS u0 vi uJ lh vn:Value} {uP vw:Option Addr} {uG:Array (Option Value)}
  (jq:W.nsIn K mainGlobals "show_value" = some (some (.ref ck)))
  (i4:K.lookup ck=some ⟨uS,uP,.func (W.fnOf "show_value" "show_value" (aP dm) (aF dm) (aj dm) .none u0 vi uJ vw lh vn),uG⟩)
  (ji:W.codeIn K lh "show_value" = true) (i7:W.keepIn K (.ref ck)=true)
  {bo:Addr} {nq nA nG nc gP nJ:Value} {nk nR:Option Addr} {mV:Array (Option Value)}
  (fw:W.nsIn K mainGlobals "unfolded_value" = some (some (.ref bo)))
  (fi:K.lookup bo=some ⟨nq,nk,.func (W.fnOf "unfolded_value" "unfolded_value" (aP bU) (aF bU) (aj bU) .none nA nG nc nR gP nJ),mV⟩)
  (ft:W.codeIn K gP "unfolded_value" = true) (fj:W.keepIn K (.ref bo)=true)
  {cn:Addr} {uT u3 vj uK lj vo:Value} {uQ vx:Option Addr} {uH:Array (Option Value)}
  (jr:W.nsIn K mainGlobals "read_value" = some (some (.ref cn)))
  (i5:K.lookup cn=some ⟨uT,uQ,.func (W.fnOf "read_value" "read_value" (aP dn) (aF dn) (aj dn) .none u3 vj uK vx lj vo),uH⟩)
  (jj:W.codeIn K lj "read_value" = true) (i8:W.keepIn K (.ref cn)=true)
  {jb:Addr} {Lx LO Ml KZ Dm Mr:Value} {Ls Mz:Option Addr} {Kf:Array (Option Value)}
  (Cg:W.nsIn K mainGlobals "_law_deal" = some (some (.ref jb)))
  (Bz:K.lookup jb=some ⟨Lx,Ls,.func (W.fnOf "_law_deal" "_law_deal" (aP oJ) (aF oJ) (aj oJ) .none LO Ml KZ Mz Dm Mr),Kf⟩)
  (B7:W.codeIn K Dm "_law_deal" = true) (BE:W.keepIn K (.ref jb)=true)
  {fk:Addr} {Lw LN Mj KY Dk Mq:Value} {Lr My:Option Addr} {Ke:Array (Option Value)}
  (Cf:W.nsIn K mainGlobals "_law_draw" = some (some (.ref fk)))
  (By:K.lookup fk=some ⟨Lw,Lr,.func (W.fnOf "_law_draw" "_law_draw" (aP oI) (aF oI) (aj oI) .none LN Mj KY My Dk Mq),Ke⟩)
  (B6:W.codeIn K Dk "_law_draw" = true) (BD:W.keepIn K (.ref fk)=true)
  {gK:Addr} {HJ Im Ja G8 As Jj:Value} {HF JB:Option Addr} {F8:Array (Option Value)}
  (yF:W.nsIn K mainGlobals "_law_words" = some (some (.ref gK)))
  (xG:K.lookup gK=some ⟨HJ,HF,.func (W.fnOf "_law_words" "_law_words" (aP ky) (aF ky) (aj ky) .none Im Ja G8 JB As Jj),F8⟩)
  (yl:W.codeIn K As "_law_words" = true) (xK:W.keepIn K (.ref gK)=true)
  {gN:Addr} {HM Ir Je Hc Aw Jn:Value} {HI JF:Option Addr} {Ge:Array (Option Value)}
  (yI:W.nsIn K mainGlobals "_law_kinds" = some (some (.ref gN)))
  (xJ:K.lookup gN=some ⟨HM,HI,.func (W.fnOf "_law_kinds" "_law_kinds" (aP kC) (aF kC) (aj kC) .none Ir Je Hc JF Aw Jn),Ge⟩)
  (yo:W.codeIn K Aw "_law_kinds" = true) (xO:W.keepIn K (.ref gN)=true)
  {fK:Addr} {Ej EC EV DZ wj E2:Value} {Eg Ff:Option Addr} {DK:Array (Option Value)}
  (uu:W.nsIn K mainGlobals "_law_leasts" = some (some (.ref fK)))
  (sS:K.lookup fK=some ⟨Ej,Eg,.func (W.fnOf "_law_leasts" "_law_leasts" (aP ik) (aF ik) (aj ik) .none EC EV DZ Ff wj E2),DK⟩)
  (t9:W.codeIn K wj "_law_leasts" = true) (sZ:W.keepIn K (.ref fK)=true)
  {gL:Addr} {HK Io Jb G9 Au Jk:Value} {HG JC:Option Addr} {F9:Array (Option Value)}
  (yG:W.nsIn K mainGlobals "_law_value" = some (some (.ref gL)))
  (xH:K.lookup gL=some ⟨HK,HG,.func (W.fnOf "_law_value" "_law_value" (aP kA) (aF kA) (aj kA) .none Io Jb G9 JC Au Jk),F9⟩)
  (ym:W.codeIn K Au "_law_value" = true) (xM:W.keepIn K (.ref gL)=true)
  {j6:Addr} {Lv LM Mi KW Dj Mp:Value} {Lq Mx:Option Addr} {Kc:Array (Option Value)}
  (Ce:W.nsIn K mainGlobals "_law_text" = some (some (.ref j6)))
  (Bx:K.lookup j6=some ⟨Lv,Lq,.func (W.fnOf "_law_text" "_law_text" (aP oH) (aF oH) (aj oH) .none LM Mi KW Mx Dj Mp),Kc⟩)
  (B5:W.codeIn K Dj "_law_text" = true) (BB:W.keepIn K (.ref j6)=true)
  {fJ:Addr} {Ei EB EU DY wg E1:Value} {Ef Fe:Option Addr} {DJ:Array (Option Value)}
  (ur:W.nsIn K mainGlobals "_law_pieces" = some (some (.ref fJ)))
  (sR:K.lookup fJ=some ⟨Ei,Ef,.func (W.fnOf "_law_pieces" "_law_pieces" (aP ij) (aF ij) (aj ij) .none EB EU DY Fe wg E1),DJ⟩)
  (t8:W.codeIn K wg "_law_pieces" = true) (sY:W.keepIn K (.ref fJ)=true)
  {gM:Addr} {HL Ip Jc Ha Av Jl:Value} {HH JD:Option Addr} {Ga:Array (Option Value)}
  (yH:W.nsIn K mainGlobals "_law_taken" = some (some (.ref gM)))
  (xI:K.lookup gM=some ⟨HL,HH,.func (W.fnOf "_law_taken" "_law_taken" (aP kB) (aF kB) (aj kB) .none Ip Jc Ha JD Av Jl),Ga⟩)
  (yn:W.codeIn K Av "_law_taken" = true) (xN:W.keepIn K (.ref gM)=true)
  {p6:Addr} {OG O0 Pp Om Jo Pt:Value} {OD PB:Option Addr} {NJ:Array (Option Value)}
  (JG:W.nsIn K mainGlobals "_law_due" = some (some (.ref p6)))
  (Ic:K.lookup p6=some ⟨OG,OD,.func (W.fnOf "_law_due" "_law_due" (aP vJ) (aF vJ) (aj vJ) .none O0 Pp Om PB Jo Pt),NJ⟩)
  (Jt:W.codeIn K Jo "_law_due" = true) (Ik:W.keepIn K (.ref p6)=true)
  {j4:Addr} {Lu LL Mh KU Di Mn:Value} {Lp Mw:Option Addr} {Kb:Array (Option Value)}
  (Cd:W.nsIn K mainGlobals "_law_told" = some (some (.ref j4)))
  (Bw:K.lookup j4=some ⟨Lu,Lp,.func (W.fnOf "_law_told" "_law_told" (aP oG) (aF oG) (aj oG) .none LL Mh KU Mw Di Mn),Kb⟩)
  (B4:W.codeIn K Di "_law_told" = true) (BA:W.keepIn K (.ref j4)=true)
  {fI:Addr} {Eh EA ET DX we EZ:Value} {Ee Fd:Option Addr} {DI:Array (Option Value)}
  (uq:W.nsIn K mainGlobals "_law_spoilt" = some (some (.ref fI)))
  (sQ:K.lookup fI=some ⟨Eh,Ee,.func (W.fnOf "_law_spoilt" "_law_spoilt" (aP ig) (aF ig) (aj ig) .none EA ET DX Fd we EZ),DI⟩)
  (t7:W.codeIn K we "_law_spoilt" = true) (sX:W.keepIn K (.ref fI)=true)
  {p7:Addr} {OH O1 Pq Oo Jp Pu:Value} {OE PC:Option Addr} {NK:Array (Option Value)}
  (JH:W.nsIn K mainGlobals "_law_bad" = some (some (.ref p7)))
  (Ie:K.lookup p7=some ⟨OH,OE,.func (W.fnOf "_law_bad" "_law_bad" (aP vK) (aF vK) (aj vK) .none O1 Pq Oo PC Jp Pu),NK⟩)
  (Ju:W.codeIn K Jp "_law_bad" = true) (Il:W.keepIn K (.ref p7)=true)
  {tI:Addr} {OF Iq Jd Hb B3 Jm:Value} {OC JE:Option Addr} {NI:Array (Option Value)}
  (Dr:W.nsIn K mainGlobals "law" = some (some (.ref tI)))
  (Ib:K.lookup tI=some ⟨OF,OC,.func (W.fnOf "law" "law" (aP jO) (aF jO) (aj jO) .none Iq Jd Hb JE B3 Jm),NI⟩)
  (Js:W.codeIn K B3 "law" = true) (Ij:W.keepIn K (.ref tI)=true)
  (Ft:W.nsIn K mainGlobals "len" = some none)
  (Fv:W.nsIn K mainGlobals "all" = some none)
  (AK:W.nsIn K mainGlobals "list" = some none)
  (wD:W.nsIn K mainGlobals "tuple" = some none)
  (Fm:W.nsIn K mainGlobals "str" = some none)
  (Fu:W.nsIn K mainGlobals "int" = some none)
  (AL:W.nsIn K mainGlobals "dict" = some none)
  (lu:W.nsIn K mainGlobals "reversed" = some none)
  (Fo:W.nsIn K mainGlobals "max" = some none)
  (Fn:W.nsIn K mainGlobals "min" = some none)
  (Fl:W.nsIn K mainGlobals "sum" = some none)
  (wF:W.nsIn K mainGlobals "range" = some none)
  (iH:W.nsIn K mainGlobals "isinstance" = some none)
  (Fj:W.nsIn K mainGlobals "zip" = some none)
  (jJ:W.nsIn K mainGlobals "enumerate" = some none)
  (iI:W.nsIn K mainGlobals "ValueError" = some none)
  : ∃ fd:FuncData,(∀(s:Shared)(v:Value),BindsTo s fd ⟨[v],[]⟩ [("_law_script",v)])/\∀ base:Heap,K.In base->base.Ns mainGlobals mg->bG l.prog w K mg base CX0 70 fa fd ["_law_script"] (rK K):=by
 have e:=hfa.symm.trans (W.mg_of X G Dr);cases e;have pK:=bu (st:=ic) n6 oj nZ;have wy:=pK.binds (ps:=["self","row"]) fun _ _ _ _ _ _ us hl=>sN (P:=fun us=>bindArgs _ ⟨us,[]⟩=pure (List.zip _ us)) (fun _ _=>rfl) us hl
 have jt:=bu (st:=d8) iL iP iK;have nO:=jt.binds (ps:=["self","word","name"]) fun _ _ _ _ _ _ us hl=>zK (P:=fun us=>bindArgs _ ⟨us,[]⟩=pure (List.zip _ us)) (fun _ _ _=>rfl) us hl
 have mO:=bu (st:=gf) lF lP lD;have ua:=mO.binds (ps:=["self","row"]) fun _ _ _ _ _ _ us hl=>sN (P:=fun us=>bindArgs _ ⟨us,[]⟩=pure (List.zip _ us)) (fun _ _=>rfl) us hl
 have mP:=bu (st:=gg) lG lQ lE;have ub:=mP.binds (ps:=["self","maker"]) fun _ _ _ _ _ _ us hl=>sN (P:=fun us=>bindArgs _ ⟨us,[]⟩=pure (List.zip _ us)) (fun _ _=>rfl) us hl
 have fM:=bu (st:=d5) jV kc jW;have ke:=fM.binds (ps:=["kinds","kind"]) fun _ _ _ _ _ _ us hl=>sN (P:=fun us=>bindArgs _ ⟨us,[]⟩=pure (List.zip _ us)) (fun _ _=>rfl) us hl
 have gD:=bu (st:=e9) my mG mz;have mH:=gD.binds (ps:=["kinds","kind","thing"]) fun _ _ _ _ _ _ us hl=>zK (P:=fun us=>bindArgs _ ⟨us,[]⟩=pure (List.zip _ us)) (fun _ _ _=>rfl) us hl
 have eR:=bu (st:=dq) i6 jk i9;have jo:=eR.binds (ps:=["kinds","kind","thing"]) fun _ _ _ _ _ _ us hl=>zK (P:=fun us=>bindArgs _ ⟨us,[]⟩=pure (List.zip _ us)) (fun _ _ _=>rfl) us hl
 have eO:=bu (st:=dm) i4 ji i7;have jl:=eO.binds (ps:=["value"]) fun _ _ _ _ _ _ us hl=>sO (P:=fun us=>bindArgs _ ⟨us,[]⟩=pure (List.zip _ us)) (fun _=>rfl) us hl
 have cF:=bu (st:=bU) fi ft fj;have fu:=cF.binds (ps:=["value"]) fun _ _ _ _ _ _ us hl=>sO (P:=fun us=>bindArgs _ ⟨us,[]⟩=pure (List.zip _ us)) (fun _=>rfl) us hl
 have eQ:=bu (st:=dn) i5 jj i8;have jm:=eQ.binds (ps:=["kinds","kind","text"]) fun _ _ _ _ _ _ us hl=>zK (P:=fun us=>bindArgs _ ⟨us,[]⟩=pure (List.zip _ us)) (fun _ _ _=>rfl) us hl
 have uz:=bu (st:=oJ) Bz B7 BE;have Ca:=uz.binds (ps:=["_law_script","_law_base"]) fun _ _ _ _ _ _ us hl=>sN (P:=fun us=>bindArgs _ ⟨us,[]⟩=pure (List.zip _ us)) (fun _ _=>rfl) us hl
 have bM:=bu (st:=oI) By B6 BD;have bP:=bM.binds (ps:=["_law_deal_here","_law_many"]) fun _ _ _ _ _ _ us hl=>sN (P:=fun us=>bindArgs _ ⟨us,[]⟩=pure (List.zip _ us)) (fun _ _=>rfl) us hl
 have nU:=bu (st:=ky) xG yl xK;have yt:=nU.binds (ps:=["_law_deal_here","_law_many"]) fun _ _ _ _ _ _ us hl=>sN (P:=fun us=>bindArgs _ ⟨us,[]⟩=pure (List.zip _ us)) (fun _ _=>rfl) us hl
 have nV:=bu (st:=kC) xJ yo xO;have yw:=nV.binds (ps:=["_law_deal_here","_law_words_here"]) fun _ _ _ _ _ _ us hl=>sN (P:=fun us=>bindArgs _ ⟨us,[]⟩=pure (List.zip _ us)) (fun _ _=>rfl) us hl
 have kl:=bu (st:=ik) sS t9 sZ;have uh:=kl.binds (ps:=["_law_kinds_here"]) fun _ _ _ _ _ _ us hl=>sO (P:=fun us=>bindArgs _ ⟨us,[]⟩=pure (List.zip _ us)) (fun _=>rfl) us hl
 have kM:=bu (st:=kA) xH ym xM;have q9:=kM.binds (ps:=["_law_deal_here","_law_kinds_here","_law_leasts_here","_law_kind","_law_room"]) fun _ _ _ _ _ _ us hl=>SR (P:=fun us=>bindArgs _ ⟨us,[]⟩=pure (List.zip _ us)) (fun _ _ _ _ _=>rfl) us hl
 have pJ:=bu (st:=oH) Bx B5 BB;have yu:=pJ.binds (ps:=["_law_value_here"]) fun _ _ _ _ _ _ us hl=>sO (P:=fun us=>bindArgs _ ⟨us,[]⟩=pure (List.zip _ us)) (fun _=>rfl) us hl
 have iF:=bu (st:=ij) sR t8 sY;have nP:=iF.binds (ps:=["_law_text_here"]) fun _ _ _ _ _ _ us hl=>sO (P:=fun us=>bindArgs _ ⟨us,[]⟩=pure (List.zip _ us)) (fun _=>rfl) us hl
 have kN:=bu (st:=kB) xI yn xN;have rf:=kN.binds (ps:=["_law_kinds_here","_law_kind","_law_bits","_law_at"]) fun _ _ _ _ _ _ us hl=>Rn (P:=fun us=>bindArgs _ ⟨us,[]⟩=pure (List.zip _ us)) (fun _ _ _ _=>rfl) us hl
 have AG:=bu (st:=vJ) Ic Jt Ik;have Jx:=AG.binds (ps:=["_law_kinds_here","_law_kind","_law_text_here"]) fun _ _ _ _ _ _ us hl=>zK (P:=fun us=>bindArgs _ ⟨us,[]⟩=pure (List.zip _ us)) (fun _ _ _=>rfl) us hl
 have mM:=bu (st:=oG) Bw B4 BA;have ud:=mM.binds (ps:=["_law_kinds_here","_law_kind","_law_text_here"]) fun _ _ _ _ _ _ us hl=>zK (P:=fun us=>bindArgs _ ⟨us,[]⟩=pure (List.zip _ us)) (fun _ _ _=>rfl) us hl
 have kj:=bu (st:=ig) sQ t7 sX;have uf:=kj.binds (ps:=["_law_deal_here","_law_kinds_here","_law_text_here"]) fun _ _ _ _ _ _ us hl=>zK (P:=fun us=>bindArgs _ ⟨us,[]⟩=pure (List.zip _ us)) (fun _ _ _=>rfl) us hl
 have AH:=bu (st:=vK) Ie Ju Il;have Jz:=AH.binds (ps:=["_law_kinds_here","_law_text_here"]) fun _ _ _ _ _ _ us hl=>sN (P:=fun us=>bindArgs _ ⟨us,[]⟩=pure (List.zip _ us)) (fun _ _=>rfl) us hl
 have Dw:=bu (st:=jO) Ib Js Ij;have Nb:=Dw.binds (ps:=["_law_script"]) fun _ _ _ _ _ _ us hl=>sO (P:=fun us=>bindArgs _ ⟨us,[]⟩=pure (List.zip _ us)) (fun _=>rfl) us hl
 have eT:=bu (st:=b9) fQ fU dQ;have gB:=eT.binds (ps:=["self"]) fun _ _ _ _ _ _ us hl=>sO (P:=fun us=>bindArgs _ ⟨us,[]⟩=pure (List.zip _ us)) (fun _=>rfl) us hl
 have fH:=bu (st:=cA) gn gq el;have g9:=fH.binds (ps:=["self","sign"]) fun _ _ _ _ _ _ us hl=>sN (P:=fun us=>bindArgs _ ⟨us,[]⟩=pure (List.zip _ us)) (fun _ _=>rfl) us hl
 have cL:=bu (st:=bB) dC dD cy;have bW:=cL.binds (ps:=["self"]) fun _ _ _ _ _ _ us hl=>sO (P:=fun us=>bindArgs _ ⟨us,[]⟩=pure (List.zip _ us)) (fun _=>rfl) us hl
 have dS:=bu (st:=bS) fe fg dw;have fX:=dS.binds (ps:=["self"]) fun _ _ _ _ _ _ us hl=>sO (P:=fun us=>bindArgs _ ⟨us,[]⟩=pure (List.zip _ us)) (fun _=>rfl) us hl
 have cq:=bu (st:=bf) cV cW bZ;have di:=cq.binds (ps:=["self"]) fun _ _ _ _ _ _ us hl=>sO (P:=fun us=>bindArgs _ ⟨us,[]⟩=pure (List.zip _ us)) (fun _=>rfl) us hl
 have T:Txt K mg ⟨ay,cO,dH,_,bC,bR,_,aS,cb,cR,_,dh,cc,cS,_,eM,ak,bg,_,bI,_,aW,_,bj,_,aO,_,cG,_,df,_,cp,_,ck,_,bo,_,cn,_,jb,_,fk,_,gK,_,gN,_,fK,_,gL,_,j6,_,fJ,_,gM,_,p6,_,j4,_,fI,_,p7,_,fa,_⟩:=⟨gF gS,W.mg_of X G gW,gT,gF nY,W.mg_of X G oo,og,pK,oh,wy,gF iJ,W.mg_of X G iQ,iM,jt,iO,nO,gF lA,W.mg_of X G lR,lH,gF lB,W.mg_of X G lT,lJ,mO,lL,ua,gF nX,W.mg_of X G om,n8,gF lC,W.mg_of X G lU,lK,mP,lO,ub,gF rj,W.mg_of X G rC,rn,⟨mq,mj,mh,mf⟩,W.mg_of X G l9,⟨me,dv,dP,md⟩,fR,eu,eB,eT,⟨dv,dP,dQ⟩,gB,fH,⟨fP,gm,el⟩,g9,cL,⟨c9,dB,cy⟩,bW,dS,⟨eh,fc,dw⟩,fX,cq,⟨cH,cU,bZ⟩,di,of_decide_eq_true xnd,fM,W.mg_of X G kh,ke,gD,W.mg_of X G mI,mH,eR,W.mg_of X G js,jo,eO,W.mg_of X G jq,jl,cF,W.mg_of X G fw,fu,eQ,W.mg_of X G jr,jm,uz,W.mg_of X G Cg,Ca,bM,W.mg_of X G Cf,bP,nU,W.mg_of X G yF,yt,nV,W.mg_of X G yI,yw,kl,W.mg_of X G uu,uh,kM,W.mg_of X G yG,q9,pJ,W.mg_of X G Ce,yu,iF,W.mg_of X G ur,nP,kN,W.mg_of X G yH,rf,AG,W.mg_of X G JG,Jx,mM,W.mg_of X G Cd,ud,kj,W.mg_of X G uq,uf,AH,W.mg_of X G JH,Jz,Dw,W.mg_of X G Dr,Nb,W.mg_none_of X G Ft,W.mg_none_of X G Fv,W.mg_none_of X G AK,W.mg_none_of X G wD,W.mg_none_of X G Fm,W.mg_none_of X G Fu,W.mg_none_of X G AL,W.mg_none_of X G lu,W.mg_none_of X G Fo,W.mg_none_of X G Fn,W.mg_none_of X G Fl,W.mg_none_of X G wF,W.mg_none_of X G iH,W.mg_none_of X G Fj,W.mg_none_of X G jJ,W.mg_none_of X G iI⟩;exact⟨W.fnOf "law" "law" (aP jO) (aF jO) (aj jO) .none Iq Jd Hb JE B3 Jm,fun s v=>.of_eq rfl,fun base _ _=>Oz T⟩
theorem walk{l:W.OpenLaw}{q:Program}{loose:List Str}{XP:(Str->Option Value)->Heap->Prop}{YP:World->Heap->Prop}{d:DefRec}{K:Params->W.Frag}(hn:l.most=some 63)(hdf:d.params.defaults = [])
  (hY:∀(w:World)(h:Heap),YP w h ->(K w.params).In h)
  (F:∀(w:World)(mg:Str->Option Value)(fa:Addr)(h:Heap),(K w.params).In h->h.Ns mainGlobals mg->mg d.name=some (.ref fa) ->
   ∃ fd:FuncData,(∀(s:Shared)(u:Value),BindsTo s fd ⟨[u],[]⟩ [("_law_script",u)])/\∀ base:Heap,(K w.params).In base->base.Ns mainGlobals mg->bG l.prog w (K w.params) mg base CX0 70 fa fd ["_law_script"] (rK (K w.params))) :
  W.WalkO q loose XP YP l.row.toRowW d [] (fun f vs=>PySem.call f vs) :=
 L2.JV (n:=63) (k:=70) (x:="_law_script") (CX:=fun _=>CX0) (sp:=fun w=>rK (K w.params)) hn (by decide) hdf ⟨rfl,by decide,by decide⟩ hY F (fun _ _ a ns hl hO hS=>⟨a,ns,rfl,RU hO hS,hl,fun _=>rfl⟩) fun _ _ _ _ _ z=>z
end K15
namespace PySem.W.Fast
def tw10028040440341490159:=()
def tw10110366457270203783:=()
def tw10194942466081597741:=()
def tw10373134358978044823:=()
def tw10412577096868742871:=()
def tw10454989641668441501:=()
def tw10461788233761614837:=()
def tw10498740917414100865:=()
def tw10556130288582171692:=()
def tw10697256881991577044:=()
def tw10701804509756400490:=()
def tw10715163608971016194:=()
def tw1073567530052921056:=()
def tw10773206567486007582:=()
def tw10827304580316934211:=()
def tw10845998020835334672:=()
def tw10855600302371975349:=()
def tw10902645835753037422:=()
def tw10962083066733372871:=()
def tw11065008661396878000:=()
def tw11220185280294114313:=()
def tw11220611896904440056:=()
def tw11246012015862761594:=()
def tw1131704346110709441:=()
def tw11322253180726500410:=()
def tw11334817027387402410:=()
def tw11346952490506898380:=()
def tw11358961765811221431:=()
def tw1141345136090339682:=()
def tw11423507420255764107:=()
def tw11425903131721160854:=()
def tw11522537162042493534:=()
def tw11552279898280338172:=()
def tw11606235453714450727:=()
def tw11692637887519649222:=()
def tw11734083134478961875:=()
def tw1174141757331162946:=()
def tw11795762110052325505:=()
def tw1181624150797426026:=()
def tw11824019241549113384:=()
def tw11862266502724859118:=()
def tw11862911036170477680:=()
def tw11901325635598205092:=()
def tw11912252310632889031:=()
def tw12048242475519770475:=()
def tw1209512657650861274:=()
def tw12135159828203617628:=()
def tw12146508471819225663:=()
def tw12251342714519145528:=()
def tw12331752049727156767:=()
def tw12358970849079162873:=()
def tw12367486359787557084:=()
def tw12465920227564930668:=()
def tw12503085827441587842:=()
def tw1251759482821627519:=()
def tw12602045848561168968:=()
def tw12624043297023685970:=()
def tw12641596761809916652:=()
def tw12677911932499107689:=()
def tw12697436094605201275:=()
def tw12726911542477578200:=()
def tw1273120621804485883:=()
def tw12826552438677047897:=()
def tw12853089751537661935:=()
def tw12918091775113686720:=()
def tw12968708407889965435:=()
def tw13107416203930720653:=()
def tw13116380071941882638:=()
def tw13208587762163430771:=()
def tw13276146796990942842:=()
def tw13280512647977026312:=()
def tw13309108449691375485:=()
def tw1331900393403844206:=()
def tw13383532080078510112:=()
def tw13486012091037739858:=()
def tw13543291095251661931:=()
def tw13592856108527740744:=()
def tw1382550125970169233:=()
def tw1383335656587584885:=()
def tw13836777408554502259:=()
def tw13841024444818872271:=()
def tw1390557669778569948:=()
def tw13965703530378777299:=()
def tw13986386629569882070:=()
def tw1413184647328983375:=()
def tw14157903999757574339:=()
def tw14169649437873769435:=()
def tw14204036543211375828:=()
def tw14231978007436079328:=()
def tw14284995448181689942:=()
def tw14298624626427863402:=()
def tw14340075007392395297:=()
def tw14428014819217140299:=()
def tw14563434445149365416:=()
def tw14630657172200947235:=()
def tw14671104315128514401:=()
def tw14730583828467101242:=()
def tw14761011556048303694:=()
def tw14766513142603189803:=()
def tw14812302200216663167:=()
def tw148569693795854041:=()
def tw1486261836452055225:=()
def tw14870687178313116861:=()
def tw1491334832678216723:=()
def tw15101843049448778591:=()
def tw15132679138070891909:=()
def tw1537147271004585979:=()
def tw15563666388947951292:=()
def tw15567992631665267718:=()
def tw1559701558281551946:=()
def tw15712542818648247598:=()
def tw15765651774724318594:=()
def tw15850063440258306526:=()
def tw15905329570352797231:=()
def tw15976054095222355294:=()
def tw16188471949073888594:=()
def tw1624613242616148021:=()
def tw16269435904033686538:=()
def tw16384536664939505945:=()
def tw16401487442468952761:=()
def tw16489207258038914908:=()
def tw16523109637702250391:=()
def tw16597415880119935796:=()
def tw16631753377701404554:=()
def tw16651484475957547177:=()
def tw16735679380403591247:=()
def tw16812450717103628319:=()
def tw16891983243714184622:=()
def tw16910611449563042851:=()
def tw16980241276102309556:=()
def tw17035699695335048914:=()
def tw17079607733622500040:=()
def tw17095591643657058725:=()
def tw17159495696657810698:=()
def tw17259775026063562832:=()
def tw17333439935317244543:=()
def tw17348129147526863234:=()
def tw17374555621899388120:=()
def tw17386470261207794996:=()
def tw17398043231463345685:=()
def tw17460604835803553275:=()
def tw17481415514269840125:=()
def tw1752059424294602945:=()
def tw17536703911815497908:=()
def tw17559421860594433962:=()
def tw17562803672593878875:=()
def tw17659267367220522100:=()
def tw17663984685316448034:=()
def tw17679911885313775668:=()
def tw17684699025150912632:=()
def tw17689107165213160531:=()
def tw17695038611638883683:=()
def tw17708159659219305027:=()
def tw1774171101458814339:=()
def tw1780319859464868123:=()
def tw17860664185358414584:=()
def tw17871126866853392945:=()
def tw17916428464208445855:=()
def tw17958952992112875917:=()
def tw17994274929847981540:=()
def tw17998495698083238330:=()
def tw18026251138748287192:=()
def tw18042329691294537735:=()
def tw18080696517795963324:=()
def tw18127693475471210300:=()
def tw18137916340596275365:=()
def tw18197673355117934059:=()
def tw18232839888946099906:=()
def tw1823815872736072814:=()
def tw18251695289349616544:=()
def tw18261155138467768529:=()
def tw18267292277025758945:=()
def tw18289332095545082035:=()
def tw18297319394816737185:=()
def tw18329117142260207026:=()
def tw183448439629113715:=()
def tw18392606528111430562:=()
def tw1869514019814741778:=()
def tw1899521098828022864:=()
def tw1980080064045662873:=()
def tw2031384204540620126:=()
def tw213388677158696770:=()
def tw2235523054264009734:=()
def tw2295653441443087403:=()
def tw2330818531238590658:=()
def tw2336425711114036221:=()
def tw2426723799282961001:=()
def tw247367307897216128:=()
def tw2585497105941766797:=()
def tw2697901337373251185:=()
def tw2892512120820249722:=()
def tw2923428730973534370:=()
def tw2981037617587134626:=()
def tw2985143254137432585:=()
def tw3134712184222497367:=()
def tw3142074102593802841:=()
def tw3150061710047722283:=()
def tw3218379845220977611:=()
def tw342227604875911049:=()
def tw3437804846711327156:=()
def tw3533896621725819477:=()
def tw3630069858116834338:=()
def tw371091024128717055:=()
def tw3790871125913447551:=()
def tw3832699167892634893:=()
def tw3840307465883946842:=()
def tw3883606008509726091:=()
def tw396498607543112753:=()
def tw4065790736596021476:=()
def tw407847997034503922:=()
def tw4212118608330019632:=()
def tw4237986367576622468:=()
def tw4268302062688592831:=()
def tw4432245731253024759:=()
def tw4483400138067838876:=()
def tw4704118922618279975:=()
def tw473836793995405401:=()
def tw4762508623288311523:=()
def tw4822381436183085619:=()
def tw4949008856056043898:=()
def tw4981135262868399130:=()
def tw5023718551557171893:=()
def tw5038373629971550682:=()
def tw5050384536631696654:=()
def tw5065879342449449574:=()
def tw5070784163736743519:=()
def tw5156730400989955920:=()
def tw5191567075016776991:=()
def tw5199473021890532948:=()
def tw5243759487078721568:=()
def tw5248711467481660117:=()
def tw5285525861119362971:=()
def tw530818183635903985:=()
def tw5408523928817394813:=()
def tw5430802612159362703:=()
def tw5432495750965707327:=()
def tw5520533768214082173:=()
def tw5548811675675085344:=()
def tw5806121934402252654:=()
def tw5841427016689539931:=()
def tw589760916614057632:=()
def tw6122887987882667368:=()
def tw6261891626252259299:=()
def tw627393171072921332:=()
def tw6488716985466065998:=()
def tw6537267799651261661:=()
def tw6630439987533699951:=()
def tw675655192628648965:=()
def tw6916142155702087553:=()
def tw6920856073277789815:=()
def tw6936861072504660091:=()
def tw6963832582316860847:=()
def tw6966436532432365385:=()
def tw7052065778969117006:=()
def tw7234098417704568491:=()
def tw7268175341560174583:=()
def tw7291099204489181997:=()
def tw7293897801462250926:=()
def tw7551994322271704355:=()
def tw7579166379300026584:=()
def tw761300909985132464:=()
def tw7651951480363321896:=()
def tw7750016186890078028:=()
def tw7768341073268310106:=()
def tw7905217162650970301:=()
def tw7911176459338786275:=()
def tw7916978033690160826:=()
def tw7925388831247384325:=()
def tw7927520040771895483:=()
def tw8003873121396257657:=()
def tw8018985131724261179:=()
def tw8211024723552759361:=()
def tw8218224290729789498:=()
def tw8240386057957737380:=()
def tw8292200431946543644:=()
def tw8348353213948234657:=()
def tw838568025063879140:=()
def tw8401574294924027872:=()
def tw8551944816839918195:=()
def tw8586941907126922201:=()
def tw8657725049542938746:=()
def tw8661608350709210113:=()
def tw8669211566663073731:=()
def tw8673341959466486034:=()
def tw8677268701007358063:=()
def tw8683128364878848622:=()
def tw8803636930071580921:=()
def tw8817567474102744948:=()
def tw8833180575643731800:=()
def tw8915716691846661736:=()
def tw8987388628719817848:=()
def tw8998514845227102534:=()
def tw9006622474064583525:=()
def tw9046681805557105355:=()
def tw9134389993738089527:=()
def tw9206409353896945152:=()
def tw9250590246939807066:=()
def tw9355924449807098100:=()
def tw9369573389141410408:=()
def tw9433989262465668243:=()
def tw9481436164941873390:=()
def tw9543178635637240250:=()
def tw9616042288421410275:=()
def tw969922258341521465:=()
def tw9731905334951377732:=()
def tw9806162265537657460:=()
def tw9860478991403693736:=()
def tw9866271789535399796:=()
def tw9961599053238342105:=()
end PySem.W.Fast
open PySem PySem.W PyProof.Rows
set_option maxRecDepth 100000 in
set_option maxHeartbeats 0 in
theorem PySem.Challenge.cw_pursewright_k15_texts_of_no_value_holds : PySem.Challenge.rw_pursewright_k15_texts_of_no_value.Holds := by
 w_on;o_law;k_head;(case hw=>w_witness2)
 k_fill
 refine K15.walk (l:=PySem.Challenge.rw_pursewright_k15_texts_of_no_value) rfl rfl (fun w h Y=>PySem.W.kIn_of Y) ?F
 case F =>
  intro w mg fa h KX G hmg;refine' K15.all_mk KX G hmg ?gW ?gT ?gS ?oo ?og ?vD ?vE ?n6 ?oj ?nZ ?oh ?nY ?iQ ?iM ?mQ ?mR ?iL ?iP ?iK ?iO ?iJ ?lR ?lH ?lA ?lT ?lJ ?rl ?rA ?lF ?lP ?lD ?lL ?lB ?om ?n8 ?nX ?lU ?lK ?rm ?rB ?lG ?lQ ?lE ?lO ?lC ?rC ?rn ?rj ?l9 ?mq ?mj ?mh ?mf ?me ?md ?fR ?eu ?eB ?dv ?fQ ?fU ?dQ ?dP ?fP ?gn ?gq ?el ?gm ?c9 ?dC ?dD ?cy ?dB ?eh ?fe ?fg ?dw ?fc ?cH ?cV ?cW ?bZ ?cU ?xnd ?kh ?jV ?kc ?jW ?mI ?my ?mG ?mz ?js ?i6 ?jk ?i9 ?jq ?i4 ?ji ?i7 ?fw ?fi ?ft ?fj ?jr ?i5 ?jj ?i8 ?Cg ?Bz ?B7 ?BE ?Cf ?By ?B6 ?BD ?yF ?xG ?yl ?xK ?yI ?xJ ?yo ?xO ?uu ?sS ?t9 ?sZ ?yG ?xH ?ym ?xM ?Ce ?Bx ?B5 ?BB ?ur ?sR ?t8 ?sY ?yH ?xI ?yn ?xN ?JG ?Ic ?Jt ?Ik ?Cd ?Bw ?B4 ?BA ?uq ?sQ ?t7 ?sX ?JH ?Ie ?Ju ?Il ?Dr ?Ib ?Js ?Ij ?Ft ?Fv ?AK ?wD ?Fm ?Fu ?AL ?lu ?Fo ?Fn ?Fl ?wF ?iH ?Fj ?jJ ?iI
  all_goals try first|k_is|kernel_rfl
