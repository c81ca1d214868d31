import PyProof.Rows.All
import Wide.All
import OpenK.AllK
import Wide.FinOn
import Lean
import PyProof.EqAt
import PyProof.EqKinds
import PyProof.TupleCall
import PyProof.InstStoreFacts
import PySem.Challenge.RW_pursewright_k27_pieces_and_ways
set_option Elab.async false
set_option linter.all false
set_option maxRecDepth 100000
namespace L2
open PySem PySem.Spec PyProof.Rows
abbrev Key:=Sum Int Str
def nA:Key->Value->Bool
 | .inl k,v=>Value.isInt k v
 | .inr x,v=>Value.isStrOf x v
def Nc(w:World):Key->Int
 | .inl k=>hashInt k
 | .inr x=>hashStr w x
theorem bp:∀{k:Key}{v:Value},nA k v=true ->(∃ i t,k=Sum.inl i/\v=Value.int i t)\/(∃ x t,k=Sum.inr x/\v=Value.str x t)
 | .inl i,v,h=>by
  obtain⟨t,e⟩:=Value.isInt_shape (k:=i) (v:=v) h;exact .inl ⟨i,t,rfl,e⟩
 | .inr x,v,h=>by
  obtain⟨t,e⟩:=Value.isStrOf_shape (x:=x) (v:=v) h;exact .inr ⟨x,t,rfl,e⟩
theorem yl(i:Int)(t:Tok):nA (.inl i) (.int i t)=true:=by simp[nA,Value.isInt]
theorem yk(x:Str)(t:Tok):nA (.inr x) (.str x t)=true:=by simp[nA,Value.isStrOf]
theorem Hw(a b:Int):decide ((Sum.inl a:Key)=Sum.inl b) =(a==b):=by
 by_cases e:a=b
 ·subst e;simp
 ·have h:¬(Sum.inl a:Key)=Sum.inl b:=fun q=>e (Sum.inl.inj q)
  rw[decide_eq_false h];exact(beq_eq_false_iff_ne.mpr e).symm
theorem Ht(a b:Str):decide ((Sum.inr a:Key)=Sum.inr b)=decide (a=b):=by
 by_cases e:a=b
 ·subst e;simp
 ·have h:¬(Sum.inr a:Key)=Sum.inr b:=fun q=>e (Sum.inr.inj q)
  rw[decide_eq_false h,decide_eq_false e]
theorem Hv(a:Int)(b:Str):decide ((Sum.inl a:Key)=Sum.inr b)=false:=decide_eq_false (fun q=>nomatch q)
theorem Hu(a:Str)(b:Int):decide ((Sum.inr a:Key)=Sum.inl b)=false:=decide_eq_false (fun q=>nomatch q)
def aY(prog:Program)(w:World):PySem.KeyKind prog w Key where
 is:=nA
 hash:=Nc w
 inj:=fun v a b ha hb=>by
  rcases bp ha with⟨i,t,rfl,rfl⟩ |⟨x,t,rfl,rfl⟩
  ·rcases bp hb with⟨j,u,rfl,e⟩ |⟨y,u,rfl,e⟩
   ·injection e with e1 _;rw[e1]
   ·exact nomatch e
  ·rcases bp hb with⟨j,u,rfl,e⟩ |⟨y,u,rfl,e⟩
   ·exact nomatch e
   ·injection e with e1 _;rw[e1]
 byValue:=fun k v h=>by
  rcases bp h with⟨i,t,rfl,rfl⟩ |⟨x,t,rfl,rfl⟩ <;> rfl
 pyHash:=fun hv h=>by
  rcases bp hv with⟨i,t,rfl,rfl⟩ |⟨x,t,rfl,rfl⟩
  ·exact wpAny_pyHash_int h
  ·exact wpAny_pyHash_str h
 eqBool:=fun hu hv h=>by
  rcases bp hu with⟨i,t,rfl,rfl⟩ |⟨x,t,rfl,rfl⟩
  ·rcases bp hv with⟨j,u,rfl,rfl⟩ |⟨y,u,rfl,rfl⟩
   ·rw[Hw]at h;exact wpAny_eqBool_int h
   ·rw[Hv]at h;exact SeqAt.EqAt.int_str i t y u _ _ _ _ h
  ·rcases bp hv with⟨j,u,rfl,rfl⟩ |⟨y,u,rfl,rfl⟩
   ·rw[Hu]at h;exact SeqAt.EqAt.str_int x t j u _ _ _ _ h
   ·rw[Ht]at h;exact wpAny_eqBool_str h
 «strs»:=fun k x t v h=>by
  rcases bp h with⟨i,u,rfl,e⟩ |⟨y,u,rfl,e⟩
  ·exact nomatch e
  ·injection e with e1 _
   subst e1;cases v <;> rfl
theorem si(prog:Program)(w:World)(i:Int)(t:Tok):(aY prog w).is (.inl i) (.int i t)=true:=yl i t
theorem sg(prog:Program)(w:World)(x:Str)(t:Tok):(aY prog w).is (.inr x) (.str x t)=true:=yk x t
inductive V where
 | non|bl (b:Bool)|int (i:Int)|str (x:Str)|byt (b:Array UInt8)|flt (b:UInt64)|ref (a:Addr)|ty (n:String)
 deriving DecidableEq
def RelV:V->Value->Prop
 | .non,u=>u=Value.none
 | .bl b,u=>u=Value.bool b
 | .int i,u=>∃ t,u=Value.int i t
 | .str x,u=>∃ t,u=Value.str x t
 | .byt b,u=>∃ t,u=Value.bytes b t
 | .flt b,u=>∃ t,u=Value.float b t
 | .ref a,u=>u=Value.ref a
 | .ty n,u=>u=Value.type n
abbrev Vals:List V->List Value->Prop:=Paired RelV
theorem Vals.length{xs:List V}{us:List Value}(r:Vals xs us):xs.length=us.length:=Paired.length r
theorem Vals.get:∀{xs:List V}{us:List Value}{i:Nat}{x:V},Vals xs us->xs[i]? = some x->∃ u,us[i]? = some u/\RelV x u
 | _,_,_,_,.nil,e=>by simp at e
 | _,_,0,_,.cons r _,e=>by simp at e;subst e;exact⟨_,rfl,r⟩
 | _,_,i+1,x,.cons _ t,e=>by
  obtain⟨u,h1,h2⟩:=Vals.get (i:=i) (x:=x) t (by simpa using e)
  exact⟨u,by simpa using h1,h2⟩
theorem Vals.set{x:V}{u:Value}(r:RelV x u):∀{xs:List V}{us:List Value}(i:Nat),Vals xs us->Vals (xs.set i x) (us.set i u)
 | _,_,_,.nil=>.nil
 | _,_,0,.cons _ t=>.cons r t
 | _,_,i+1,.cons q t=>.cons q (Vals.set r i t)
theorem Vals.append:∀{xs ys:List V}{us ws:List Value},Vals xs us->Vals ys ws->Vals (xs++ys) (us++ws)
 | _,_,_,_,.nil,s=>s
 | _,_,_,_,.cons r t,s=>.cons r (Vals.append t s)
theorem Vals.take:∀{xs:List V}{us:List Value}(n:Nat),Vals xs us->Vals (xs.take n) (us.take n)
 | _,_,0,_=>.nil
 | _,_,_+1,.nil=>.nil
 | _,_,n+1,.cons r t=>.cons r (Vals.take n t)
theorem Vals.drop:∀{xs:List V}{us:List Value}(n:Nat),Vals xs us->Vals (xs.drop n) (us.drop n)
 | _,_,0,r=>r
 | _,_,_+1,.nil=>.nil
 | _,_,n+1,.cons _ t=>Vals.drop n t
def iQ:Option V->Option Value->Prop
 | some v,some u=>RelV v u
 | none,none=>True
 | _,_=>False
def KV{κ:Type}:List (κ×V)->List (κ×Value)->Prop:=Paired fun(p:κ×V)(q:κ×Value)=>p.1=q.1/\RelV p.2 q.2
def kV:Key->V
 | .inl i=>.int i
 | .inr x=>.str x
inductive HO where
 | lst(xs:List V)
 | tup(xs:List V)
 | dK(kvs:List (Key×V))|dT (kvs:List (List Key×V))
 | set(S:Int->Bool)(n:Nat)
 | ins(C dx:Addr)(fs:List (Str×V))
 | own(x:Addr)
 | xd(fs:List (Str×V))
 | room(x:Int)
 | met(f x:Addr)
 | rng(lo hi:Int)
 | frz(o:Obj)(u:HO)
 | tbl(ps:Array Value)
 | ext(φ:Heap->Prop)
abbrev Hp:=Addr->Option HO
def upd(H:Hp)(a:Addr)(o:HO):Hp:=fun b=>if b=a then some o else H b
variable{H:Hp}{a:Addr}
theorem aw{o:HO}:upd H a o a=some o:=by unfold upd;rw[if_pos rfl]
theorem aj{b:Addr}{o:HO}(h:b≠a):upd H a o b=H b:=by unfold upd;rw[if_neg h]
theorem kD{o u:HO}:upd (upd H a o) a u=upd H a u:=by
 funext b;unfold upd;split <;> rfl
theorem f9{b:Addr}{o u:HO}(h:H a=some o)(h':H b=some u)(d:o≠u):a≠b:=by
 intro e;subst e;rw[h]at h';exact d (Option.some.inj h')
theorem aP{b:Addr}{o:HO}(h:H a=some o)(h':H b=none):a≠b:=by
 intro e;subst e;rw[h]at h';cases h'
def iR(h:Heap)(a:Addr)(items:Array Value):Prop:=IsTup h a items/\∃ o,h.get? a=some o/\o.dict=none
theorem iR.new(h:Heap)(items:Array Value):iR (h.push { cls:=.type "tuple",data:=.seq items }) h.objs.size items:=⟨IsTup.new _ _,_,Heap.get?_push_size _ rfl,rfl⟩
section
variable(P:Program)(w:World)
def aV(H:Hp)(h:Heap)(a:Addr):HO->Prop
 | .lst xs=>xs.length<=sizeLine/\∃(its:List Value)(n:Nat),Vals xs its/\h.get? a=some { cls:=.type "list",data:=.seq its.toArray n }
 | .tup xs=>xs.length<=sizeLine/\∃ its:List Value,Vals xs its/\iR h a its.toArray
 | .dK kvs=>kvs.length<=sizeLine/\(a==sysModules)=false/\∃ vs,KV kvs vs/\h.DictOf (aY P w) a vs
 | .dT kvs=>kvs.length<=sizeLine/\(a==sysModules)=false/\∃ xs:List (List Key×Addr×Value),
   Paired (fun(p:List Key×V)(q:List Key×Addr×Value)=>p.1=q.1/\H q.2.1=some (.tup (p.1.map kV))/\RelV p.2 q.2.2) kvs xs /\
   ∃ o es ep,h.get? a=some o/\o.ExactDict/\o.data = .dict es ep/\es.toList=xs.map (entryOfKey (tupleKind (aY P w)))/\(xs.map (·.1)).Nodup
 | .set S n=>h.SetOf (intKind P w) a S n
 | .ins C dx fs=>H dx=some (.own a)/\fs.length<=1000/\dx≠a/\h.get? a=some (W.instObj C dx) /\
   ∃ mA,h.Ns1 dx mA/\(∀ f,iQ (fs.lookup f) (mA f))/\PySem.Within mA (fs.map (·.1))
 | .own _=>∃ o,h.get? a=some o
 | .xd fs=>∃ mA,h.Ns1 a mA/\∀ f,iQ (fs.lookup f) (mA f)
 | .room x=>∃(its:List Value)(n:Nat),Vals [.int x] its/\h.get? a=some { cls:=.type "list",data:=.seq its.toArray n }
 | .rng lo hi=>∃ t u v,h.get? a=some { cls:=.type "range",data:=.fields #[.int lo t,.int hi u,.int 1 v] }
 | .frz o u=>h.get? a=some o/\aV H h a u
 | .tbl ps=>h.get? a=some { cls:=.none,data:=.fields ps }
 | .met f x=>h.get? a=some (W.methodObj (.ref f) (.ref x))
 | .ext φ=>φ h/\(∃ o,h.get? a=some o)/\∀ h1 h2:Heap,φ h1 ->(∀ o,h1.get? a=some o->h2.get? a=some o)->φ h2
def HOk(H:Hp)(h:Heap):Prop:=∀ a o,H a=some o->aV P w H h a o
end
section
variable{P:Program}{w:World}{H':Hp}{h h':Heap}{o:HO}
theorem aV.lt(x:aV P w H h a o):a<h.objs.size:=by
 cases o with
 | lst xs=>obtain⟨_,_,_,_,e⟩:=x;exact Heap.lt_size e
 | tup xs=>obtain⟨_,_,_,p⟩:=x;exact p.1.lt
 | dK kvs=>obtain⟨_,_,_,_,o,_,_,e,_⟩:=x;exact Heap.lt_size e
 | dT kvs=>obtain⟨_,_,_,_,o,_,_,e,_⟩:=x;exact Heap.lt_size e
 | set S n=>obtain⟨o,_,_,_,e,_⟩:=x;exact Heap.lt_size e
 | ins C dx fs=>obtain⟨_,_,_,e,_⟩:=x;exact Heap.lt_size e
 | own y=>obtain⟨_,e⟩:=x;exact Heap.lt_size e
 | xd fs=>obtain⟨_,⟨_,_,_,e,_⟩,_⟩:=x;exact Heap.lt_size e
 | room x'=>obtain⟨_,_,_,e⟩:=x;exact Heap.lt_size e
 | rng lo hi=>obtain⟨_,_,_,e⟩:=x;exact Heap.lt_size e
 | frz ob u=>obtain⟨e,_⟩:=x;exact Heap.lt_size e
 | tbl ps=>exact Heap.lt_size (show h.get? a=some _ from x)
 | met f y=>exact Heap.lt_size (show h.get? a=some _ from x)
 | ext φ=>obtain⟨_,⟨_,e⟩,_⟩:=x;exact Heap.lt_size e
theorem Paired.Hn{α β:Type}{F G:α->β->Prop}:∀{l₁:List α}{l₂:List β},Paired F l₁ l₂ ->(∀ a b,F a b->G a b)->Paired G l₁ l₂
 | _,_,.nil,_=>.nil
 | _,_,.cons r t,f=>.cons (f _ _ r) (Paired.Hn t f)
theorem aV.cD(x:aV P w H h a o)(k:∀ b u,(b=a\/H b=some (.own a))->h.get? b=some u->h'.get? b=some u)
  (ho:∀ b,H b=some (.own a)->H' b=some (.own a)) (ht:∀ b xs,H b=some (.tup xs)->H' b=some (.tup xs)):aV P w H' h' a o:=by
 induction o with
 | lst xs=>obtain⟨z,its,n,r,e⟩:=x;exact⟨z,its,n,r,k _ _ (.inl rfl) e⟩
 | tup xs=>obtain⟨z,its,r,⟨ob,e,c⟩,o2,e2,d2⟩:=x;exact⟨z,its,r,⟨ob,k _ _ (.inl rfl) e,c⟩,o2,k _ _ (.inl rfl) e2,d2⟩
 | dK kvs=>obtain⟨z,y,vs,r,ob,es,ep,e,c⟩:=x;exact⟨z,y,vs,r,ob,es,ep,k _ _ (.inl rfl) e,c⟩
 | dT kvs =>
  obtain⟨z,y,xs,r,ob,es,ep,e,c⟩:=x;exact⟨z,y,xs,Paired.Hn r fun p q z=>⟨z.1,ht _ _ z.2.1,z.2.2⟩,ob,es,ep,k _ _ (.inl rfl) e,c⟩
 | set S n=>obtain⟨ob,es,ep,t,e,c⟩:=x;exact⟨ob,es,ep,t,k _ _ (.inl rfl) e,c⟩
 | ins C dx fs =>
  obtain⟨d,z,ne,e,mA,⟨od,es,ep,e2,c⟩,r⟩:=x;exact⟨ho _ d,z,ne,k _ _ (.inl rfl) e,mA,⟨od,es,ep,k _ _ (.inr d) e2,c⟩,r⟩
 | own y=>obtain⟨ob,e⟩:=x;exact⟨ob,k _ _ (.inl rfl) e⟩
 | xd fs=>obtain⟨mA,⟨od,es,ep,e,c⟩,r⟩:=x;exact⟨mA,⟨od,es,ep,k _ _ (.inl rfl) e,c⟩,r⟩
 | room x'=>obtain⟨t,u,v,e⟩:=x;exact⟨t,u,v,k _ _ (.inl rfl) e⟩
 | rng lo hi=>obtain⟨t,u,v,e⟩:=x;exact⟨t,u,v,k _ _ (.inl rfl) e⟩
 | frz ob u ih=>obtain⟨e,q⟩:=x;exact⟨k _ _ (.inl rfl) e,ih q⟩
 | tbl ps =>
  have e:h.get? a=some { cls:=.none,data:=.fields ps }:=x;show h'.get? a=some { cls:=.none,data:=.fields ps };exact k a _ (.inl rfl) e
 | met f y =>
  have e:h.get? a=some (W.methodObj (.ref f) (.ref y)):=x;show h'.get? a=some (W.methodObj (.ref f) (.ref y));exact k a _ (.inl rfl) e
 | ext φ=>obtain⟨p,⟨o,e⟩,st⟩:=x;exact⟨st _ _ p fun o q=>k _ _ (.inl rfl) q,⟨o,k _ _ (.inl rfl) e⟩,st⟩
theorem HOk.lt(x:HOk P w H h)(e:H a=some o):a<h.objs.size:=(x a o e).lt
theorem HOk.fresh(x:HOk P w H h)(e:h.objs.size<=a):H a=none:=by
 cases q:H a with
 | none=>rfl
 | some u=>exact absurd (Nat.lt_of_lt_of_le (x.lt q) e) (Nat.lt_irrefl _)
theorem HOk.kept(x:HOk P w H h)(k:∀ b u,h.get? b=some u->h'.get? b=some u):HOk P w H h':=fun a o e =>
 (x a o e).cD (fun b u _ q=>k b u q) (fun _ q=>q) fun _ _ q=>q
theorem HOk.laid(x:HOk P w H h)(k:∀ b u,h.get? b=some u->h'.get? b=some u)(hp:h.objs.size<=a)(new:aV P w (upd H a o) h' a o):HOk P w (upd H a o) h':=fun b u e=>by
 have hn:=x.fresh hp;by_cases hb:b=a
 ·subst hb;rw[aw]at e;cases e;exact new
 ·rw[aj hb]at e;exact(x b u e).cD (fun c v _ q=>k c v q) (fun c q=>by rw[aj (aP q hn)];exact q) fun c xs q=>by rw[aj (aP q hn)];exact q
end
def Rd(H:Hp)(a:Addr)(u:HO):Prop:=H a=some u\/∃ o,H a=some (.frz o u)
variable{P:Program}
theorem Rd.ok{w:World}{h:Heap}{u:HO}(r:Rd H a u)(x:HOk P w H h):aV P w H h a u:=by
 rcases r with r |⟨o,r⟩
 ·exact x a u r
 ·obtain⟨_,q⟩:=x a _ r;exact q
def Mut:Option HO->Prop
 | some (.lst _)=>True
 | some (.dK _)=>True
 | some (.dT _)=>True
 | some (.set _ _)=>True
 | some (.ins _ _ _)=>True
 | some (.ext _)=>True
 | some (.room _)=>True
 | _=>False
section
variable{w:World}{h h':Heap}{x e:Addr}{o':HO}
theorem HOk.write(ok:HOk P w H h)(mu:Mut (H x))(he:e=x\/H e=some (.own x))(k:∀ b u,b≠e->h.get? b=some u->h'.get? b=some u)(heo:∃ u,h'.get? e=some u)
  (new:aV P w (upd H x o') h' x o'):HOk P w (upd H x o') h':=fun b u q=>by
 have J9:∀ c y,H c=some (.own y)->c≠x:=fun c y r z=>by subst z;rw[r]at mu;exact mu
 have M0:∀ c xs,H c=some (.tup xs)->c≠x:=fun c xs r z=>by subst z;rw[r]at mu;exact mu
 by_cases hb:b=x
 ·subst hb;rw[aw]at q;cases q;exact new
 ·rw[aj hb]at q;by_cases hbe:b=e
  ·have q':H b=some (.own x):=by
    rcases he with z|z
    ·exact absurd (hbe.trans z) hb
    ·rw[hbe];exact z
   rw[q]at q';cases q';obtain⟨v,hv⟩:=heo;exact⟨v,by rw[hbe];exact hv⟩
  ·refine(ok b u q).cD (fun c v hc r=>k c v ?_ r) (fun c r=>by rw[aj (J9 c b r)];exact r) fun c xs r=>by rw[aj (M0 c xs r)];exact r
   rcases hc with rfl|hc
   ·exact hbe
   ·rintro rfl
    rcases he with z|z
    ·exact J9 c b hc z
    ·rw[hc]at z;cases z;exact hb rfl
end
structure Un(fs ex:List Addr)(H H':Hp)(h h':Heap):Prop where
 keep:∀ b o,h.get? b=some o->H b=none->b ∉ fs->b ∉ ex->h'.get? b=some o
 slot:∀ b o,h.get? b=some o->H b=none->b∈fs->b ∉ ex->∃ sl,h'.get? b=some { o with slots:=sl }
 free:∀ b o,h.get? b=some o->H b=none->b ∉ ex->H' b=none
 there:∀ b o,h.get? b=some o->b ∉ ex->∃ o',h'.get? b=some o'
 kX:∀ b xs,H b=some (.tup xs)->H' b=some (.tup xs)
 iE:∀ b o u,H b=some (.frz o u)->H' b=some (.frz o u)
 kY:∀ b ps,H b=some (.tbl ps)->∃ more,H' b=some (.tbl (ps++more))
section
variable{fs fs' ex ex':List Addr}{H1 H2:Hp}{h h1 h2 h':Heap}{x e:Addr}{o:HO}
theorem Un.any(u:Un fs ex H H1 h h1){b:Addr}{ob:Obj}(q:h.get? b=some ob)(n:H b=none)(hx:b ∉ ex):∃ sl,h1.get? b=some { ob with slots:=sl }:=by
 by_cases hb:b∈fs
 ·exact u.slot b ob q n hb hx
 ·exact⟨ob.slots,u.keep b ob q n hb hx⟩
theorem Un.kept(k:∀ b u,h.get? b=some u->h'.get? b=some u):Un fs ex H H h h' :=
 ⟨fun b ob q _ _ _=>k b ob q,fun b ob q _ _ _=>⟨ob.slots,k b ob q⟩,fun _ _ _ n _=>n,fun b ob q _=>⟨ob,k b ob q⟩,fun _ _ q=>q,fun _ _ _ q=>q,fun _ ps q=>⟨#[],by rw[q];simp⟩⟩
theorem Un.refl:Un fs ex H H h h:=Un.kept fun _ _ q=>q
theorem Un.laid(k:∀ b u,h.get? b=some u->h'.get? b=some u)(hp:h.objs.size<=a)(hn:H a=none):Un fs ex H (upd H a o) h h' where
 keep:=fun b u q _ _ _=>k b u q
 slot:=fun b u q _ _ _=>⟨u.slots,k b u q⟩
 free:=fun b u q n _=>by rw[aj (Nat.ne_of_lt (Nat.lt_of_lt_of_le (Heap.lt_size q) hp))];exact n
 there:=fun b u q _=>⟨u,k b u q⟩
 kX:=fun b xs q=>by rw[aj (aP q hn)];exact q
 iE:=fun b u xs q=>by rw[aj (aP q hn)];exact q
 kY:=fun b ps q=>⟨#[],by rw[aj (aP q hn),q];simp⟩
theorem Un.write(mu:Mut (H x))(he:e=x\/H e=some (.own x))(k:∀ b u,b≠e->h.get? b=some u->h'.get? b=some u)(heo:∃ u,h'.get? e=some u):Un fs ex H (upd H x o) h h':=by
 have hx:∀ b,H b=none->b≠x:=fun b n z=>by subst z;rw[n]at mu;exact mu
 have hb:∀ b,H b=none->b≠e:=fun b n z=>by
  subst z;rcases he with r|r
  ·exact hx b n r
  ·rw[n]at r;cases r
 have hm:∀ b u,H b=some u->¬ Mut (some u)->b≠x:=fun b u q nm z=>by subst z;rw[q]at mu;exact nm mu
 refine⟨fun b u q n _ _=>k b u (hb b n) q,fun b u q n _ _=>⟨u.slots,k b u (hb b n) q⟩,fun b u q n _=>by rw[aj (hx b n)];exact n,fun b u q _=>?_,
  fun b xs q=>by rw[aj (hm b _ q fun z=>z)];exact q,fun b u xs q=>by rw[aj (hm b _ q fun z=>z)];exact q,fun b ps q=>⟨#[],by rw[aj (hm b _ q fun z=>z),q];simp⟩⟩
 by_cases hbe:b=e
 ·subst hbe;exact heo
 ·exact⟨u,k b u hbe q⟩
end
def trk(h:Heap)(H:Hp):List Addr:=(List.range h.objs.size).filter fun a=>(H a).isSome
def qg(h:Heap)(H:Hp):Heap:=W.hideAll h (trk h H)
theorem yr(h:Heap)(H:Hp):(qg h H).objs.size=h.objs.size:=W.hideAll_size _ _
theorem A9{h:Heap}{b:Addr}{o:Obj}(e:h.get? b=some o)(n:H b=none):(qg h H).get? b=some o :=
 W.hideAll_get _ e fun hm=>by
  have q:(H b).isSome=true:=(List.mem_filter.mp hm).2;rw[n]at q;simp at q
theorem DM{h:Heap}{b:Addr}{o:Obj}(e:(qg h H).get? b=some o):h.get? b=some o/\H b=none:=by
 have e':h.get? b=some o:=W.of_hideAll (trk h H) e;refine⟨e',?_⟩;cases q:H b with
 | none=>rfl
 | some x =>
  have hm:b∈trk h H:=List.mem_filter.mpr ⟨List.mem_range.mpr (Heap.lt_size e'),by simp[q]⟩
  have z:(qg h H).get? b=none:=W.hideAll_none (trk h H) hm;rw[z]at e;cases e
structure Mod(K:W.Frag)(mg:Str->Option Value)(base:Heap):Prop where
 kin:K.In base
 glob:base.Ns mainGlobals mg
 blt:∃ mb,base.Ns builtinsNs mb/\∀ x:Str,x ≠ "__name__" -> mb x=bootBuiltins x
 nolimit:base.NoLimit
structure Cx where
 prog:Program
 w:World
 K:W.Frag
 mg:Str->Option Value
 base:Heap
 A:Around
 N:List Str
 s₀:Shared
 H₀:Hp
 env:Env
 outer:List Env
 stack:List Env
 ex:List Addr
 fn:Str->Bool
 calm:Bool
 pn:List (Addr×Obj)
 xe:Value->Shared->Prop
def frs(l:List Env):List Addr:=l.filterMap (·.frame)
abbrev Cx.fs(X:Cx):List Addr:=frs X.outer
def Vis(sc:Scope)(x:Str):Prop:=sc.names.lookup x=some .local\/sc.names.lookup x=some .cell\/sc.names.lookup x=some .free
def Loc(sc:Scope)(x:Str):Prop:=sc.names.lookup x=some .local\/sc.names.lookup x=some .cell
def Look(env:Env)(h:Heap)(m:Str->Option Value)(x:Str)(u:Value):Prop :=
 (env.kindOf x=some .local/\m x=some u)\/((env.kindOf x=some .cell\/env.kindOf x=some .free)/\∃ c,env.cells.lookup x=some c/\h.IsCell c (some u))
structure Cx.Ok(X:Cx):Prop where
 mod:Mod X.K X.mg X.base
 kind:X.env.scope.kind = .function
 glob:X.env.globals=mainGlobals
 blt:X.env.builtins=builtinsNs
 above:X.s₀.heap.objs.size<=X.env.locals
 inj:∀ x y c,X.env.cells.lookup x=some c->X.env.cells.lookup y=some c->x=y
 has:∀ x,(X.env.kindOf x=some .cell\/X.env.kindOf x=some .free)->∃ c,X.env.cells.lookup x=some c
 cab:∀ x c,X.fn x=true->X.env.cells.lookup x=some c->X.s₀.heap.objs.size<=c
 hd:X.calm=true->X.A.handled=none
 frames:X.A.frames=some X.stack
 stk:X.stack=X.outer\/(X.stack=X.env::X.outer/\X.env.frame=some X.env.locals)
 exf:∀ b∈X.ex,b≠X.env.locals/\∀ x c,X.env.cells.lookup x=some c->c≠b
 bs:∀ b o,X.base.get? b=some o->X.s₀.heap.get? b=some o/\X.H₀ b=none
 bsz:X.base.objs.size<=X.s₀.heap.objs.size
 AG:∀ b o,X.base.get? b=some o->b ∉ X.ex
 El:∀ b∈X.ex,b ∉ X.fs
 ky:X.s₀.heap.FunFrames X.base X.outer
 frf:∀ b∈X.fs,X.H₀ b=none
structure Inv(X:Cx)(gV:List (Addr×Obj))(σ:List (Option V))(H:Hp)(s:Shared):Prop where
 ok:X.Ok
 os:s.os=X.s₀.os
 bare:AllBare s.gens
 base:Un X.fs X.ex X.H₀ H X.s₀.heap s.heap
 loc:∃ m,s.heap.Ns X.env.locals m/\∀(i:Nat)(x:Str)(v:V),X.N[i]? = some x->σ[i]? = some (some v)->Vis X.env.scope x->∃ u,RelV v u/\Look X.env s.heap m x u
 cell:∀ x c,X.env.cells.lookup x=some c->∃ v,s.heap.IsCell c v
 free:H X.env.locals=none
 dD:∀ x c,X.env.cells.lookup x=some c->H c=none
 pin:∀ p∈X.pn++gV,s.heap.get? p.1=some p.2/\H p.1=none/\p.1≠X.env.locals/\p.1 ∉ X.fs/\∀ v,p.2.data ≠ .cell v
 hok:HOk X.prog X.w H s.heap
 len:σ.length=X.N.length
variable{ch:List Addr}{t':Nat}{it:Addr}{N:List Str}{j:Nat}{x:Str}{u:Value}{s':Shared}
section
variable{X:Cx}{gV:List (Addr×Obj)}{σ:List (Option V)}{H':Hp}{s:Shared}{h':Heap}
theorem Cx.Ok.M3(ok:X.Ok){b:Addr}{o:Obj}(e:X.base.get? b=some o):b ∉ X.fs:=fun hb=>by
 have:=(ok.ky.mem hb).1
 rw[e]at this;cases this
theorem Inv.bs(I:Inv X gV σ H s):∀ b o,X.base.get? b=some o->s.heap.get? b=some o/\H b=none:=fun b o e =>
 ⟨I.base.keep b o (I.ok.bs b o e).1 (I.ok.bs b o e).2 (I.ok.M3 e) (I.ok.AG b o e),I.base.free b o (I.ok.bs b o e).1 (I.ok.bs b o e).2 (I.ok.AG b o e)⟩
theorem Inv.bk(I:Inv X gV σ H s):∀ b o,X.base.get? b=some o->s.heap.get? b=some o:=fun b o e=>(I.bs b o e).1
theorem Inv.mod(I:Inv X gV σ H s):Mod X.K X.mg X.base:=I.ok.mod
theorem Inv.kIn(I:Inv X gV σ H s):X.K.In s.heap:=I.ok.mod.kin.keeps I.bk
theorem Inv.lt(I:Inv X gV σ H s):X.env.locals<s.heap.objs.size:=let⟨_,hn,_⟩:=I.loc;hn.lt
theorem Inv.sz(I:Inv X gV σ H s):X.s₀.heap.objs.size<=s.heap.objs.size:=Nat.le_trans I.ok.above (Nat.le_of_lt I.lt)
theorem Inv.Ka(I:Inv X gV σ H s)(h:s.heap.objs.size<=a):a ∉ X.fs:=fun hb=>by
 obtain⟨_,o,ho,_⟩:=I.ok.ky.mem hb;exact absurd (Nat.lt_of_lt_of_le (Heap.lt_size ho) (Nat.le_trans I.sz h)) (Nat.lt_irrefl _)
theorem Inv.cne(I:Inv X gV σ H s):∀ x c,X.env.cells.lookup x=some c->c≠X.env.locals:=fun x c e z=>by
 obtain⟨v,o,ho,hd⟩:=I.cell x c e;obtain⟨m,⟨o',es,ep,ho',hd',_⟩,_⟩:=I.loc;rw[z,ho']at ho;cases ho;rw[hd']at hd;cases hd
theorem Inv.ky(I:Inv X gV σ H s):s.heap.FunFrames X.base X.outer:=by
 have all:∀(l:List Env),(∀ b∈frs l,b∈X.fs)->X.s₀.heap.FunFrames X.base l->s.heap.FunFrames X.base l:=by
  intro l
  induction l with
  | nil=>intro _ _;trivial
  | cons env r ih =>
   intro hs hl;obtain⟨hk,⟨L,o,hf,hn,ho,hd⟩,hr⟩:=hl;have hL:L∈X.fs:=hs L (by unfold frs;rw[List.filterMap_cons,hf];exact List.mem_cons_self)
   obtain⟨sl,e⟩:=I.base.slot L o ho (I.ok.frf L hL) hL fun z=>I.ok.El L z hL
   exact⟨hk,⟨L,_,hf,hn,e,hd⟩,ih (fun b hb=>hs b (by unfold frs;rw[List.filterMap_cons,hf];exact List.mem_cons_of_mem _ hb)) hr⟩
 exact all X.outer (fun _ hb=>hb) I.ok.ky
theorem Inv.stack(I:Inv X gV σ H s):s.heap.FunFrames X.base X.stack:=by
 rcases I.ok.stk with e |⟨e,hf⟩
 ·rw[e];exact I.ky
 ·rw[e];obtain⟨m,hn,_⟩:=I.loc;refine .cons (by rw[I.ok.kind];decide) hf hn ?_ I.ky
  exact Heap.get?_none_of_le (Nat.le_trans I.ok.bsz I.ok.above)
theorem Inv.n6(I:Inv X gV σ H s):∀ b∈frs X.stack,b∈X.env.locals::X.fs:=fun b hb=>by
 rcases I.ok.stk with e |⟨e,hf⟩
 ·rw[e]at hb;exact List.mem_cons_of_mem _ hb
 ·rw[e]at hb;unfold frs at hb;rw[List.filterMap_cons,hf]at hb;exact hb
theorem Inv.vK(I:Inv X gV σ H s):∀ b∈frs X.stack,H b=none:=fun b hb=>by
 rcases List.mem_cons.mp (I.n6 b hb)with e|hb
 ·rw[e];exact I.free
 ·obtain⟨_,o,ho,_⟩:=I.ok.ky.mem hb;exact I.base.free b o ho (I.ok.frf b hb) fun z=>I.ok.El b z hb
theorem Inv.step{g':Array GenState}{t':Nat}{d':Drawn}(I:Inv X gV σ H s)
  (hch:∀ b∈ch,(b∈X.ex\/X.s₀.heap.objs.size<=b)/\b≠X.env.locals/\(∀ x c,X.env.cells.lookup x=some c->c≠b)/\∀ p∈X.pn++gV,p.1≠b)
  (keep:∀ b o,b≠X.env.locals->b ∉ X.fs->b ∉ ch->s.heap.get? b=some o->H b=none->h'.get? b=some o)
  (slot:∀ b o,b≠X.env.locals->b∈X.fs->b ∉ ch->s.heap.get? b=some o->H b=none->∃ sl,h'.get? b=some { o with slots:=sl }) (free:∀ b o,b ∉ ch->s.heap.get? b=some o->H b=none->H' b=none)
  (there:∀ b o,b ∉ ch->s.heap.get? b=some o->∃ o',h'.get? b=some o')
  (kX:∀ b xs,H b=some (.tup xs)->H' b=some (.tup xs)) (iE:∀ b o u,H b=some (.frz o u)->H' b=some (.frz o u)) (kY:∀ b ps,H b=some (.tbl ps)->∃ more,H' b=some (.tbl (ps++more)))
  (ns:∀ m,s.heap.Ns X.env.locals m->h'.Ns X.env.locals m) (hok:HOk X.prog X.w H' h') (hg:AllBare g') :
  Inv X gV σ H' { s with heap:=h',gens:=g',drawn:=d',toks:=t' }:=by
 have neL:∀ b o,X.s₀.heap.get? b=some o->b≠X.env.locals:=fun b o e=>Nat.ne_of_lt (Nat.lt_of_lt_of_le (Heap.lt_size e) I.ok.above)
 have neC:∀ b o,X.s₀.heap.get? b=some o->b ∉ X.ex->b ∉ ch:=fun b o e hx hb=>by
  rcases(hch b hb).1 with z|z
  ·exact hx z
  ·exact absurd (Nat.lt_of_lt_of_le (Heap.lt_size e) z) (Nat.lt_irrefl _)
 have cellK:∀ x c,X.env.cells.lookup x=some c->∀ v,s.heap.IsCell c v->h'.IsCell c v:=fun x c e v ⟨o,ho,hd⟩=>by
  have nch:c ∉ ch:=fun z=>(hch c z).2.2.1 x c e rfl
  by_cases hc:c∈X.fs
  ·obtain⟨sl,q⟩:=slot c o (I.cne x c e) hc nch ho (I.dD x c e);exact⟨_,q,hd⟩
  ·exact⟨o,keep c o (I.cne x c e) hc nch ho (I.dD x c e),hd⟩
 refine⟨I.ok,I.os,hg,⟨fun b o e n hb hx=>?_,fun b o e n hb hx=>?_,fun b o e n hx=>?_,fun b o e hx=>?_,fun b xs e=>kX b xs (I.base.kX b xs e),fun b o xs e=>iE b o xs (I.base.iE b o xs e),fun b ps e=>?_⟩,?_,fun x c e=>?_,?_,fun x c e=>?_,fun p hp=>?_,hok,I.len⟩
 ·exact keep b o (neL b o e) hb (neC b o e hx) (I.base.keep b o e n hb hx) (I.base.free b o e n hx)
 ·obtain⟨sl,e1⟩:=I.base.slot b o e n hb hx;obtain⟨sl',e2⟩:=slot b _ (neL b o e) hb (neC b o e hx) e1 (I.base.free b o e n hx);exact⟨sl',e2⟩
 ·obtain⟨o',e1⟩:=I.base.there b o e hx;exact free b o' (neC b o e hx) e1 (I.base.free b o e n hx)
 ·obtain⟨o',e1⟩:=I.base.there b o e hx;exact there b o' (neC b o e hx) e1
 ·obtain⟨m1,e1⟩:=I.base.kY b ps e;obtain⟨m2,e2⟩:=kY b _ e1;exact⟨m1++m2,by rw[e2,Array.append_assoc]⟩
 ·obtain⟨m,hn,hl⟩:=I.loc;refine⟨m,ns m hn,fun i x v e1 e2 e3=>?_⟩
  obtain⟨u,r,l⟩:=hl i x v e1 e2 e3;refine⟨u,r,?_⟩;rcases l with l |⟨k,c,e,z⟩
  ·exact .inl l
  ·exact .inr ⟨k,c,e,cellK x c e _ z⟩
 ·obtain⟨v,z⟩:=I.cell x c e;exact⟨v,cellK x c e v z⟩
 ·obtain⟨m,⟨o,_,_,ho,_⟩,_⟩:=I.loc;exact free _ o (fun z=>(hch _ z).2.1 rfl) ho I.free
 ·obtain⟨v,o,ho,hd⟩:=I.cell x c e;exact free c o (fun z=>(hch c z).2.2.1 x c e rfl) ho (I.dD x c e)
 ·obtain⟨e,n,ne,nf,d⟩:=I.pin p hp;have nch:p.1 ∉ ch:=fun z=>(hch p.1 z).2.2.2 p hp rfl
  exact⟨keep p.1 p.2 ne nf nch e n,free p.1 p.2 nch e n,ne,nf,d⟩
theorem Inv.un(I:Inv X gV σ H s)(u:Un X.fs [] H H' s.heap h')(hok:HOk X.prog X.w H' h'):Inv X gV σ H' { s with heap:=h',toks:=t' }:=by
 obtain⟨m,⟨o,es,ep,ho,r⟩,_⟩:=id I.loc;obtain⟨sl,hL⟩:=u.any ho I.free (by simp)
 exact I.step (g':=s.gens) (d':=s.drawn) (ch:=[]) (fun _ z=>nomatch z) (fun b o _ hb _ e n=>u.keep b o e n hb (by simp)) (fun b o _ hb _ e n=>u.slot b o e n hb (by simp)) (fun b o _ e n=>u.free b o e n (by simp)) (fun b o _ e=>u.there b o e (by simp)) u.kX u.iE u.kY (fun m' hm=>by
  obtain⟨o',es',ep',ho',r'⟩:=hm;rw[ho]at ho';cases ho';exact⟨_,es',ep',hL,r'⟩) hok I.bare
theorem Inv.call{g':Array GenState}{t':Nat}{d':Drawn}{ch:List Addr}(I:Inv X gV σ H s)(u:Un (frs X.stack) ch H H' s.heap h')(hok:HOk X.prog X.w H' h')(hg:AllBare g')
  (hch:∀ b∈ch,(b∈X.ex\/X.s₀.heap.objs.size<=b)/\b≠X.env.locals/\(∀ x c,X.env.cells.lookup x=some c->c≠b)/\∀ p∈X.pn++gV,p.1≠b) :
  Inv X gV σ H' { s with heap:=h',gens:=g',drawn:=d',toks:=t' }:=by
 obtain⟨m,⟨o,es,ep,ho,r⟩,_⟩:=id I.loc;obtain⟨sl,hL⟩:=u.any ho I.free fun z=>(hch _ z).2.1 rfl
 exact I.step (ch:=ch) hch (fun b o hL hb hc e n=>u.keep b o e n (fun z=>(List.mem_cons.mp (I.n6 b z)).elim hL hb) hc) (fun b o _ _ hc e n=>u.any e n hc) (fun b o hc e n=>u.free b o e n hc) (fun b o hc e=>u.there b o e hc) u.kX u.iE u.kY (fun m' hm=>by
  obtain⟨o',es',ep',ho',r'⟩:=hm;rw[ho]at ho';cases ho';exact⟨_,es',ep',hL,r'⟩) hok hg
theorem Inv.turned(I:Inv X gV σ H s)(k:∀ b o,b≠it->s.heap.get? b=some o->h'.get? b=some o)(hn:H it=none)(hL:it≠X.env.locals)
  (h1:it∈X.ex\/X.s₀.heap.objs.size<=it) (h2:∀ x c,X.env.cells.lookup x=some c->c≠it) (h3:∀ p∈X.pn++gV,p.1≠it):Inv X gV σ H { s with heap:=h',toks:=t' }:=by
 have nit:∀ b u,H b=some u->b≠it:=fun b u e z=>by rw[z,hn]at e;cases e
 refine I.step (g':=s.gens) (d':=s.drawn) (ch:=[it]) (fun b hb=>?_) (fun b o _ _ hc e _=>k b o (fun z=>hc (by simp[z])) e) (fun b o _ _ hc e _=>⟨o.slots,k b o (fun z=>hc (by simp[z])) e⟩) (fun _ _ _ _ n=>n)
  (fun b o hc e=>⟨o,k b o (fun z=>hc (by simp[z])) e⟩) (fun _ _ e=>e) (fun _ _ _ e=>e) (fun b ps e=>⟨#[],by rw[e];simp⟩) (fun m hm=>?_) (fun b u e=>?_) I.bare
 ·have e:b=it:=by simpa using hb
  subst e;exact⟨h1,hL,h2,h3⟩
 ·obtain⟨o,es,ep,ho,r⟩:=hm;exact⟨o,es,ep,k _ o (Ne.symm hL) ho,r⟩
 ·refine(I.hok b u e).cD (fun c v hc q=>k c v ?_ q) (fun _ q=>q) fun _ _ q=>q
  rcases hc with z|z
  ·rw[z];exact nit b u e
  ·exact nit c _ z
theorem Inv.tok(I:Inv X gV σ H s)(t:Nat):Inv X gV σ H { s with toks:=t }:=I.un (h':=s.heap) (t':=t) Un.refl I.hok
theorem Inv.kept{t':Nat}(I:Inv X gV σ H s)(k:∀ b u,s.heap.get? b=some u->h'.get? b=some u):Inv X gV σ H { s with heap:=h',toks:=t' }:=I.un (Un.kept k) (I.hok.kept k)
theorem Inv.laid{a:Addr}{o:HO}{t':Nat}(I:Inv X gV σ H s)(k:∀ b u,s.heap.get? b=some u->h'.get? b=some u)(hp:s.heap.objs.size<=a)(new:aV X.prog X.w (upd H a o) h' a o) :
  Inv X gV σ (upd H a o) { s with heap:=h',toks:=t' }:=I.un (Un.laid k hp (I.hok.fresh hp)) (I.hok.laid k hp new)
theorem Inv.write{x e:Addr}{o:HO}{t':Nat}(I:Inv X gV σ H s)(mu:Mut (H x))(he:e=x\/H e=some (.own x))(k:∀ b u,b≠e->s.heap.get? b=some u->h'.get? b=some u)(heo:∃ u,h'.get? e=some u)
  (new:aV X.prog X.w (upd H x o) h' x o):Inv X gV σ (upd H x o) { s with heap:=h',toks:=t' }:=I.un (Un.write mu he k heo) (I.hok.write mu he k heo new)
theorem Inv.i6{pins':List (Addr×Obj)}(I:Inv X gV σ H s)(h:∀ p∈pins',s.heap.get? p.1=some p.2/\H p.1=none/\p.1≠X.env.locals/\p.1 ∉ X.fs/\∀ v,p.2.data ≠ .cell v):Inv X pins' σ H s :=
 ⟨I.ok,I.os,I.bare,I.base,I.loc,I.cell,I.free,I.dD,fun p hp=>(List.mem_append.mp hp).elim (fun z=>I.pin p (List.mem_append_left _ z)) (h p),I.hok,I.len⟩
theorem sf(hN:N.Nodup){i:Nat}(a:N[i]? = some x)(b:N[j]? = some x):i=j:=by
 obtain⟨h1,e1⟩:=List.getElem?_eq_some_iff.mp a;obtain⟨h2,e2⟩:=List.getElem?_eq_some_iff.mp b;exact(List.getElem_inj hN).mp (e1.trans e2.symm)
theorem xD{M:Model}{A:Around}{E:Value->Shared->Prop}{i:Nat}{v:V}{Q:Unit->Shared->Prop}(I:Inv X gV σ H s)(hN:X.N.Nodup)(hi:X.N[i]? = some x)(hx:Loc X.env.scope x)(r:RelV v u)
  (h:∀ s',Inv X gV (σ.set i (some v)) H s' ->(∃ a,Heap.SameBut a s.heap s'.heap/\(a=X.env.locals\/X.env.cells.lookup x=some a))->Q () s') (hf:X.fn x=true\/X.env.scope.names.lookup x=some .local:=by first|exact .inl rfl|exact .inr rfl|assumption):wpAny M A (storeName X.env x u) Q E s:=by
 obtain⟨m,hn,hl⟩:=id I.loc;have Nw:(X.env.scope.kind == .class ||(X.env.scope.kind == .module&&X.env.locals != X.env.globals))=false:=by rw[I.ok.kind];rfl
 have hiσ:i < σ.length:=by rw[I.len];exact(List.getElem?_eq_some_iff.mp hi).1
 have cne:=I.cne;have tracked:∀{a:Addr}{h':Heap},(∃ o,s.heap.get? a=some o/\H a=none)->Heap.SameBut a s.heap h'->HOk X.prog X.w H h':=fun{a h'} ha hs b ob e=>by
  obtain⟨_,_,fC⟩:=ha;refine(I.hok b ob e).cD (fun c w' hc q=>(hs.2 c ?_).trans q) (fun _ q=>q) fun _ _ q=>q
  rintro rfl
  rcases hc with rfl|hc
  ·rw[fC]at e;cases e
  ·rw[fC]at hc;cases hc
 rcases hx with hk|hk
 ·refine wpAny_storeName_local hk hn (fun h' hn' hs=>?_) Nw
  obtain⟨oL,_,_,hoL,_⟩:=id hn;refine h _ ⟨I.ok,I.os,I.bare,⟨fun b o e n hb hx=>?_,fun b o e n hb hx=>?_,I.base.free,fun b o e hx=>?_,I.base.kX,I.base.iE,I.base.kY⟩,⟨_,hn',fun j y v' e1 e2 e3=>?_⟩,fun y c e=>?_,I.free,I.dD,fun p hp=>?_,tracked ⟨oL,hoL,I.free⟩ hs,by simpa using I.len⟩ ⟨_,hs,.inl rfl⟩
  ·exact(hs.2 b (Nat.ne_of_lt (Nat.lt_of_lt_of_le (Heap.lt_size e) I.ok.above))).trans (I.base.keep b o e n hb hx)
  ·obtain⟨sl,e1⟩:=I.base.slot b o e n hb hx;exact⟨sl,(hs.2 b (Nat.ne_of_lt (Nat.lt_of_lt_of_le (Heap.lt_size e) I.ok.above))).trans e1⟩
  ·obtain⟨o',e1⟩:=I.base.there b o e hx;exact⟨o',(hs.2 b (Nat.ne_of_lt (Nat.lt_of_lt_of_le (Heap.lt_size e) I.ok.above))).trans e1⟩
  ·by_cases hj:j=i
   ·subst hj;rw[hi]at e1;cases e1;rw[List.getElem?_set_self hiσ]at e2;cases e2;exact⟨u,r,.inl ⟨hk,by simp⟩⟩
   ·rw[List.getElem?_set_ne (Ne.symm hj)]at e2;obtain⟨u',r',q⟩:=hl j y v' e1 e2 e3;refine⟨u',r',?_⟩;rcases q with⟨k,e⟩ |⟨k,c,e,z⟩
    ·refine .inl ⟨k,?_⟩
     have:y≠x:=fun e=>hj (sf hN e1 (e▸hi))
     simp[this,e]
    ·exact .inr ⟨k,c,e,z.sameBut hs (cne y c e)⟩
  ·obtain⟨w',z⟩:=I.cell y c e;exact⟨w',z.sameBut hs (cne y c e)⟩
  ·obtain⟨e,n,ne,nf,d⟩:=I.pin p hp;exact⟨(hs.2 p.1 ne).trans e,n,ne,nf,d⟩
 ·have hfn:X.fn x=true:=by
   rcases hf with z|z
   ·exact z
   ·rw[z]at hk;cases hk
  obtain⟨c,hc⟩:=I.ok.has x (.inl hk);obtain⟨w',z⟩:=I.cell x c hc;refine wpAny_storeName_cell I.ok.kind hk hc z (fun h' hc' hs=>?_)
  obtain⟨oc,hoc,Nn⟩:=id z;refine h { s with heap:=h' } ⟨I.ok,I.os,I.bare,⟨fun b o e n hb hx=>?_,fun b o e n hb hx=>?_,I.base.free,fun b o e hx=>?_,I.base.kX,I.base.iE,I.base.kY⟩,⟨m,hn.sameBut hs (Ne.symm (cne x c hc)),fun j y v' e1 e2 e3=>?_⟩,fun y c' e=>?_,I.free,I.dD,fun p hp=>?_,tracked ⟨oc,hoc,I.dD x c hc⟩ hs,by simpa using I.len⟩ ⟨c,hs,.inr hc⟩
  ·exact(hs.2 b (Nat.ne_of_lt (Nat.lt_of_lt_of_le (Heap.lt_size e) (I.ok.cab x c hfn hc)))).trans (I.base.keep b o e n hb hx)
  ·obtain⟨sl,e1⟩:=I.base.slot b o e n hb hx;exact⟨sl,(hs.2 b (Nat.ne_of_lt (Nat.lt_of_lt_of_le (Heap.lt_size e) (I.ok.cab x c hfn hc)))).trans e1⟩
  ·obtain⟨o',e1⟩:=I.base.there b o e hx;exact⟨o',(hs.2 b (Nat.ne_of_lt (Nat.lt_of_lt_of_le (Heap.lt_size e) (I.ok.cab x c hfn hc)))).trans e1⟩
  ·by_cases hj:j=i
   ·subst hj;rw[hi]at e1;cases e1;rw[List.getElem?_set_self hiσ]at e2;cases e2;exact⟨u,r,.inr ⟨.inl hk,c,hc,hc'⟩⟩
   ·rw[List.getElem?_set_ne (Ne.symm hj)]at e2;obtain⟨u',r',q⟩:=hl j y v' e1 e2 e3;refine⟨u',r',?_⟩;rcases q with q |⟨k,c',e,z'⟩
    ·exact .inl q
    ·refine .inr ⟨k,c',e,z'.sameBut hs ?_⟩
     rintro rfl
     exact hj (sf hN e1 (I.ok.inj _ _ _ e hc▸hi))
  ·by_cases hcc:c'=c
   ·subst hcc;exact⟨_,hc'⟩
   ·obtain⟨w2,z2⟩:=I.cell y c' e;exact⟨w2,z2.sameBut hs hcc⟩
  ·obtain⟨e,n,ne,nf,d⟩:=I.pin p hp;refine⟨(hs.2 p.1 ?_).trans e,n,ne,nf,d⟩;intro q;rw[q,hoc]at e;have q':oc=p.2:=Option.some.inj e;exact d w' (by rw[<- q'];exact Nn)
theorem fP{M:Model}{A:Around}{E:Value->Shared->Prop}{i:Nat}{v:V}{Q:Unit->Shared->Prop}(I:Inv X gV σ H s)(hN:X.N.Nodup)(hi:X.N[i]? = some x)(hx:Loc X.env.scope x)(r:RelV v u)
  (h:∀ s',Inv X gV (σ.set i (some v)) H s'->Q () s') (hf:X.fn x=true\/X.env.scope.names.lookup x=some .local:=by first|exact .inl rfl|exact .inr rfl|assumption):wpAny M A (storeName X.env x u) Q E s :=
 xD I hN hi hx r (fun s' I' _=>h s' I') hf
theorem Inv.Li(I:Inv X gV σ H s)(ho:s'.os=s.os)(u:Un (frs X.stack) ch H H' s.heap s'.heap)(hok:HOk X.prog X.w H' s'.heap)(hg:AllBare s'.gens)
  (hch:∀ b∈ch,(b∈X.ex\/X.s₀.heap.objs.size<=b)/\b≠X.env.locals/\(∀ x c,X.env.cells.lookup x=some c->c≠b)/\∀ p∈X.pn++gV,p.1≠b):Inv X gV σ H' s':=by
 obtain⟨h',g',d',t',o'⟩:=s';have e:o'=s.os:=ho;subst e;exact I.call (g':=g') (t':=t') (d':=d') u hok hg hch
end
abbrev XK:=Value->Option Addr->Hp->Prop
abbrev St:=List (Option V)
abbrev VK:=V->Hp->Prop
abbrev TE:=St->Hp->VK->Prop
abbrev TT:=St->Hp ->(Bool->Hp->Prop)->Prop
abbrev TA:=St->Hp ->(List V->Hp->Prop)->Prop
structure Ends where
 nx:St->Hp->Prop
 rt:VK
 bk:St->Hp->Prop:=fun _ _=>False
 ct:St->Hp->Prop:=fun _ _=>False
abbrev TS:=Ends->St->Hp->Prop
def EP(X:Cx)(gV:List (Addr×Obj))(σ:St)(Q:VK)(u:Value)(s':Shared):Prop:=∃ v H',Inv X gV σ H' s'/\RelV v u/\Q v H'
def TP(X:Cx)(gV:List (Addr×Obj))(σ:St)(Q:Bool->Hp->Prop)(b:Bool)(s':Shared):Prop:=∃ H',Inv X gV σ H' s'/\Q b H'
def AP(X:Cx)(gV:List (Addr×Obj))(σ:St)(Q:List V->Hp->Prop)(us:List Value)(s':Shared):Prop:=∃ vs H',Inv X gV σ H' s'/\Vals vs us/\Q vs H'
def SP(X:Cx)(gV:List (Addr×Obj))(D:Ends)(f:Flow)(s':Shared):Prop :=
 match f with
 | .next=>∃ σ' H',Inv X gV σ' H' s'/\D.nx σ' H'
 | .brk=>∃ σ' H',Inv X gV σ' H' s'/\D.bk σ' H'
 | .cont=>∃ σ' H',Inv X gV σ' H' s'/\D.ct σ' H'
 | .ret u=>∃ v σ' H',Inv X gV σ' H' s'/\RelV v u/\D.rt v H'
def PE(X:Cx)(e:Expr)(t:TE):Prop :=
 ∀(gV:List (Addr×Obj))(s:Shared)(σ:St)(H:Hp)(Q:VK),Inv X gV σ H s->t σ H Q->wpAny (model X.prog X.w) X.A (eval e X.env) (EP X gV σ Q) X.xe s
def PT(X:Cx)(e:Expr)(t:TT):Prop :=
 ∀(gV:List (Addr×Obj))(s:Shared)(σ:St)(H:Hp)(Q:Bool->Hp->Prop),Inv X gV σ H s->t σ H Q->wpAny (model X.prog X.w) X.A (isTrue e X.env (eval e X.env)) (TP X gV σ Q) X.xe s
def PW(X:Cx)(e:Expr)(t:TT):Prop :=
 ∀(whole:Sem Value)(gV:List (Addr×Obj))(s:Shared)(σ:St)(H:Hp)(Q:Bool->Hp->Prop),Inv X gV σ H s->t σ H Q->wpAny (model X.prog X.w) X.A (isTrue e X.env whole) (TP X gV σ Q) X.xe s
variable{X:Cx}{e:Expr}
theorem PW.pt{t:TT}(h:PW X e t):PT X e t:=h _
def PA(X:Cx)(es:List Expr)(t:TA):Prop :=
 ∀(pos:Pos)(gV:List (Addr×Obj))(s:Shared)(σ:St)(H:Hp)(Q:List V->Hp->Prop),Inv X gV σ H s->t σ H Q->wpAny (model X.prog X.w) X.A (spliced (backTo pos (starEach es X.env))) (AP X gV σ Q) X.xe s
def PS(X:Cx)(st:Stmt)(t:TS):Prop :=
 ∀(gV:List (Addr×Obj))(s:Shared)(σ:St)(H:Hp)(D:Ends),Inv X gV σ H s->t D σ H->wpAny (model X.prog X.w) X.A (exec st X.env) (SP X gV D) X.xe s
def PSs(X:Cx)(st:List Stmt)(t:TS):Prop :=
 ∀(gV:List (Addr×Obj))(s:Shared)(σ:St)(H:Hp)(D:Ends),Inv X gV σ H s->t D σ H->wpAny (model X.prog X.w) X.A (execs st X.env) (SP X gV D) X.xe s
variable{M:Model}{A:Around}{E:Value->Shared->Prop}
theorem thn{α:Type}{t:Sem α}{Q Q':α->Shared->Prop}{s:Shared}(h:wpAny M A t Q E s)(hQ:∀ a s,Q a s->Q' a s):wpAny M A t Q' E s:=wpAny_mono h hQ fun _ _ x=>x
variable{gV:List (Addr×Obj)}{Q:Value->Shared->Prop}
section
def a9(i:Nat):TE:=fun σ H Q=>∃ v,σ[i]? = some (some v)/\Q v H
def tC(v:V):TE:=fun _ H Q=>Q v H
theorem uh{i:Nat}{pos:Pos}(hN:X.N[i]? = some x)(hv:Vis X.env.scope x)(hd:(x ==("__debug__":Str))=false:=by decide)(hcd:(x ==("__classdict__":Str))=false:=by decide):PE X (.Name x pos) (a9 i):=by
 intro gV s σ H Q I h;obtain⟨v,e,h⟩:=h;obtain⟨m,hn,hl⟩:=I.loc;obtain⟨u,r,l⟩:=hl i x v hN e hv;have fin:EP X gV σ Q u s:=⟨v,H,I,r,h⟩;rcases l with⟨hk,hm⟩ |⟨hk,c,hc,eU⟩
 ·exact wpAny_Name (wpAny_loadName_local I.ok.kind hk hn hm fin) hd
 ·rcases hk with hk|hk
  ·exact wpAny_Name (wpAny_loadName_cell I.ok.kind hk hc eU fin) hd
  ·exact wpAny_Name (wpAny_loadName_free I.ok.kind hk hc eU fin hcd) hd
theorem bg{i j pos}:PE X (.Constant (.int i) j pos) (tC (.int i)):=fun _ _ _ H _ I h=>wpAny_Constant_int ⟨.int i,H,I.tok _,⟨_,rfl⟩,h⟩
theorem JP{b j pos}:PE X (.Constant (.bool b) j pos) (tC (.bl b)):=fun _ _ _ H _ I h=>Constant_bool ⟨.bl b,H,I,rfl,h⟩
theorem G5{j pos}:PE X (.Constant .none j pos) (tC .non):=fun _ _ _ H _ I h=>Constant_none ⟨.non,H,I,rfl,h⟩
theorem cx{x j pos}:PE X (.Constant (.str x) j pos) (tC (.str x)):=fun _ _ _ H _ I h=>Calls.Constant_str ⟨.str x,H,I.tok _,⟨_,rfl⟩,h⟩
def Gl(X:Cx)(x:Str):Prop:=X.env.kindOf x=some .globalImplicit
theorem wy{E:Value->Shared->Prop}{s:Shared}{σ:St}{pos:Pos}(I:Inv X gV σ H s)(hg:Gl X x)(hm:X.mg x=some u)(h:Q u s)
  (hd:(x ==("__debug__":Str))=false:=by decide):wpAny (model X.prog X.w) X.A (eval (.Name x pos) X.env) Q E s :=
 Calls.Name_function_global I.ok.kind hg (Calls.loadGlobal_global (by rw[I.ok.glob];exact I.mod.glob.keeps I.bk) hm h) hd
theorem dZ{E:Value->Shared->Prop}{s:Shared}{σ:St}{pos:Pos}(I:Inv X gV σ H s)(hg:Gl X x)(hm:X.mg x=none)(hv:bootBuiltins x=some u)(h:Q u s)
  (hn:x ≠ "__name__":=by decide) (hd:(x ==("__debug__":Str))=false:=by decide):wpAny (model X.prog X.w) X.A (eval (.Name x pos) X.env) Q E s:=by
 obtain⟨mb,h1,h2⟩:=I.mod.blt;exact Calls.Name_function_global I.ok.kind hg (Calls.loadGlobal_builtin (by rw[I.ok.glob];exact I.mod.glob.keeps I.bk) hm (by rw[I.ok.blt];exact h1.keeps I.bk) ((h2 x hn).trans hv) h) hd
theorem DB{v:V}{pos:Pos}(hg:Gl X x)(hm:X.mg x=none)(hv:bootBuiltins x=some u)(r:RelV v u)(hn:x ≠ "__name__":=by decide)(hd:(x ==("__debug__":Str))=false:=by decide):PE X (.Name x pos) (tC v) :=
 fun _ _ _ H _ I h=>dZ I hg hm hv ⟨v,H,I,r,h⟩ hn hd
variable{a b:Expr}{ta tb:TE}{pos:Pos}
variable{tA tB':TT}{rest:List Expr}
def Gb(t u:TT):TT:=fun σ H Q=>t σ H fun c H1=>if c=true then u σ H1 Q else Q false H1
def tOr(t u:TT):TT:=fun σ H Q=>t σ H fun c H1=>if c=true then Q true H1 else u σ H1 Q
def Ga(t:TT):TT:=fun σ H Q=>t σ H fun c H1=>Q (!c) H1
theorem v8(ha:PT X a tA):PW X (.BoolOp .And [a] pos) tA:=by
 intro wh gV s σ H Q I h;refine isTrue_and (thn (ha gV s σ H Q I h) fun c s1 e=>?_)
 cases c with
 | true=>exact isTrue_and_nil e
 | false=>exact e
theorem GN(ha:PT X a tA):PW X (.BoolOp .Or [a] pos) tA:=by
 intro wh gV s σ H Q I h;refine isTrue_or (thn (ha gV s σ H Q I h) fun c s1 e=>?_)
 cases c with
 | false=>exact isTrue_or_nil e
 | true=>exact e
theorem Ae(ha:PT X a tA)(hb:PW X (.BoolOp .And (b::rest) pos) tB'):PW X (.BoolOp .And (a::b::rest) pos) (Gb tA tB'):=by
 intro wh gV s σ H Q I h;refine isTrue_and (thn (ha gV s σ H _ I h) fun c s1 hPP=>?_)
 obtain⟨H1,I1,q1⟩:=hPP;cases c with
 | true=>exact hb wh gV s1 σ H1 Q I1 q1
 | false=>exact⟨H1,I1,q1⟩
theorem Jy(ha:PT X a tA)(hb:PW X (.BoolOp .Or (b::rest) pos) tB'):PW X (.BoolOp .Or (a::b::rest) pos) (tOr tA tB'):=by
 intro wh gV s σ H Q I h;refine isTrue_or (thn (ha gV s σ H _ I h) fun c s1 hPP=>?_)
 obtain⟨H1,I1,q1⟩:=hPP;cases c with
 | true=>exact⟨H1,I1,q1⟩
 | false=>exact hb wh gV s1 σ H1 Q I1 q1
theorem GP(ha:PT X a tA):PT X (.UnaryOp .Not a pos) (Ga tA):=by
 intro gV s σ H Q I h;exact isTrue_not (ha gV s σ H (fun c H1=>Q (!c) H1) I h)
end
def SqL(K:W.Frag)(H:Hp)(a:Addr)(xs:List V):Prop :=
 Rd H a (.lst xs) \/
  ∃(o:Obj)(its:Array Value)(n:Nat),K.lookup a=some o/\o.cls = .type "list" /\ o.dict=none/\o.data = .seq its n/\its.size<=sizeLine/\Vals xs its.toList
def SqT(K:W.Frag)(H:Hp)(a:Addr)(xs:List V):Prop :=
 Rd H a (.tup xs) \/
  ∃(o:Obj)(its:Array Value)(n:Nat),K.lookup a=some o/\o.cls = .type "tuple" /\ o.data = .seq its n/\its.size<=sizeLine/\Vals xs its.toList
def NN:Value->Option V
 | .none=>some .non
 | .bool b=>some (.bl b)
 | .int i _=>some (.int i)
 | .str x _=>some (.str x)
 | .bytes b _=>some (.byt b)
 | .float b _=>some (.flt b)
 | .ref a=>some (.ref a)
 | .type n=>some (.ty n)
 | _=>none
theorem RelV.abs{x:V}(r:RelV x u):NN u=some x:=by
 cases x with
 | non=>cases r;rfl
 | bl _=>cases r;rfl
 | int _=>obtain⟨t,rfl⟩:=r;rfl
 | str _=>obtain⟨t,rfl⟩:=r;rfl
 | byt _=>obtain⟨t,rfl⟩:=r;rfl
 | flt _=>obtain⟨t,rfl⟩:=r;rfl
 | ref _=>cases r;rfl
 | ty _=>cases r;rfl
theorem RelV.inj{x y:V}{u:Value}(r:RelV x u)(q:RelV y u):x=y:=Option.some.inj (r.abs.symm.trans q.abs)
theorem Vals.inj:∀{xs ys:List V}{us:List Value},Vals xs us->Vals ys us->xs=ys:=by
 intro xs ys us h
 induction h generalizing ys with
 | nil=>intro h';cases h';rfl
 | cons r t ih=>intro h';cases h' with|cons r' t'=>rw[r.inj r',ih t']
section
variable{σ:St}{s:Shared}{xs ys:List V}
theorem SqL.of{K:W.Frag}(h:H a=some (.lst xs)):SqL K H a xs:=.inl (.inl h)
theorem SqT.of{K:W.Frag}(h:H a=some (.tup xs)):SqT K H a xs:=.inl (.inl h)
theorem Inv.list(I:Inv X gV σ H s)(h:SqL X.K H a xs):∃ its:List Value,Vals xs its/\PlainL s.heap a its.toArray/\xs.length<=sizeLine:=by
 rcases h with h |⟨o,its,n,hk,hc,hd,hs,hz,r⟩
 ·obtain⟨z,its,n,r,e⟩:=h.ok I.hok;exact⟨its,r,⟨_,n,e,rfl,rfl,rfl⟩,z⟩
 ·refine⟨its.toList,r,⟨o,n,I.kIn a o hk,hc,hd,by simpa using hs⟩,?_⟩
  have e:=r.length;simp only[Array.length_toList]at e;omega
theorem Inv.tuple(I:Inv X gV σ H s)(h:SqT X.K H a xs):∃ its:List Value,Vals xs its/\IsTup s.heap a its.toArray/\xs.length<=sizeLine:=by
 rcases h with h |⟨o,its,n,hk,hc,hs,hz,r⟩
 ·obtain⟨z,its,r,p⟩:=h.ok I.hok;exact⟨its,r,p.1,z⟩
 ·refine⟨its.toList,r,⟨o,I.kIn a o hk,hc,n,by simpa using hs⟩,?_⟩
  have e:=r.length;simp only[Array.length_toList]at e;omega
theorem Inv.sr(I:Inv X gV σ H s)(h:SqL X.K H a xs)(h':SqL X.K H a ys):xs=ys:=by
 obtain⟨its,r,⟨o,n,e,_,_,d⟩,_⟩:=I.list h;obtain⟨its',r',⟨o',n',e',_,_,d'⟩,_⟩:=I.list h';rw[e]at e';cases e';rw[d]at d';injection d' with d1 _
 have:its=its':=by simpa using congrArg Array.toList d1
 subst this;exact r.inj r'
theorem Inv.m9(I:Inv X gV σ H s)(h:SqT X.K H a xs)(h':SqT X.K H a ys):xs=ys:=by
 obtain⟨its,r,⟨o,e,_,n,d⟩,_⟩:=I.tuple h;obtain⟨its',r',⟨o',e',_,n',d'⟩,_⟩:=I.tuple h';rw[e]at e';cases e';rw[d]at d';injection d' with d1 _
 have:its=its':=by simpa using congrArg Array.toList d1
 subst this;exact r.inj r'
end
abbrev Cx.mQ(X:Cx)(E:Value->Shared->Prop):Cx:={ X with xe:=E }
abbrev Cx.nox(X:Cx):Cx:=X.mQ fun _ _=>False
theorem Cx.Ok.mQ{X:Cx}(ok:X.Ok)(E:Value->Shared->Prop):(X.mQ E).Ok :=
 ⟨ok.mod,ok.kind,ok.glob,ok.blt,ok.above,ok.inj,ok.has,ok.cab,ok.hd,ok.frames,ok.stk,ok.exf,ok.bs,ok.bsz,ok.AG,ok.El,ok.ky,ok.frf⟩
theorem Cx.Ok.fM(ok:(X.mQ E).Ok):X.Ok :=
 ⟨ok.mod,ok.kind,ok.glob,ok.blt,ok.above,ok.inj,ok.has,ok.cab,ok.hd,ok.frames,ok.stk,ok.exf,ok.bs,ok.bsz,ok.AG,ok.El,ok.ky,ok.frf⟩
section
variable{σ:St}{s:Shared}
theorem Inv.mQ(I:Inv X gV σ H s)(E:Value->Shared->Prop):Inv (X.mQ E) gV σ H s:=⟨I.ok.mQ E,I.os,I.bare,I.base,I.loc,I.cell,I.free,I.dD,I.pin,I.hok,I.len⟩
theorem Inv.fM(I:Inv (X.mQ E) gV σ H s):Inv X gV σ H s:=⟨I.ok.fM,I.os,I.bare,I.base,I.loc,I.cell,I.free,I.dD,I.pin,I.hok,I.len⟩
theorem SP.fM{D:Ends}{f:Flow}{s':Shared}(h:SP (X.mQ E) gV D f s'):SP X gV D f s':=by
 cases f with
 | next=>obtain⟨σ',H',I,q⟩:=h;exact⟨σ',H',I.fM,q⟩
 | brk=>obtain⟨σ',H',I,q⟩:=h;exact⟨σ',H',I.fM,q⟩
 | cont=>obtain⟨σ',H',I,q⟩:=h;exact⟨σ',H',I.fM,q⟩
 | ret u=>obtain⟨v,σ',H',I,r,q⟩:=h;exact⟨v,σ',H',I.fM,r,q⟩
theorem PSs.nox{st:List Stmt}{t:TS}(h:PSs X.nox st t):PSs X st t:=fun gV s σ H D I hw =>
 wpAny_mono (h gV s σ H D (I.mQ _) hw) (fun _ _ q=>q.fM) fun _ _ z=>False.elim z
end
section
variable{st:Stmt}{rest:List Stmt}{t u:TS}{te:TE}{pos:Pos}
def E4:TS:=fun D σ H=>D.nx σ H
def IE(t u:TS):TS:=fun D σ H=>t { D with nx:=u D } σ H
theorem wb:PSs X [] E4:=fun _ _ σ H _ I h=>wpAny_execs_nil ⟨σ,H,I,h⟩
theorem bA(h1:PS X st t)(h2:PSs X rest u):PSs X (st::rest) (IE t u):=by
 intro gV s σ H D I h;refine wpAny_execs_cons (thn (h1 gV s σ H { D with nx:=u D } I h) fun f s1 q=>?_)
 cases f with
 | next =>
  obtain⟨σ',H',I',q⟩:=q;exact h2 gV s1 σ' H' D I' q
 | ret v=>exact q
 | brk=>exact q
 | cont=>exact q
theorem ff(h1:PS X st t):PSs X [st] t:=by
 intro gV s σ H D I h;refine wpAny_execs_cons (thn (h1 gV s σ H D I h) fun f s1 q=>?_)
 cases f with
 | next=>exact wpAny_execs_nil q
 | ret v=>exact q
 | brk=>exact q
 | cont=>exact q
theorem Inv.quiet{σ:St}{s:Shared}(I:Inv X gV σ H s):interactive X.env=false:=by simp[interactive,I.ok.kind]
def fO(te:TE):TS:=fun D σ H=>te σ H fun _ H1=>D.nx σ H1
theorem i5(he:PE X e te)(hs:swapsWith e none pos.line X.env=pure false:=by rfl):PS X (.Expr e pos) (fO te):=by
 intro gV s σ H D I h;exact wpAny_Expr_any (thn (he gV s σ H _ I h) fun v s1 ⟨x,H1,I1,r1,q1⟩=>⟨σ,H1,I1,q1⟩) I.quiet hs
def Ck(te:TE):TS:=fun D σ H=>te σ H D.rt
theorem jE(he:PE X e te):PS X (.Return (some e) pos) (Ck te):=by
 intro gV s σ H D I h;exact wpAny_Return_some (thn (he gV s σ H _ I h) fun v s1 ⟨x,H1,I1,r1,q1⟩=>⟨x,σ,H1,I1,r1,q1⟩)
def IG(c:TT)(t u:TS):TS:=fun D σ H=>c σ H fun b H1=>if b=true then t D σ H1 else u D σ H1
theorem Fi{c:Expr}{a b:List Stmt}{tc:TT}(hc:PT X c tc)(ha:PSs X a t)(hb:PSs X b u):PS X (.If c a b pos) (IG tc t u):=by
 intro gV s σ H D I h;refine wpAny_If (thn (hc gV s σ H _ I h) fun d s1 hPP=>?_)
 obtain⟨H1,I1,q1⟩:=hPP;cases d with
 | true=>exact ha gV s1 σ H1 D I1 q1
 | false=>exact hb gV s1 σ H1 D I1 q1
end
abbrev TG:=V->St->Hp ->(St->Hp->Prop)->Prop
abbrev TGs:=List V->St->Hp ->(St->Hp->Prop)->Prop
def PG(X:Cx)(target:Expr)(t:TG):Prop :=
 ∀(gV:List (Addr×Obj))(s:Shared)(σ:St)(H:Hp)(v:V)(u:Value)(Q:St->Hp->Prop),Inv X gV σ H s->RelV v u->t v σ H Q ->
  wpAny (model X.prog X.w) X.A (assign target X.env u) (fun _ s'=>∃ σ' H',Inv X gV σ' H' s'/\Q σ' H') X.xe s
def PGs(X:Cx)(ts:List Expr)(t:TGs):Prop :=
 ∀(gV:List (Addr×Obj))(s:Shared)(σ:St)(H:Hp)(vs:List V)(us:List Value)(Q:St->Hp->Prop),Inv X gV σ H s->Vals vs us->t vs σ H Q ->
  wpAny (model X.prog X.w) X.A (assignInOrder ((assignEach ts X.env).map (·.2)) us) (fun _ s'=>∃ σ' H',Inv X gV σ' H' s'/\Q σ' H') X.xe s
abbrev ES:=V->V->V->Hp ->(Hp->Prop)->Prop
def Ii(X:Cx)(t:ES):Prop :=
 ∀(gV:List (Addr×Obj))(s:Shared)(σ:St)(H:Hp)(o i v:V)(ov iv u:Value)(Q:Hp->Prop),Inv X gV σ H s->RelV o ov->RelV i iv->RelV v u->t o i v H Q ->
  wpAny (model X.prog X.w) X.A (setItem ov iv u) (fun _ s'=>∃ H',Inv X gV σ H' s'/\Q H') X.xe s
variable{es:List Expr}{n:Nat}{o:Expr}{to:TE}{tg:Expr}{te:TE}{pos':Pos}{b:Expr}{py:Pos}
section
variable{pos:Pos}
def dO(i:Nat):TG:=fun v σ H Q=>Q (σ.set i (some v)) H
theorem jb{i:Nat}(hN:X.N.Nodup)(hi:X.N[i]? = some x)(hx:Loc X.env.scope x)(hf:X.fn x=true\/X.env.scope.names.lookup x=some .local:=by first|exact .inl rfl|exact .inr rfl|assumption):PG X (.Name x pos) (dO i):=by
 intro gV s σ H v u Q I r h;exact wpAny_assign_Name (fP I hN hi hx r (fun s' I'=>⟨_,H,I',h⟩) hf)
def HS:TGs:=fun vs σ H Q=>vs = []/\Q σ H
def wH(t:TG)(u:TGs):TGs:=fun vs σ H Q=>∃ v r,vs=v::r/\t v σ H fun σ' H'=>u r σ' H' Q
theorem i9:PGs X [] HS:=by
 intro gV s σ H vs us Q I r h;obtain⟨e,h⟩:=h;subst e;cases r;exact assignInOrder_nil ⟨σ,H,I,h⟩
theorem bB{t:TG}{u:TGs}(h1:PG X e t)(h2:PGs X es u)
  (hs:(assignEach (e::es) X.env).map (·.2)=assign e X.env ::(assignEach es X.env).map (·.2):=by rfl):PGs X (e::es) (wH t u):=by
 intro gV s σ H vs us Q I r h;obtain⟨v,vr,e1,h⟩:=h;subst e1;cases r with
 | cons r rr =>
  rw[hs];refine assignInOrder_cons (thn (h1 gV s σ H _ _ _ I r h) fun _ s1 hPP=>?_)
  obtain⟨σ1,H1,I1,q1⟩:=hPP;exact h2 gV s1 σ1 H1 _ _ Q I1 rr q1
def Ej(K:W.Frag)(n:Nat)(t:TGs):TG:=fun v σ H Q=>∃ a xs,v = .ref a/\SqT K H a xs/\xs.length=n/\t xs σ H Q
theorem G0{k:Nat}{t:TGs}(hc:X.calm=true)(h:PGs X es t)
  (hn:(assignEach es X.env).length=n:=by rfl) (hst:(assignEach es X.env).findIdx? (·.1)=none:=by rfl):PG X (.Tuple es k pos) (Ej X.K n t):=by
 intro gV s σ H v u Q I r hw;obtain⟨a,xs,e1,hq,hl,hw⟩:=hw;subst e1;cases r;obtain⟨its,rv,ht,hz⟩:=I.tuple hq;refine assign_Tuple_tuple (I.ok.hd hc) ht (by simp[hn,<- hl,rv.length]) hst fun h' hx=>?_
 have I1:Inv X gV σ H { s with heap:=h' }:=I.kept (t':=s.toks) fun b o e=>hx b o (Nat.ne_of_lt (Heap.lt_size e)) e
 exact h gV _ σ H xs _ Q I1 (by simpa using rv) hw
def uZ(to ti:TE)(t:ES):TG:=fun v σ H Q=>to σ H fun o H1=>ti σ H1 fun i H2=>t o i v H2 fun H3=>Q σ H3
theorem ug{i:Expr}{ti:TE}{t:ES}(ho:PE X o to)(hi:PE X i ti)(hs:Ii X t)
  (ha:∀ v,assign (.Subscript o i pos) X.env v =(do
   let ov <- holding [v] (eval o X.env)
   let iv <- holding [v,ov] (eval i X.env)
   standAt pos
   holding [v,ov,iv] (setItem ov iv v)
   release [v,ov,iv] []):=by intro _;rfl):PG X (.Subscript o i pos) (uZ to ti t):=by
 intro gV s σ H v u Q I r h;rw[ha];refine wpAny_bind (wpAny_holding (thn (ho gV s σ H _ I h) fun ov s1 hPP=>?_))
 obtain⟨x,H1,I1,r1,q1⟩:=hPP;refine wpAny_bind (wpAny_holding (thn (hi gV s1 σ H1 _ I1 q1) fun iv s2 hPP=>?_))
 obtain⟨y,H2,I2,r2,q2⟩:=hPP;refine wpAny_bind (wpAny_standAt (wpAny_bind (wpAny_holding (thn (hs gV s2 σ H2 x y v ov iv u _ I2 r1 r2 r q2) fun _ s3 hPP=>?_))))
 obtain⟨H3,I3,q3⟩:=hPP;exact wpAny_release ⟨σ,H3,I3,q3⟩
def e7(te:TE)(g:TG):TS:=fun D σ H=>te σ H fun x H1=>g x σ H1 D.nx
theorem lE{g:TG}(he:PE X e te)(hg:PG X tg g)(hs:swapsWithSole [tg] e pos.line X.env=pure false:=by rfl)(hw:swappedStores [tg] e X.env=pure none:=by rfl)
  (h1:(assignEach [tg] X.env).map (·.2) = [assign tg X.env]:=by rfl):PS X (.Assign [tg] e pos) (e7 te g):=by
 intro gV s σ H D I h;refine wpAny_Assign_stores (thn (he gV s σ H _ I h) fun v s1 hPP=>?_) hs hw
 obtain⟨x,H1,I1,r1,q1⟩:=hPP;rw[h1];exact thn (hg gV s1 σ H1 x v _ I1 r1 q1) fun _ s2 q=>q
theorem f6{i:Nat}(hN:X.N.Nodup)(hi:X.N[i]? = some x)(hx:Loc X.env.scope x)(he:PE X e te)(hs:swapsWith e (some (.Name x pos')) pos.line X.env=pure false:=by rfl)(hf:X.fn x=true\/X.env.scope.names.lookup x=some .local:=by first|exact .inl rfl|exact .inr rfl|assumption) :
  PS X (.Assign [.Name x pos'] e pos) (e7 te (dO i)):=by
 intro gV s σ H D I h;refine wpAny_Assign_Name (thn (he gV s σ H _ I h) fun v s1 hPP=>?_) hs
 obtain⟨y,H1,I1,r1,q1⟩:=hPP;exact fP I1 hN hi hx r1 (fun s2 I2=>⟨_,H1,I2,q1⟩) hf
def F9(i j:Nat)(ta:TA):TS:=fun D σ H=>ta σ H fun vs H1=>∃ v w,vs = [v,w]/\D.nx ((σ.set i (some v)).set j (some w)) H1
theorem GQ{i:Nat}{y:Str}{a:Expr}{ta:TA}{px pt:Pos}{kt k2 pt2}(hc:X.calm=true)(hN:X.N.Nodup)(hi:X.N[i]? = some x)(hj:X.N[j]? = some y)(hij:i≠j)
  (hx:X.env.scope.names.lookup x=some .local) (hy:X.env.scope.names.lookup y=some .local) (ha:PA X [a,b] ta)
  (hw:swappedStores [.Tuple [.Name x px,.Name y py] kt pt] (.Tuple [a,b] k2 pt2) X.env=pure (some [x,y]))
  (hs:swapsWithSole [.Tuple [.Name x px,.Name y py] kt pt] (.Tuple [a,b] k2 pt2) pos.line X.env=pure false:=by rfl) :
  PS X (.Assign [.Tuple [.Name x px,.Name y py] kt pt] (.Tuple [a,b] k2 pt2) pos) (F9 i j ta):=by
 intro gV s σ H D I h;rw[exec_Assign_arm];refine wpAny_bind (wpAny_standAt ?_);rw[hs];refine wpAny_bind (wpAny_pure ?_);rw[if_neg (by decide)]
 refine wpAny_bind (Tuple_ (thn (ha _ gV s σ H _ I h) fun us s1 hPP=>?_))
 obtain⟨vs,H1,I1,r1,q1⟩:=hPP;obtain⟨v,w,e1,q1⟩:=q1;subst e1;obtain⟨u1,u2,rfl,rv,rw'⟩:∃ u1 u2,us = [u1,u2]/\RelV v u1/\RelV w u2:=by
  cases r1 with
  | cons p q =>
   cases q with
   | cons p' q' =>
    cases q';exact⟨_,_,rfl,p,p'⟩
 refine wpAny_newObj_type ?_ (by show 2<=sizeLine;decide)
 have I2:Inv X gV σ H1 { s1 with heap:=s1.heap.push { cls:=.type "tuple",data:=.seq [u1,u2].toArray } }:=I1.kept (t':=s1.toks) fun b o e=>Heap.get?_push_of_some _ e
 rw[hw];refine wpAny_bind (wpAny_pure ?_);show wpAny (model X.prog X.w) X.A (do rule "assign.swapped-stores";let items <- unpackItems (.ref s1.heap.objs.size) 2 none;assignInOrder [fun v=>bindName X.env y v,fun v=>bindName X.env x v] items.reverse;pure Flow.next) _ _ _
 refine wpAny_bind (wpAny_rule (wpAny_bind (unpackItems_tuple (items:=#[u1,u2]) (I.ok.hd hc) (IsTup.new s1.heap _) fun h' hx'=>?_)))
 have I3:=I2.kept (h':=h') (t':=s1.toks) fun b o e=>hx' b o (Nat.ne_of_lt (Heap.lt_size e)) e
 show wpAny _ _ (assignInOrder [fun v=>bindName X.env y v,fun v=>bindName X.env x v] [u2,u1] >>= fun _=>pure Flow.next) _ _ _
 refine wpAny_bind (assignInOrder_cons (wpAny_bindName (fP I3 hN hj (.inl hy) rw' (fun s2 I4=>?_) (.inr hy))))
 refine assignInOrder_cons (wpAny_bindName (fP I4 hN hi (.inl hx) rv (fun s3 I5=>assignInOrder_nil (wpAny_pure ?_)) (.inr hx)))
 rw[List.set_comm _ _ (Ne.symm hij)]at I5;exact⟨_,H1,I5,q1⟩
end
variable{body:List Stmt}
section
variable{pos:Pos}
def sY(c:TT)(tb:TS):TS:=fun D σ H=>∃ W:Nat->St->Hp->Prop,(∃ m,W m σ H)/\∀ m σ H,W m σ H ->
 c σ H fun b H1=>if b=true then ∃ N:St->Hp->Prop,(∀ σ' H',N σ' H'->∃ m',m'<m/\W m' σ' H')/\tb { D with nx:=N,ct:=N,bk:=D.nx } σ H1 else D.nx σ H1
theorem rN{c:Expr}{tc:TT}{tb:TS}(hp:PassesOwn (model X.prog X.w) X.A X.env X.xe)(hc:PT X c tc)(hb:PSs X body tb):PS X (.While c body [] pos) (sY tc tb):=by
 intro gV s σ H D I h;obtain⟨W,⟨m0,w0⟩,turn⟩:=h;refine wpAny_While (codeAny_whileLoop (fun n s'=>∃ σ' H',Inv X gV σ' H' s'/\W n σ' H') ?_ m0 ⟨σ,H,I,w0⟩)
 rintro n s1 ⟨σ1,H1,I1,w1⟩
 refine wpAny_passesOwn hp (thn (hc gV s1 σ1 H1 _ I1 (turn n σ1 H1 w1)) fun b s2 hPP=>?_)
 obtain⟨H2,I2,q2⟩:=hPP;cases b with
 | true =>
  obtain⟨N,hN,q2⟩:=q2;rw[if_pos rfl];refine wpAny_passesOwn hp (thn (hb gV s2 σ1 H2 _ I2 q2) fun f s3 q3=>?_)
  cases f with
  | next =>
   obtain⟨σ3,H3,I3,n3⟩:=q3;obtain⟨m',hm,w3⟩:=hN σ3 H3 n3;exact⟨m',hm,σ3,H3,I3,w3⟩
  | cont =>
   obtain⟨σ3,H3,I3,n3⟩:=q3;obtain⟨m',hm,w3⟩:=hN σ3 H3 n3;exact⟨m',hm,σ3,H3,I3,w3⟩
  | brk=>exact q3
  | ret v=>exact q3
 | false =>
  rw[if_neg Bool.false_ne_true];exact wpAny_execs_nil ⟨σ1,H2,I2,q2⟩
end
structure It where
 go:Nat->Hp->Prop
 yld:Nat->Hp->V->Hp->Prop
 stop:Nat->Hp->Prop
def mJ(X:Cx)(gV:List (Addr×Obj))(H:Hp)(b:Addr):Prop :=
 H b=none/\b≠X.env.locals/\b ∉ X.fs/\(b∈X.ex\/X.s₀.heap.objs.size<=b)/\(∀ x c,X.env.cells.lookup x=some c->c≠b)/\∀ p∈X.pn++gV,p.1≠b
variable{H':Hp}
theorem Inv.Be{σ:St}{s:Shared}{b:Addr}(I:Inv X gV σ H s)(hb:s.heap.objs.size<=b)(hn:H' b=none):mJ X gV H' b:=by
 refine⟨hn,Nat.ne_of_gt (Nat.lt_of_lt_of_le I.lt hb),I.Ka hb,.inr (Nat.le_trans I.sz hb),fun x c e z=>?_,fun p hp z=>?_⟩
 ·obtain⟨v,q⟩:=I.cell x c e;exact absurd (Nat.lt_of_lt_of_le q.lt (by rw[z];exact hb)) (Nat.lt_irrefl _)
 ·exact absurd (Nat.lt_of_lt_of_le (Heap.lt_size (I.pin p hp).1) (by rw[z];exact hb)) (Nat.lt_irrefl _)
structure Turn(P:Program)(w:World)(K:W.Frag)(tg:Expr)(J:It)(fp:List Addr)(it:Addr)(tn:Nat->Heap->Prop):Prop where
 mem:it∈fp
 obj:∀ i h,tn i h->∀ b∈fp,∃ o,h.get? b=some o/\∀ v,o.data ≠ .cell v
 keep:∀ i h h',tn i h ->(∀ b∈fp,∀ o,h.get? b=some o->h'.get? b=some o)->tn i h'
 item:∀(X:Cx),X.prog=P->X.w=w->X.K=K->X.calm=true->∀(i:Nat)(gV:List (Addr×Obj))(s:Shared)(σ:St)(H:Hp)(E:Value->Shared->Prop),Inv X gV σ H s ->(∀ b∈fp,mJ X gV H b)->tn i s.heap->J.go i H ->
  wpAny (model P w) X.A (pyNext (.ref it)) (fun r s1=>∃ u,r=some u /\
   wpAny (model P w) X.A (letOwnedTupleGo tg (.ref it) u) (fun _ s2=>∃ x H',Inv X gV σ H' s2/\RelV x u/\J.yld i H x H'/\tn (i+1) s2.heap/\∀ b∈fp,H' b=none) E s1) E s
 done:∀(X:Cx),X.prog=P->X.w=w->X.K=K->X.calm=true->∀(i:Nat)(gV:List (Addr×Obj))(s:Shared)(σ:St)(H:Hp)(E:Value->Shared->Prop),Inv X gV σ H s ->(∀ b∈fp,mJ X gV H b)->tn i s.heap->J.stop i H ->
  wpAny (model P w) X.A (pyNext (.ref it)) (fun r s1=>r=none/\Inv X gV σ H s1) E s
 self:∀(A:Around)(i:Nat)(s:Shared)(Q:Value->Shared->Prop)(E:Value->Shared->Prop),tn i s.heap->Q (.ref it) s->wpAny (model P w) A (pyIter (.ref it)) Q E s
abbrev TI:=St->Hp ->(It->Hp->Prop)->Prop
def PIE(X:Cx)(gV:List (Addr×Obj))(σ:St)(tg:Expr)(R:It->Hp->Prop)(itv:Value)(s2:Shared):Prop :=
 ∃(it:Addr)(fp:List Addr)(tn:Nat->Heap->Prop)(J:It)(H':Hp),itv = .ref it/\Inv X gV σ H' s2/\Turn X.prog X.w X.K tg J fp it tn/\tn 0 s2.heap/\(∀ b∈fp,mJ X gV H' b)/\R J H'
def PI(X:Cx)(tg iter:Expr)(wi:TI):Prop :=
 ∀(gV:List (Addr×Obj))(s:Shared)(σ:St)(H:Hp)(R:It->Hp->Prop),Inv X gV σ H s->wi σ H R ->
  wpAny (model X.prog X.w) X.A (eval iter X.env) (fun v s1=>wpAny (model X.prog X.w) X.A (pyIter v) (PIE X gV σ tg R) X.xe s1) X.xe s
theorem Bd{s:Shared}{o:Obj}{n:String}{vs:Array Value}{Q:Unit->Shared->Prop}(ho:s.heap.get? it=some o)(hc:o.cls = .type n)(hd:o.data = .fields vs)
  (hn:["enumerate","zip","dict_itemiterator","dict_reverseitemiterator","odict_iterator","itertools.zip_longest","itertools.pairwise"].contains n=false) (hQ:Q () s):wpAny M A (letOwnedTupleGo tg (.ref it) u) Q E s:=by
 unfold letOwnedTupleGo;cases tg <;> first
  | exact wpAny_pure hQ
  | (cases u <;> first
    | exact wpAny_pure hQ
    | (refine wpAny_bind (wpAny_load ho ?_)
       rw[hc,hd];show wpAny M A (if(["enumerate","zip","dict_itemiterator","dict_reverseitemiterator","odict_iterator","itertools.zip_longest","itertools.pairwise"].contains n&&vs[0]? == some (rawInt _))=true then _ else _) Q E s
       rw[if_neg (by intro h;rw[hn,Bool.false_and]at h;cases h)]
       exact wpAny_pure hQ))
def Itl(K:W.Frag)(a:Addr):It :=
 ⟨fun i H=>∃ xs x,SqL K H a xs/\xs[i]? = some x,fun i H x H'=>H'=H/\∀ xs,SqL K H a xs->xs[i]? = some x,fun i H=>∃ xs,SqL K H a xs/\xs.length<=i⟩
def Itt(K:W.Frag)(a:Addr):It :=
 ⟨fun i H=>∃ xs x,SqT K H a xs/\xs[i]? = some x,fun i H x H'=>H'=H/\∀ xs,SqT K H a xs->xs[i]? = some x,fun i H=>∃ xs,SqT K H a xs/\xs.length<=i⟩
def Itr(lo:Int)(n:Nat):It:=⟨fun i _=>i<n,fun i H x H'=>H'=H/\x = .int (lo+i),fun i _=>n<=i⟩
theorem xB{w:World}{K:W.Frag}(a it:Addr):Turn P w K tg (Itl K a) [it] it (fun i h=>h.IsListIter it a i) where
 mem:=by simp
 obj:=fun i h st b hb=>by
  have e:b=it:=by simpa using hb
  subst e;obtain⟨o,e,c,d⟩:=st;exact⟨o,e,fun v z=>by rw[d]at z;cases z⟩
 keep:=fun i h h' st k=>st.at fun o e=>k it (by simp) o e
 item:=by
  intro X hP hw hK hc i gV s σ H E I hf st hg;subst hP hw hK;obtain⟨xs,x,hq,hx⟩:=hg;obtain⟨its,rv,p,hz⟩:=I.list hq;obtain⟨u,hu,ru⟩:=rv.get hx;obtain⟨f0,f1,f2,f3,f4,f5⟩:=hf it (by simp)
  refine wpAny_pyNext_list_item st p.isList (x:=u) (by simpa using hu) fun h' st' sb=>?_
  have I1:Inv X gV σ H { s with heap:=h' }:=I.turned (t':=s.toks) (fun b o hb e=>(sb.2 b hb).trans e) f0 f1 f3 f4 f5
  obtain⟨o,e,c,d⟩:=id st';exact⟨u,rfl,Bd (s:={ s with heap:=h' }) e c d (by decide) ⟨x,H,I1,ru,⟨rfl,fun ys hy=>by rw[I.sr hy hq];exact hx⟩,st',fun b hb=>(hf b hb).1⟩⟩
 done:=by
  intro X hP hw hK hc i gV s σ H E I hf st hg;subst hP hw hK;obtain⟨xs,hq,hx⟩:=hg;obtain⟨its,rv,p,hz⟩:=I.list hq;obtain⟨f0,f1,f2,f3,f4,f5⟩:=hf it (by simp)
  have hl:=rv.length;exact wpAny_pyNext_list_end (I.ok.hd hc) st p.isList (by simp;omega) fun h' eb=>⟨rfl,I.turned (t':=s.toks) (fun b o hb e=>eb b o hb e) f0 f1 f3 f4 f5⟩
 self:=fun _ _ _ _ _ st h=>wpAny_pyIter_listiter st h
theorem sW{w:World}{K:W.Frag}(a it:Addr):Turn P w K tg (Itt K a) [it] it (fun i h=>h.IsTupleIter it a i) where
 mem:=by simp
 obj:=fun i h st b hb=>by
  have e:b=it:=by simpa using hb
  subst e;obtain⟨o,e,c,d⟩:=st;exact⟨o,e,fun v z=>by rw[d]at z;cases z⟩
 keep:=fun i h h' st k=>st.at fun o e=>k it (by simp) o e
 item:=by
  intro X hP hw hK hc i gV s σ H E I hf st hg;subst hP hw hK;obtain⟨xs,x,hq,hx⟩:=hg;obtain⟨its,rv,p,hz⟩:=I.tuple hq;obtain⟨u,hu,ru⟩:=rv.get hx;obtain⟨f0,f1,f2,f3,f4,f5⟩:=hf it (by simp)
  refine wpAny_pyNext_tuple_item st (show s.heap.IsTuple a its.toArray from p) (x:=u) (by simpa using hu) fun h' st' sb=>?_
  have I1:Inv X gV σ H { s with heap:=h' }:=I.turned (t':=s.toks) (fun b o hb e=>(sb.2 b hb).trans e) f0 f1 f3 f4 f5
  obtain⟨o,e,c,d⟩:=id st';exact⟨u,rfl,Bd (s:={ s with heap:=h' }) e c d (by decide) ⟨x,H,I1,ru,⟨rfl,fun ys hy=>by rw[I.m9 hy hq];exact hx⟩,st',fun b hb=>(hf b hb).1⟩⟩
 done:=by
  intro X hP hw hK hc i gV s σ H E I hf st hg;subst hP hw hK;obtain⟨xs,hq,hx⟩:=hg;obtain⟨its,rv,p,hz⟩:=I.tuple hq;obtain⟨f0,f1,f2,f3,f4,f5⟩:=hf it (by simp)
  have hl:=rv.length;exact wpAny_pyNext_tuple_end (I.ok.hd hc) st (show s.heap.IsTuple a its.toArray from p) (by simp;omega) fun h' eb=>⟨rfl,I.turned (t':=s.toks) (fun b o hb e=>eb b o hb e) f0 f1 f3 f4 f5⟩
 self:=fun _ _ _ _ _ st h=>wpAny_pyIter_tupleiter st h
theorem sX{w:World}{K:W.Frag}(it:Addr)(lo:Int)(n:Nat):Turn P w K tg (Itr lo n) [it] it (fun i h=>IsRangeIter h it (lo+(i:Nat)*1) ((n:Int) - (i:Nat)) 1) where
 mem:=by simp
 obj:=fun i h st b hb=>by
  have e:b=it:=by simpa using hb
  subst e;exact⟨_,st,fun v z=>by
   have z':Data.fields _=Data.cell v:=z;cases z'⟩
 keep:=fun i h h' st k=>k it (by simp) _ st
 item:=by
  intro X hP hw hK hc i gV s σ H E I hf st hg;subst hP hw hK;obtain⟨f0,f1,f2,f3,f4,f5⟩:=hf it (by simp)
  have W:=Walks.range (prog:=X.prog) (w:=X.w) (I.ok.hd hc) it lo 1 n;refine W.item i s _ _ hg st fun v h' tk hv st' kk=>?_
  obtain⟨t,rfl⟩:=hv;have I1:Inv X gV σ H { s with heap:=h',toks:=tk }:=I.turned (fun b o hb e=>kk b o (by simpa using hb) e) f0 f1 f3 f4 f5
  refine⟨_,rfl,Bd (s:={ s with heap:=h',toks:=tk }) (n:="range_iterator") st' rfl rfl (by decide) ⟨.int (lo+i),H,I1,⟨t,?_⟩,⟨rfl,rfl⟩,st',fun b hb=>(hf b hb).1⟩⟩
  rw[Int.mul_one]
 done:=by
  intro X hP hw hK hc i gV s σ H E I hf st hg;subst hP hw hK;obtain⟨f0,f1,f2,f3,f4,f5⟩:=hf it (by simp)
  exact wpAny_pyNext_range_end (I.ok.hd hc) st (by have:n<=i:=hg;omega) fun h' eb=>⟨rfl,I.turned (t':=s.toks) (fun b o hb e=>eb b o hb e) f0 f1 f3 f4 f5⟩
 self:=fun _ _ _ _ _ st h=>wpAny_pyIter_rangeiter st h
variable{lo:Int}{fp:List Addr}{iter:Expr}
section
def nG(K:W.Frag)(tl:TE):TI:=fun σ H R=>tl σ H fun x H1=>∃ a,x = .ref a/\(∃ xs,SqL K H1 a xs)/\R (Itl K a) H1
def A4(K:W.Frag)(tl:TE):TI:=fun σ H R=>tl σ H fun x H1=>∃ a,x = .ref a/\(∃ xs,SqT K H1 a xs)/\R (Itt K a) H1
theorem kL{l:Expr}{tl:TE}(hl:PE X l tl):PI X tg l (nG X.K tl):=by
 intro gV s σ H R I h;refine thn (hl gV s σ H _ I h) fun v s1 hPP=>?_
 obtain⟨x,H1,I1,r1,q1⟩:=hPP;obtain⟨a,e,⟨xs,hq⟩,q⟩:=q1;subst e;cases r1;obtain⟨its,rv,p,hz⟩:=I1.list hq;refine wpAny_pyIter_list p.isList ?_;refine⟨s1.heap.objs.size,[s1.heap.objs.size],_,_,H1,rfl,I1.kept (t':=s1.toks) fun b o e=>Heap.get?_push_of_some _ e,xB a _,⟨_,Heap.get?_push_size _ rfl,rfl,rfl⟩,fun b hb=>?_,q⟩
 have e:b=s1.heap.objs.size:=by simpa using hb
 subst e;exact I1.Be (Nat.le_refl _) (I1.hok.fresh (Nat.le_refl _))
theorem GZ{l:Expr}{tl:TE}(hl:PE X l tl):PI X tg l (A4 X.K tl):=by
 intro gV s σ H R I h;refine thn (hl gV s σ H _ I h) fun v s1 hPP=>?_
 obtain⟨x,H1,I1,r1,q1⟩:=hPP;obtain⟨a,e,⟨xs,hq⟩,q⟩:=q1;subst e;cases r1;obtain⟨its,rv,p,hz⟩:=I1.tuple hq;refine wpAny_pyIter_tuple (show s1.heap.IsTuple a its.toArray from p) ?_;refine⟨s1.heap.objs.size,[s1.heap.objs.size],_,_,H1,rfl,I1.kept (t':=s1.toks) fun b o e=>Heap.get?_push_of_some _ e,sW a _,⟨_,Heap.get?_push_size _ rfl,rfl,rfl⟩,fun b hb=>?_,q⟩
 have e:b=s1.heap.objs.size:=by simpa using hb
 subst e;exact I1.Be (Nat.le_refl _) (I1.hok.fresh (Nat.le_refl _))
theorem zz{σ:St}{s:Shared}{R:It->Hp->Prop}{hi:Int}{t u v:Tok}{tk:Nat}(I:Inv X gV σ H s)(h1:-(2 ^ 62)<=lo)(h2:lo<2 ^ 62)(h3:-(2 ^ 62)<=hi)(h4:hi<2 ^ 62)
  (q:R (Itr lo (hi - lo).toNat) H):wpAny (model X.prog X.w) X.A (pyIter (.ref s.heap.objs.size)) (PIE X gV σ tg R) E { s with heap:=s.heap.push { cls:=.type "range",data:=.fields #[.int lo t,.int hi u,.int 1 v] },toks:=tk }:=by
 refine wpAny_pyIter_range (IsRange.new ..) (small_one h1 h2 h3 h4) ?_;have I1:Inv X gV σ H { s with heap:=s.heap.push { cls:=.type "range",data:=.fields #[.int lo t,.int hi u,.int 1 v] },toks:=tk }:=I.kept fun b o e=>Heap.get?_push_of_some _ e
 refine⟨(s.heap.push { cls:=.type "range",data:=.fields #[.int lo t,.int hi u,.int 1 v] }).objs.size,[(s.heap.push { cls:=.type "range",data:=.fields #[.int lo t,.int hi u,.int 1 v] }).objs.size],_,_,H,rfl,
  I1.kept (t':=tk) fun b o e=>Heap.get?_push_of_some _ e,sX _ lo (hi - lo).toNat,?_,fun b hb=>?_,q⟩
 ·have e1:lo+((0:Nat):Int)*1=lo:=by simp
  have e2:(((hi - lo).toNat:Nat):Int) - ((0:Nat):Int)=Builtin.Range.rangeSize lo hi 1:=by rw[rangeSize_one];split <;> omega
  show IsRangeIter _ _ (lo+((0:Nat):Int)*1) ((((hi - lo).toNat:Nat):Int) - ((0:Nat):Int)) 1;rw[e1,e2];exact Heap.get?_push_size _ rfl
 ·have e:b =(s.heap.push { cls:=.type "range",data:=.fields #[.int lo t,.int hi u,.int 1 v] }).objs.size:=by simpa using hb
  subst e;exact I1.Be (Nat.le_refl _) (I1.hok.fresh (Nat.le_refl _))
def A5(ta:TA):TI:=fun σ H R=>ta σ H fun vs H1=>∃ j:Int,vs = [.int j] /\ -(2 ^ 62)<=j/\j<2 ^ 62/\R (Itr 0 j.toNat) H1
theorem nt{a:Expr}{ta:TA}{p pos:Pos}(hg:Gl X "range")(hm:X.mg "range" = none)(ha:PA X [a] ta)(hs:starEach [a] X.env = [(false,eval a X.env)]:=by rfl):PI X tg (.Call (.Name "range" p) [a] [] pos) (A5 ta):=by
 intro gV s σ H R I h;refine Call_ (dZ I hg hm boot_range (PyProof.Rows.callWith_type1 (thn (ha pos gV s σ H _ I h) fun us s1 ⟨vs,H1,I1,r1,q1⟩=>?_) hs rfl))
 obtain⟨j,e,q1,q2,q⟩:=q1;subst e;cases r1 with
 | cons r rr =>
  cases rr;obtain⟨t,rfl⟩:=r;exact call_range_1 (zz I1 (by omega) (by omega) q1 q2 (by simpa using q))
def IH(wi:TI)(g:TG)(tb:TS):TS:=fun D σ H=>wi σ H fun J H1=>∃ W:Nat->Nat->St->Hp->Prop,(∃ m,W 0 m σ H1)/\∀ i m σ H,W i m σ H ->
 (J.stop i H/\D.nx σ H)\/(J.go i H/\∃ N:St->Hp->Prop,(∀ σ' H',N σ' H'->∃ m',m'<m/\W (i+1) m' σ' H')/\∀ x H',J.yld i H x H'->g x σ H' fun σ2 H2=>tb { D with nx:=N,ct:=N,bk:=D.nx } σ2 H2)
def lH(fp:List Addr)(h:Heap):List (Addr×Obj):=fp.filterMap fun b=>(h.get? b).map fun o=>(b,o)
theorem dy{h:Heap}{b:Addr}{o:Obj}(hb:b∈fp)(e:h.get? b=some o):(b,o)∈lH fp h:=List.mem_filterMap.mpr ⟨b,hb,by rw[e];rfl⟩
theorem x9{h:Heap}{p:Addr×Obj}(hp:p∈lH fp h):p.1∈fp/\h.get? p.1=some p.2:=by
 obtain⟨b,hb,e⟩:=List.mem_filterMap.mp hp;cases q:h.get? b with
 | none=>rw[q]at e;cases e
 | some o =>
  rw[q]at e;have e':(b,o)=p:=Option.some.inj e;subst e';exact⟨hb,q⟩
theorem Inv.pinned{σ:St}{s:Shared}(I:Inv X gV σ H s)(hf:∀ b∈fp,mJ X gV H b)(ho:∀ b∈fp,∃ o,s.heap.get? b=some o/\∀ v,o.data ≠ .cell v):Inv X (gV++lH fp s.heap) σ H s :=
 I.i6 fun p hp=>(List.mem_append.mp hp).elim (fun z=>I.pin p (List.mem_append_right _ z)) fun z=>by
  obtain⟨hb,e⟩:=x9 z;obtain⟨f0,f1,f2,_⟩:=hf p.1 hb;obtain⟨o,e',d⟩:=ho p.1 hb;rw[e]at e';cases e';exact⟨e,f0,f1,f2,d⟩
theorem Inv.iW{pl:List (Addr×Obj)}{σ:St}{s:Shared}(I:Inv X (gV++pl) σ H s):Inv X gV σ H s:=I.i6 fun p hp=>I.pin p (List.mem_append_right _ (List.mem_append_left _ hp))
theorem Ai{wi:TI}{g:TG}{tb:TS}{pos:Pos}(hp:PassesOwn (model X.prog X.w) X.A X.env X.xe)(hc:X.calm=true)(hi:PI X tg iter wi)(hg:PG X tg g)(hb:PSs X body tb)
  (hs:∀ x,foldedSetIterable iter X.env x=pure x:=by intro _;rfl):PS X (.For tg iter body [] pos) (IH wi g tb):=by
 intro gV s σ H D I h;refine wpAny_For (thn (hi gV s σ H _ I h) fun v s1 h1=>thn h1 fun itv s2 h2=>?_) hs
 obtain⟨it,fp,tn,J,H2,e,I2,T,st2,f2,W,⟨m0,w0⟩,turn⟩:=h2;subst e;have Ge:∀{H':Hp},(∀ b∈fp,H' b=none)->∀ b∈fp,mJ X gV H' b:=fun hn b hb=>⟨hn b hb,(f2 b hb).2⟩
 refine codeAny_forLoop_any (fun n s'=>∃ i σ' H',Inv X gV σ' H' s'/\tn i s'.heap/\(∀ b∈fp,H' b=none)/\W i n σ' H') ?_ m0 ⟨0,σ,H2,I2,st2,fun b hb=>(f2 b hb).1,w0⟩
 rintro n s3 ⟨i,σ3,H3,I3,st3,fr3,w3⟩
 rcases turn i n σ3 H3 w3 with⟨stop,qn⟩ |⟨go,N,hN,step⟩
 ·refine wpAny_passesOwn hp (thn (T.done X rfl rfl rfl hc i gV s3 σ3 H3 X.xe I3 (Ge fr3) st3 stop) fun r s4 hPP=>?_)
  obtain⟨hr,I4⟩:=hPP;subst hr;exact wpAny_execs_nil ⟨σ3,H3,I4,qn⟩
 ·refine wpAny_passesOwn hp (thn (T.item X rfl rfl rfl hc i gV s3 σ3 H3 X.xe I3 (Ge fr3) st3 go) fun r s4 hPP=>?_)
  obtain⟨u,hr,h4⟩:=hPP;subst hr;refine wpAny_passesOwn hp (thn h4 fun _ s5 hPP=>?_)
  obtain⟨x,H5,I5,r5,y5,st5,fr5⟩:=hPP;have I5':=I5.pinned (Ge fr5) (T.obj _ _ st5);refine wpAny_passesOwn hp (thn (hg _ s5 σ3 H5 x u _ I5' r5 (step x H5 y5)) fun _ s6 hPP=>?_)
  obtain⟨σ6,H6,I6,q6⟩:=hPP;refine wpAny_passesOwn hp (thn (hb _ s6 σ6 H6 _ I6 q6) fun f s7 q7=>?_)
  have again:∀{σ7:St}{H7:Hp},Inv X (gV++lH fp s5.heap) σ7 H7 s7->N σ7 H7->∃ m,m<n/\∃ i σ' H',Inv X gV σ' H' s7/\tn i s7.heap/\(∀ b∈fp,H' b=none)/\W i m σ' H':=fun{σ7 H7} I7 n7=>by
   obtain⟨m',hm,w7⟩:=hN σ7 H7 n7;refine⟨m',hm,i+1,σ7,H7,I7.iW,T.keep _ _ _ st5 fun b hb o e=>(I7.pin (b,o) (List.mem_append_right _ (List.mem_append_right _ (dy hb e)))).1,fun b hb=>?_,w7⟩
   obtain⟨o,e,d⟩:=T.obj _ _ st5 b hb;exact(I7.pin (b,o) (List.mem_append_right _ (List.mem_append_right _ (dy hb e)))).2.1
  cases f with
  | next=>obtain⟨σ7,H7,I7,n7⟩:=q7;exact again I7 n7
  | cont=>obtain⟨σ7,H7,I7,n7⟩:=q7;exact again I7 n7
  | brk=>obtain⟨σ7,H7,I7,q7⟩:=q7;exact⟨σ7,H7,I7.iW,q7⟩
  | ret v=>obtain⟨x7,σ7,H7,I7,r7,q7⟩:=q7;exact⟨x7,σ7,H7,I7.iW,r7,q7⟩
end
variable{D:Ends}
theorem Bf{K:W.Frag}{xs:List V}{g:TG}{tb:TS}{σ:St}(Pv:Nat->St->Hp->Prop)(h0:Pv 0 σ H)(hl:∀ i σ H,i<=xs.length->Pv i σ H->SqL K H a xs)
  (hs:∀ i x σ H,xs[i]? = some x->Pv i σ H->g x σ H fun σ2 H2=>tb { D with nx:=Pv (i+1),ct:=Pv (i+1),bk:=D.nx } σ2 H2) (hd:∀ σ H,Pv xs.length σ H->D.nx σ H) :
  ∃ W:Nat->Nat->St->Hp->Prop,(∃ m,W 0 m σ H)/\∀ i m σ H,W i m σ H ->
   ((Itl K a).stop i H/\D.nx σ H)\/((Itl K a).go i H/\∃ N:St->Hp->Prop,(∀ σ' H',N σ' H'->∃ m',m'<m/\W (i+1) m' σ' H')/\∀ x H',(Itl K a).yld i H x H'->g x σ H' fun σ2 H2=>tb { D with nx:=N,ct:=N,bk:=D.nx } σ2 H2):=by
 refine⟨fun i m σ H=>m=xs.length - i/\i<=xs.length/\Pv i σ H,⟨xs.length,by simp,Nat.zero_le _,h0⟩,?_⟩
 rintro i m σ H ⟨rfl,hi,p⟩
 have q:=hl i σ H hi p;by_cases hlt:i<xs.length
 ·refine .inr ⟨⟨xs,xs[i],q,by simp[hlt]⟩,Pv (i+1),fun σ' H' p'=>⟨xs.length - (i+1),by omega,rfl,hlt,p'⟩,fun x H' y=>?_⟩
  obtain⟨e,y⟩:=y;subst e;exact hs i x σ _ (y xs q) p
 ·have e:i=xs.length:=by omega
  subst e;exact .inl ⟨⟨xs,q,Nat.le_refl _⟩,hd σ H p⟩
abbrev R2:=V->V->Hp->VK->Prop
def OpR(X:Cx)(f:Value->Value->Sem Value)(r:R2):Prop :=
 ∀(gV:List (Addr×Obj))(s:Shared)(σ:St)(H:Hp)(x y:V)(v u:Value)(Q:VK),Inv X gV σ H s->RelV x v->RelV y u->r x y H Q ->
  wpAny (model X.prog X.w) X.A (f v u) (EP X gV σ Q) X.xe s
def UnR(X:Cx)(f:Value->Sem Value)(r:V->Hp->VK->Prop):Prop :=
 ∀(gV:List (Addr×Obj))(s:Shared)(σ:St)(H:Hp)(x:V)(v:Value)(Q:VK),Inv X gV σ H s->RelV x v->r x H Q ->
  wpAny (model X.prog X.w) X.A (f v) (EP X gV σ Q) X.xe s
def bW(X:Cx)(f:Value)(r:List V->Hp->VK->Prop):Prop :=
 ∀(gV:List (Addr×Obj))(s:Shared)(σ:St)(H:Hp)(xs:List V)(us:List Value)(Q:VK),Inv X gV σ H s->Vals xs us->r xs H Q ->
  wpAny (model X.prog X.w) X.A (call f us) (EP X gV σ Q) X.xe s
def NO(X:Cx)(r:V->Hp ->(Bool->Hp->Prop)->Prop):Prop :=
 ∀(gV:List (Addr×Obj))(s:Shared)(σ:St)(H:Hp)(x:V)(v:Value)(Q:Bool->Hp->Prop),Inv X gV σ H s->RelV x v->r x H Q ->
  wpAny (model X.prog X.w) X.A (truthy v) (TP X gV σ Q) X.xe s
def tOp(r:R2)(ta tb:TE):TE:=fun σ H Q=>ta σ H fun x H1=>tb σ H1 fun y H2=>r x y H2 Q
def tUn(r:V->Hp->VK->Prop)(ta:TE):TE:=fun σ H Q=>ta σ H fun x H1=>r x H1 Q
def rI(C:Int->Int->Prop)(g:Int->Int->V):R2:=fun x y H Q=>∃ i j,x = .int i/\y = .int j/\C i j/\Q (g i j) H
def rI0(g:Int->Int->V):R2:=fun x y H Q=>∃ i j,x = .int i/\y = .int j/\Q (g i j) H
def rU(g:Int->V):V->Hp->VK->Prop:=fun x H Q=>∃ i,x = .int i/\Q (g i) H
section
variable{a c:Expr}{ta tb tc:TE}{pos:Pos}
theorem Ib(ha:PE X a ta)(hb:PE X b tb){s:Shared}{σ:St}{R:V->V->Hp->Prop}(I:Inv X gV σ H s)
  (h:ta σ H fun x H1=>tb σ H1 fun y H2=>R x y H2) {Q:Value->Shared->Prop} {f:Value->Value->Sem Value}
  (hf:∀ v u s2 x y H2,Inv X gV σ H2 s2->RelV x v->RelV y u->R x y H2->wpAny (model X.prog X.w) X.A (f v u) Q X.xe s2) :
  wpAny (model X.prog X.w) X.A (eval a X.env) (fun v s₁=>wpAny (model X.prog X.w) X.A (eval b X.env) (fun u s₂=>wpAny (model X.prog X.w) X.A (f v u) Q X.xe s₂) X.xe s₁) X.xe s:=by
 refine thn (ha gV s σ H _ I h) fun v s1 hPP=>?_
 obtain⟨x,H1,I1,r1,q1⟩:=hPP;refine thn (hb gV s1 σ H1 _ I1 q1) fun u s2 hPP=>?_
 obtain⟨y,H2,I2,r2,q2⟩:=hPP;exact hf v u s2 x y H2 I2 r1 r2 q2
theorem bV{op:Operator}{r:R2}(ho:OpR X (binaryOp op) r)(ha:PE X a ta)(hb:PE X b tb):PE X (.BinOp a op b pos) (tOp r ta tb):=by
 intro gV s σ H Q I h;exact wpAny_BinOp (Ib ha hb I h fun v u s2 x y H2 I2 rx ry q=>ho gV s2 σ H2 x y v u Q I2 rx ry q)
theorem JO{op:UnaryOp}{r:V->Hp->VK->Prop}(ho:UnR X (unaryOp op) r)(ha:PE X a ta):PE X (.UnaryOp op a pos) (tUn r ta):=by
 intro gV s σ H Q I h;exact UnaryOp_ (thn (ha gV s σ H _ I h) fun v s1 ⟨x,H1,I1,r1,q1⟩=>ho gV s1 σ H1 x v Q I1 r1 q1)
theorem opI{f:Value->Value->Sem Value}{C:Int->Int->Prop}{g:Int->Int->Int}
  (rule:∀(i j:Int)(t u:Tok)(s:Shared)(Q:Value->Shared->Prop)(E:Value->Shared->Prop),C i j->Q (.int (g i j) s.toks) { s with toks:=s.toks+1 }->wpAny (model X.prog X.w) X.A (f (.int i t) (.int j u)) Q E s) :
  OpR X f (rI C fun i j=>.int (g i j)):=by
 intro gV s σ H x y v u Q I rx ry h;obtain⟨i,j,rfl,rfl,hc,q⟩:=h;obtain⟨t,rfl⟩:=rx;obtain⟨t',rfl⟩:=ry;exact rule i j t t' s _ _ hc ⟨.int (g i j),H,I.tok _,⟨_,rfl⟩,q⟩
theorem JS{f:Value->Value->Sem Value}{g:Int->Int->Int}
  (rule:∀(i j:Int)(t u:Tok)(s:Shared)(Q:Value->Shared->Prop)(E:Value->Shared->Prop),Q (.int (g i j) s.toks) { s with toks:=s.toks+1 }->wpAny (model X.prog X.w) X.A (f (.int i t) (.int j u)) Q E s) :
  OpR X f (rI0 fun i j=>.int (g i j)):=by
 intro gV s σ H x y v u Q I rx ry h;obtain⟨i,j,rfl,rfl,q⟩:=h;obtain⟨t,rfl⟩:=rx;obtain⟨t',rfl⟩:=ry;exact rule i j t t' s _ _ ⟨.int (g i j),H,I.tok _,⟨_,rfl⟩,q⟩
theorem Hc{f:Value->Value->Sem Value}{g:Int->Int->Bool}
  (rule:∀(i j:Int)(t u:Tok)(s:Shared)(Q:Value->Shared->Prop)(E:Value->Shared->Prop),Q (.bool (g i j)) s->wpAny (model X.prog X.w) X.A (f (.int i t) (.int j u)) Q E s) :
  OpR X f (rI0 fun i j=>.bl (g i j)):=by
 intro gV s σ H x y v u Q I rx ry h;obtain⟨i,j,rfl,rfl,q⟩:=h;obtain⟨t,rfl⟩:=rx;obtain⟨t',rfl⟩:=ry;exact rule i j t t' s _ _ ⟨.bl (g i j),H,I,rfl,q⟩
def NU(i j:Int):Prop:=0<=j/\j<=1000000/\i.natAbs<2 ^ 64
def B6(i j:Int):Prop:=(-(2 ^ 64)<i/\i<2 ^ 64)\/(-(2 ^ 64)<j/\j<2 ^ 64)
theorem B6.ok{i j:Int}(h:B6 i j):IntMulOk i j:=by
 rcases h with⟨h1,h2⟩ |⟨h1,h2⟩
 ·exact .of_left (intBits_le_64 h1 h2)
 ·exact .of_right (intBits_le_64 h1 h2)
theorem jG:OpR X (binaryOp .Add) (rI0 fun i j=>.int (i+j)):=JS fun _ _ _ _ _ _ _ q=>add_int q
theorem uo:OpR X (binaryOp .Sub) (rI0 fun i j=>.int (i - j)):=JS fun _ _ _ _ _ _ _ q=>sub_int q
theorem iu:OpR X (binaryOp .Mult) (rI B6 fun i j=>.int (i*j)):=opI fun _ _ _ _ _ _ _ hc q=>mul_int q hc.ok
theorem fk:OpR X (binaryOp .Mod) (rI (fun _ j=>0<j) fun i j=>.int (i % j)):=opI fun i j _ _ _ _ _ hc q=>by
 have h1:(0:Int)<j:=hc;exact mod_int' (by omega) (by rw[Int.fmod_eq_emod_of_nonneg i (by omega)];exact q)
theorem G7:OpR X (binaryOp .Pow) (rI NU fun i j=>.int (i ^ j.toNat)):=opI fun _ _ _ _ _ _ _ hc q=>pow_int_small hc.1 hc.2.1 hc.2.2 q
theorem unI{f:Value->Sem Value}{g:Int->Int}
  (rule:∀(i:Int)(t:Tok)(s:Shared)(Q:Value->Shared->Prop)(E:Value->Shared->Prop),Q (.int (g i) s.toks) { s with toks:=s.toks+1 }->wpAny (model X.prog X.w) X.A (f (.int i t)) Q E s) :
  UnR X f (rU fun i=>.int (g i)):=by
 intro gV s σ H x v Q I rx h;obtain⟨i,rfl,q⟩:=h;obtain⟨t,rfl⟩:=rx;exact rule i t s _ _ ⟨.int (g i),H,I.tok _,⟨_,rfl⟩,q⟩
theorem F5:UnR X (unaryOp .USub) (rU fun i=>.int (-i)):=unI fun _ _ _ _ _ q=>neg_int q
end
def IW:V->V->Bool
 | .non,.non=>true | .non,.int _=>true | .int _,.non=>true | .non,.bl _=>true | .bl _,.non=>true | .non,.str _=>true | .str _,.non=>true
 | .int _,.int _=>true | .bl _,.bl _=>true | .str _,.str _=>true | .byt _,.byt _=>true
 | .int _,.str _=>true | .str _,.int _=>true | .bl _,.str _=>true | .str _,.bl _=>true
 | _,_=>false
def rEq:R2:=fun x y H Q=>IW x y=true/\Q (.bl (decide (x=y))) H
theorem Ep{i j:Int}:decide (V.int i=V.int j) =(i==j):=by
 rw[Bool.eq_iff_iff];simp
theorem HU{i j:Bool}:decide (V.bl i=V.bl j) =(i==j):=by
 rw[Bool.eq_iff_iff];simp
theorem Eo{i j:Str}:decide (V.str i=V.str j) =(i==j):=by
 rw[Bool.eq_iff_iff];simp
theorem Er{i j:Array UInt8}:decide (V.byt i=V.byt j) =(i.toList==j.toList):=by
 rw[Bool.eq_iff_iff];cases i;cases j;simp
variable{op:CmpOp}{its:List Value}{us:List Value}{y:V}
section
variable{a c:Expr}{ta tb tc:TE}{pos:Pos}
theorem bT{σ:St}{s:Shared}{Q:VK}{k k':Bool}(I:Inv X gV σ H s)(q:Q (.bl k) H)(e:k=k'):EP X gV σ Q (.bool k') s:=by
 subst e;exact⟨.bl k,H,I,rfl,q⟩
theorem Fo:OpR X (compareOp .Eq) rEq:=by
 intro gV s σ H x y v u Q I rx ry h;obtain⟨hs,q⟩:=h;cases x with
 | non =>
  cases rx;cases y with
  | non=>cases ry;exact PySem.EqNone.eq_none_none (bT I q (by simp))
  | bl j=>cases ry;exact PySem.EqNone.eq_none_bool (bT I q (by simp))
  | int j=>obtain⟨t',rfl⟩:=ry;exact PySem.EqNone.eq_none_int (bT I q (by simp))
  | str j=>obtain⟨t',rfl⟩:=ry;exact PySem.EqNone.eq_none_str (bT I q (by simp))
  | _=>exact absurd (show false=true from hs) Bool.false_ne_true
 | bl i =>
  cases rx;cases y with
  | non=>cases ry;exact PySem.EqNone.eq_bool_none (bT I q (by simp))
  | bl j=>cases ry;exact eq_bool (bT I q HU)
  | str j=>obtain⟨t',rfl⟩:=ry;exact PySem.EqMixed.eq_bool_str (bT I q (by simp))
  | _=>exact absurd (show false=true from hs) Bool.false_ne_true
 | int i =>
  obtain⟨t,rfl⟩:=rx;cases y with
  | non=>cases ry;exact PySem.EqNone.eq_int_none (bT I q (by simp))
  | int j=>obtain⟨t',rfl⟩:=ry;exact eq_int (bT I q Ep)
  | str j=>obtain⟨t',rfl⟩:=ry;exact PySem.EqMixed.eq_int_str (bT I q (by simp))
  | _=>exact absurd (show false=true from hs) Bool.false_ne_true
 | str i =>
  obtain⟨t,rfl⟩:=rx;cases y with
  | non=>cases ry;exact PySem.EqNone.eq_str_none (bT I q (by simp))
  | bl j=>cases ry;exact PySem.EqMixed.eq_str_bool (bT I q (by simp))
  | int j=>obtain⟨t',rfl⟩:=ry;exact PySem.EqMixed.eq_str_int (bT I q (by simp))
  | str j=>obtain⟨t',rfl⟩:=ry;exact eq_str (bT I q Eo)
  | _=>exact absurd (show false=true from hs) Bool.false_ne_true
 | byt i =>
  obtain⟨t,rfl⟩:=rx;cases y with
  | byt j=>obtain⟨t',rfl⟩:=ry;exact W.eq_bytes (bT I q Er)
  | _=>exact absurd (show false=true from hs) Bool.false_ne_true
 | _=>cases y <;> exact absurd (show false=true from hs) Bool.false_ne_true
theorem JQ:OpR X (compareOp .Lt) (rI0 fun i j=>.bl (decide (i<j))):=Hc fun _ _ _ _ _ _ _ q=>lt_int q
theorem wm:OpR X (compareOp .Gt) (rI0 fun i j=>.bl (decide (j<i))):=Hc fun _ _ _ _ _ _ _ q=>gt_int q
theorem JR:OpR X (compareOp .GtE) (rI0 fun i j=>.bl (decide (j<=i))):=Hc fun _ _ _ _ _ _ _ q=>ge_int q
theorem x5:OpR X (compareOp .In) (fun x y H Q=>∃ i j,x = .str i/\y = .str j/\Q (.bl (!(Builtin.Str.occurrences j i 0 j.length 1).isEmpty)) H):=by
 intro gV s σ H x y v u Q I rx ry h;obtain⟨i,j,rfl,rfl,q⟩:=h;obtain⟨t,rfl⟩:=rx;obtain⟨t',rfl⟩:=ry;exact in_str (bT I q rfl)
theorem As:OpR X (compareOp .Is) (fun x y H Q=>y = .non/\Q (.bl (decide (x = .non))) H):=by
 intro gV s σ H x y v u Q I rx ry h;obtain⟨rfl,q⟩:=h;cases ry;refine is_none_gen (bT I q ?_);cases x <;> first
  | (cases rx;rfl)
  | (obtain⟨t,rfl⟩:=rx;rfl)
theorem kN:OpR X (compareOp .IsNot) (fun x y H Q=>y = .non/\Q (.bl (!decide (x = .non))) H):=by
 intro gV s σ H x y v u Q I rx ry h;obtain⟨rfl,q⟩:=h;cases ry;refine isnot_none_gen (bT I q ?_);cases x <;> first
  | (cases rx;rfl)
  | (obtain⟨t,rfl⟩:=rx;rfl)
theorem pA:OpR X (compareOp .NotIn) (fun x y H Q=>∃ i j,x = .str i/\y = .str j/\Q (.bl (!(!(Builtin.Str.occurrences j i 0 j.length 1).isEmpty))) H):=by
 intro gV s σ H x y v u Q I rx ry h;obtain⟨i,j,rfl,rfl,q⟩:=h;obtain⟨t,rfl⟩:=rx;obtain⟨t',rfl⟩:=ry;exact notIn_str (bT I q rfl)
theorem OpR.or{f:Value->Value->Sem Value}{r r':R2}(h:OpR X f r)(h':OpR X f r'):OpR X f (fun x y H Q=>r x y H Q\/r' x y H Q):=by
 intro gV s σ H x y v u Q I rx ry q;rcases q with q|q
 ·exact h gV s σ H x y v u Q I rx ry q
 ·exact h' gV s σ H x y v u Q I rx ry q
theorem bj(b:Expr)(h:op ≠ .In:=by decide)(h2:op ≠ .NotIn:=by decide):behindInMarks op b=false:=by
 have e1:(op==CmpOp.In)=false:=by cases op <;> first|rfl|exact absurd rfl h
 have e2:(op==CmpOp.NotIn)=false:=by cases op <;> first|rfl|exact absurd rfl h2
 cases b <;> simp[behindInMarks,e1,e2]
theorem DA{r:R2}(ho:OpR X (compareOp op) r)(ha:PE X a ta)(hb:PE X b tb)(hm:behindInMarks op b=false):PE X (.Compare a [op] [b] pos) (tOp r ta tb):=by
 intro gV s σ H Q I h;exact wpAny_Compare1 (Ib ha hb I h fun v u s2 x y H2 I2 rx ry q=>ho gV s2 σ H2 x y v u Q I2 rx ry q) hm
def vH(t:TE):TT:=fun σ H Q=>t σ H fun x H'=>∃ k,x = .bl k/\Q k H'
theorem i4{r:R2}(ho:OpR X (compareOp op) r)(ha:PE X a ta)(hb:PE X b tb)(hm:behindInMarks op b=false):PT X (.Compare a [op] [b] pos) (vH (tOp r ta tb)):=by
 intro gV s σ H Q I h;refine wpAny_isTrue_Compare1 (thn (ha gV s σ H _ I h) fun v s1 ⟨x,H1,I1,r1,q1⟩=>thn (hb gV s1 σ H1 _ I1 q1) fun u s2 ⟨y,H2,I2,r2,q2⟩ =>
  thn (ho gV s2 σ H2 x y v u _ I2 r1 r2 q2) fun c s3 ⟨z,H3,I3,r3,k,e,q3⟩=>?_) hm
 subst e;cases r3;exact wpAny_truthy_bool ⟨H3,I3,q3⟩
def ER(K:W.Frag)(x:V)(H:Hp)(k:Bool):Prop :=
 match x with
 | .non=>k=false
 | .bl b=>k=b
 | .int i=>k =(i != 0)
 | .str y=>y.length<=sizeLine/\k =((y.length:Int) != 0)
 | .byt y=>y.size<=sizeLine/\k =((y.size:Int) != 0)
 | .ref p=>(∃ xs,SqL K H p xs/\k = !xs.isEmpty)\/(∃ xs,SqT K H p xs/\k = !xs.isEmpty)\/∃ kvs,H p=some (.dK kvs)/\k = !kvs.isEmpty
 | _=>False
theorem uS{κ:Type}{kvs:List (κ×V)}{vs:List (κ×Value)}(r:KV kvs vs):(!vs.isEmpty) = !kvs.isEmpty:=by
 cases r <;> rfl
theorem l6{xs:List V}(r:Vals xs its):(!its.toArray.isEmpty) = !xs.isEmpty:=by
 cases r <;> simp
theorem fu:(sizeLine:Nat)<2 ^ 63:=by rw[sizeLine_eq];decide
theorem F7:NO X (fun x H Q=>∃ k,ER X.K x H k/\Q k H):=by
 intro gV s σ H x v Q I rx h;obtain⟨k,e,q⟩:=h;have hl:=fu;have hs:sizeLine=16777216:=sizeLine_eq;cases x with
 | non =>
  cases rx;have e':k=false:=e;subst e';exact truthy_none ⟨H,I,q⟩
 | bl b =>
  cases rx;have e':k=b:=e;subst e';exact wpAny_truthy_bool ⟨H,I,q⟩
 | int i =>
  obtain⟨t,rfl⟩:=rx;have e':k =(i != 0):=e;subst e';exact PySem.P.truthy_int ⟨H,I,q⟩
 | str y =>
  obtain⟨t,rfl⟩:=rx;obtain⟨hy,e'⟩:y.length<=sizeLine/\k =((y.length:Int) != 0):=e;subst e';exact PySem.P.truthy_str (by omega) ⟨H,I.tok _,q⟩
 | byt y =>
  obtain⟨t,rfl⟩:=rx;obtain⟨hy,e'⟩:y.size<=sizeLine/\k =((y.size:Int) != 0):=e;subst e';exact W.truthy_bytes (by omega) ⟨H,I.tok _,q⟩
 | ref p =>
  cases rx;have e':(∃ xs,SqL X.K H p xs/\k = !xs.isEmpty)\/(∃ xs,SqT X.K H p xs/\k = !xs.isEmpty)\/∃ kvs,H p=some (.dK kvs)/\k = !kvs.isEmpty:=e
  rcases e' with⟨xs,hx,e'⟩ |⟨xs,hx,e'⟩ |⟨kvs,hx,e'⟩
  ·subst e';obtain⟨its,r,pl,hz⟩:=I.list hx;have hlen:=r.length;exact wpAny_truthy_list pl.isList (by simp only[List.size_toArray];omega) ⟨H,I.tok _,by rw[l6 r];exact q⟩
  ·subst e';obtain⟨its,r,pl,hz⟩:=I.tuple hx;have hlen:=r.length;exact truthy_tuple pl (by simp only[List.size_toArray];omega) ⟨H,I.tok _,by rw[l6 r];exact q⟩
  ·subst e';obtain⟨hz,hS,vs,r,m⟩:kvs.length<=sizeLine/\(p==sysModules)=false/\∃ vs,KV kvs vs/\s.heap.DictOf (aY X.prog X.w) p vs:=I.hok p _ hx
   have hlen:kvs.length=vs.length:=Paired.length r;exact wpAny_truthy_dict hS m (by omega) ⟨H,I.tok _,by rw[uS r];exact q⟩
 | _=>exact(show False from e).elim
theorem Ah(ha:PE X a ta)(he:∀ whole,isTrue a X.env whole =(do let v <- whole;standAt a.pos;holding [v] (truthy v))) :
  PT X a (fun σ H Q=>ta σ H fun x H'=>∃ k,ER X.K x H' k/\Q k H'):=by
 intro gV s σ H Q I h;exact isTrue_plain (thn (ha gV s σ H _ I h) fun v s1 ⟨x,H1,I1,r1,q1⟩=>F7 gV s1 σ H1 x v Q I1 r1 q1) (he _)
theorem uv:OpR X (binaryOp .Add) (fun x y H Q=>∃ i j,x = .str i/\y = .str j/\i.length+j.length<=sizeLine/\Q (.str (i++j)) H):=by
 intro gV s σ H x y v u Q I rx ry h;obtain⟨i,j,rfl,rfl,hz,q⟩:=h;obtain⟨t,rfl⟩:=rx;obtain⟨t',rfl⟩:=ry;exact add_str (fun t' tk=>⟨.str (i++j),H,I.tok _,⟨_,rfl⟩,q⟩) hz
theorem vals1{x:V}(r:Vals [x] us):∃ u,us = [u]/\RelV x u:=by
 cases r with
 | cons r1 r2=>cases r2;exact⟨_,rfl,r1⟩
theorem vals2{x:V}(r:Vals [x,y] us):∃ u w',us = [u,w']/\RelV x u/\RelV y w':=by
 cases r with
 | cons r1 r2 =>
  cases r2 with
  | cons r3 r4=>cases r4;exact⟨_,_,rfl,r1,r3⟩
theorem gX(hc:X.calm=true):bW X (.builtin "max") (fun xs H Q=>∃ i j,xs = [.int i,.int j]/\Q (.int (if j > i then j else i)) H):=by
 intro gV s σ H xs us Q I r h;obtain⟨i,j,rfl,q⟩:=h;obtain⟨u,w',rfl,⟨t,rfl⟩,⟨t',rfl⟩⟩:=vals2 r;refine max_two_ints (I.ok.hd hc) fun h' tk k=>⟨_,H,I.kept k,?_,q⟩
 by_cases hj:j > i
 ·rw[if_pos hj,if_pos hj];exact⟨_,rfl⟩
 ·rw[if_neg hj,if_neg hj];exact⟨_,rfl⟩
theorem jX:bW X (.type "int") (fun xs H Q=>(∃ i,xs = [.int i]/\Q (.int i) H)\/∃ k,xs = [.bl k]/\Q (.int (if k then 1 else 0)) H):=by
 intro gV s σ H xs us Q I r h;rcases h with⟨i,rfl,q⟩ |⟨k,rfl,q⟩
 ·obtain⟨u,rfl,t,rfl⟩:=vals1 r;exact call_int_int ⟨.int i,H,I,⟨_,rfl⟩,q⟩
 ·obtain⟨u,rfl,r1⟩:=vals1 r;cases r1;exact call_int_bool ⟨.int (if k then 1 else 0),H,I.tok _,⟨_,rfl⟩,q⟩
end
structure yN(h:Heap)(x dx C:Addr)(mA:Str->Option Value):Prop where
 obj:h.get? x=some (W.instObj C dx)
 ns:h.Ns1 dx mA
 ne:dx≠x
variable{dx:Addr}{mA:Str->Option Value}
theorem yi{h:Heap}(n:h.Ns1 dx mA):∃ od,h.get? dx=some od/\∀ name,W.lookIn name od=some (mA name):=by
 obtain⟨o,es,ep,ho,hd,hk,_,hm⟩:=n;refine⟨o,ho,fun name=>?_⟩
 have e:=hm name;unfold nsFind findBy at e;rw[<- Array.find?_toList]at e;unfold W.lookIn;rw[hd];dsimp only
 split
 ·rename_i y q;rw[q]at e;exact congrArg some e
 ·rename_i q;rw[q]at e;have a:es.toList.any (·.refKey)=false:=by
   rw[List.any_eq_false];intro y hy;obtain⟨z,t,HL⟩:=hk y (Array.mem_toList_iff.mp hy);simp[DictEntry.refKey,HL]
  have a':¬ es.toList.any (·.refKey)=true:=by rw[a];exact Bool.false_ne_true
  rw[if_neg a'];exact congrArg some e
variable{C:Addr}
theorem yN.look{h:Heap}{x:Addr}(I:yN h x dx C mA):∃ od,W.InstAt h x (W.instObj C dx) C (some od)/\∀ name,W.lookIn name od=some (mA name) :=
 let⟨od,ho,hl⟩:=yi I.ns
 ⟨od,⟨I.obj,rfl,rfl,ho⟩,hl⟩
variable{ns:List Str}{R:Result->Shared->Prop}{kw:List (Str×Value)}
section
variable{prog:Program}{w:World}{s:Shared}{K:W.Frag}{x f:Addr}{name:Str}{v:Value}
theorem get_map{expr:Bool}(X:K.In s.heap)(I:yN s.heap x dx C mA)(hg:W.plainGet K C name=true)(hh:W.hasDictIn K C=true)
  (ha:W.findIn K (.ref C) name=some none) (hv:mA name=some v) (hv':W.handedIn v=true) (h:Q v { s with toks:=s.toks+1 }) :
  wpAny (model prog w) A (getAttr (.ref x) name expr) Q E s:=by
 obtain⟨od,J,hl⟩:=I.look;exact W.get_value X J (W.plainGet_of hg).1 (W.findObj_own hh ha rfl (by rw[hl,hv])) hv' h
theorem CH{Q:Unit->Shared->Prop}(X:K.In s.heap)(I:yN s.heap x dx C mA)
  (hs:W.findIn K (.ref C) "__setattr__" = some (some (.builtin "object.__setattr__"))) (hp:W.plainOver K C=true) (ht:W.takerIn K C name=some none) (hh:W.hasDictIn K C=true)
  (hw:PySem.Within mA ns) (hsz:ns.length<=sizeLine)
  (h:∀ h',yN h' x dx C (fun y=>if y=name then some v else mA y)->Heap.SameBut dx s.heap h'->Q () { s with heap:=h',toks:=s.toks+2 }) :
  wpAny (model prog w) A (setAttr (.ref x) name v) Q E s:=by
 obtain⟨od,J,hl⟩:=I.look;refine W.set_plain X J hs (W.osa_open (s:={ s with toks:=s.toks+1 }) (r:=none) X J hp ht fun b=>?_)
 obtain⟨cd,hc,hd'⟩:=W.any_some hh;have hx:s.heap.get? x=some ⟨.ref C,some dx,.plain,#[]⟩:=I.obj;refine wpAny_bind (wpAny_pure (wpAny_bind (wpAny_bind (wpAny_loadPart hx (wpAny_bind (W.Looks.here (s:={ s with toks:=s.toks+1 }) (W.looks_clsIn X hc) ?_))))))
 rw[hd'];refine wpAny_pure (a:=some dx) (wpAny_bind (wpAny_pure (wpAny_bind ?_)));refine wpAny_nsSet1 (s:={ s with toks:=s.toks+1 }) I.ns fun h' hn2 hs2=>?_
 obtain⟨oD,esD,epD,hoD,hdD,hcD⟩:=hn2.count (PySem.Within.cons name v hw);refine wpAny_bind (wpAny_lookBehind hoD (by rw[hdD];exact pastItsLine_dict (Nat.le_trans hcD (by rw[List.length_cons];omega))) ?_)
 exact wpAny_pure (h _ ⟨(hs2.2 _ (Ne.symm I.ne)).trans I.obj,hn2,I.ne⟩ hs2)
theorem AQ{vs:List Value}(X:K.In s.heap)(hm:W.makesIn K C=true)
  (hi:W.findIn K (.ref C) "__init__" = some (some (.ref f))) (hf:W.typeIn K (.ref f)=some (.type "function"))
  (h:codeAny (model prog w) (A.under (.builtin "type.__call__" ⟨.ref C::vs,kw⟩)) (.call (.ref f) ⟨.ref (s.heap.objs.size+1)::vs,kw⟩) (W.InitBack (s.heap.objs.size+1) R)
   { s with heap:=(s.heap.push W.emptyDict).push (W.instObj C s.heap.objs.size) }) :
  codeAny (model prog w) A (.call (.ref C) ⟨vs,kw⟩) R s:=by
 obtain⟨hh,g,d,t,os⟩:=s;exact W.make_core (W.makes_of X hm) (W.looks_findIn X hi) (fun self=>W.bind_fn X self hf) (.inl rfl) h
end
def g6(f:Str)(v:V):List (Str×V)->List (Str×V)
 | []=>[(f,v)]
 | (g,x)::r=>if g=f then(g,v)::r else(g,x)::g6 f v r
theorem kb(f g:Str)(v:V):∀ fs:List (Str×V),(g6 f v fs).lookup g=if g=f then some v else fs.lookup g
 | []=>by
  show List.lookup g [(f,v)]=_;by_cases h:g=f
  ·have hb:(g==f)=true:=beq_iff_eq.mpr h;simp only[List.lookup,hb,if_pos h]
  ·have hb:(g==f)=false:=beq_eq_false_iff_ne.mpr h;simp only[List.lookup,hb,if_neg h]
 | (k,x)::r=>by
  have ih:=kb f g v r;rw[show g6 f v ((k,x)::r) =(if k=f then(k,v)::r else(k,x)::g6 f v r)from rfl]
  by_cases hk:k=f
  ·rw[if_pos hk];by_cases h:g=k
   ·have hb:(g==k)=true:=beq_iff_eq.mpr h;simp only[List.lookup,hb,if_pos (h.trans hk)]
   ·have hb:(g==k)=false:=beq_eq_false_iff_ne.mpr h;simp only[List.lookup,hb,if_neg (fun e:g=f=>h (e.trans hk.symm))]
  ·rw[if_neg hk];by_cases h:g=k
   ·have hb:(g==k)=true:=beq_iff_eq.mpr h;simp only[List.lookup,hb,if_neg (fun e:g=f=>hk (h.symm.trans e))]
   ·have hb:(g==k)=false:=beq_eq_false_iff_ne.mpr h;simp only[List.lookup,hb];exact ih
theorem jL(f:Str)(v:V):∀ fs:List (Str×V),f∈(g6 f v fs).map (·.1)/\∀ g,g∈fs.map (·.1)->g∈(g6 f v fs).map (·.1)
 | []=>⟨by simp[g6],fun g h=>by simp at h⟩
 | (k,x)::r=>by
  obtain⟨i1,i2⟩:=jL f v r;rw[show g6 f v ((k,x)::r) =(if k=f then(k,v)::r else(k,x)::g6 f v r)from rfl]
  by_cases hk:k=f
  ·rw[if_pos hk];subst hk;exact⟨by simp,fun g h=>by simpa using h⟩
  ·rw[if_neg hk];refine⟨?_,fun g h=>?_⟩
   ·rw[List.map_cons];exact List.mem_cons_of_mem _ i1
   ·rw[List.map_cons]at h ⊢;rcases List.mem_cons.mp h with e|e
    ·exact List.mem_cons.mpr (.inl e)
    ·exact List.mem_cons_of_mem _ (i2 g e)
theorem kc(f:Str)(v:V):∀ fs:List (Str×V),(g6 f v fs).length<=fs.length+1
 | []=>by simp[g6]
 | (k,x)::r=>by
  have ih:=kc f v r;rw[show g6 f v ((k,x)::r) =(if k=f then(k,v)::r else(k,x)::g6 f v r)from rfl]
  by_cases hk:k=f
  ·rw[if_pos hk,List.length_cons,List.length_cons];omega
  ·rw[if_neg hk,List.length_cons,List.length_cons];omega
theorem iQ.some_of{v:V}{o:Option Value}(r:iQ (some v) o):∃ u,o=some u/\RelV v u:=by
 cases o with
 | none=>exact(show False from r).elim
 | some u=>exact⟨u,rfl,r⟩
theorem yt{v:V}(r:RelV v u):W.handedIn u=true:=by
 cases v with
 | non=>cases(show u=Value.none from r);rfl
 | bl b=>cases(show u=Value.bool b from r);rfl
 | int i=>obtain⟨t,e⟩:=(show ∃ t,u=Value.int i t from r);cases e;rfl
 | str x=>obtain⟨t,e⟩:=(show ∃ t,u=Value.str x t from r);cases e;rfl
 | byt b=>obtain⟨t,e⟩:=(show ∃ t,u=Value.bytes b t from r);cases e;rfl
 | flt b=>obtain⟨t,e⟩:=(show ∃ t,u=Value.float b t from r);cases e;rfl
 | ref a=>cases(show u=Value.ref a from r);rfl
 | ty n=>cases(show u=Value.type n from r);rfl
section
variable{w:World}{h h':Heap}{fs fs':List (Str×V)}
theorem p9(hok:HOk P w H h)(e:H a=some (.ins C dx fs)):∃ mA,yN h a dx C mA/\(∀ f,iQ (fs.lookup f) (mA f))/\PySem.Within mA (fs.map (·.1))/\fs.length<=1000/\H dx=some (.own a):=by
 obtain⟨d,z,ne,ob,mA,n,r,q⟩:=(show aV P w H h a (.ins C dx fs)from hok a _ e);exact⟨mA,⟨ob,n,ne⟩,r,q,z,d⟩
end
structure Cls(K:W.Frag)(C:Addr):Prop where
 pg:W.plainGet K C Str.empty=true
 hd:W.hasDictIn K C=true
 po:W.plainOver K C=true
 sa:W.findIn K (.ref C) "__setattr__" = some (some (.builtin "object.__setattr__"))
theorem Cls.get{K:W.Frag}(c:Cls K C)(f:Str):W.plainGet K C f=true:=c.pg
def d9(K:W.Frag)(C:Addr)(f:Str):Prop:=W.findIn K (.ref C) f=some none
theorem d9.ID{K:W.Frag}{f:Str}(n:d9 K C f):W.takerIn K C f=some none:=by
 unfold W.takerIn;rw[show W.findIn K (.ref C) f=some none from n];rfl
structure Meth(K:W.Frag)(C:Addr)(m:Str)(f:Addr):Prop where
 at_:W.findIn K (.ref C) m=some (some (.ref f))
 fn:W.isFn K (.ref f)=true
 kp:W.keepIn K (.ref f)=true
variable{prog:Program}{env:Env}
section
variable{σ:St}{s:Shared}{fs:List (Str×V)}{f:Str}{v:V}
theorem uY{b:Bool}(I:Inv X gV σ H s)(e:H a=some (.ins C dx fs))(c:Cls X.K C)(n:d9 X.K C f)(l:fs.lookup f=some v)
  (h:∀ u s',Inv X gV σ H s'->RelV v u->Q u s'):wpAny (model X.prog X.w) A (getAttr (.ref a) f b) Q E s:=by
 obtain⟨mA,O,r,_,_,_⟩:=p9 I.hok e;obtain⟨u,hu,ru⟩:=iQ.some_of (v:=v) (o:=mA f) (by rw[<- l];exact r f)
 exact get_map I.kIn O (c.get f) c.hd n hu (yt ru) (h u _ (I.tok _) ru)
theorem tG{Q:Unit->Shared->Prop}(I:Inv X gV σ H s)(e:H a=some (.ins C dx fs))(c:Cls X.K C)(n:d9 X.K C f)(hl:fs.length<1000)(ry:RelV y u)
  (h:∀ s',Inv X gV σ (upd H a (.ins C dx (g6 f y fs))) s'->Q () s'):wpAny (model X.prog X.w) A (setAttr (.ref a) f u) Q E s:=by
 obtain⟨mA,O,r,wi,_,ho⟩:=p9 I.hok e;have hz:(fs.map (·.1)).length<=sizeLine:=by rw[List.length_map,sizeLine_eq];omega
 refine CH I.kIn O c.sa c.po n.ID c.hd wi hz fun h' O' sb=>h _ ?_
 have hd:∃ o,h'.get? dx=some o:=let⟨o,_,_,e',_⟩:=O'.ns;⟨o,e'⟩
 refine I.write (x:=a) (e:=dx) (by rw[e];exact True.intro) (.inr ho) (fun b q hb z=>(sb.2 b hb).trans z) hd ?_
 refine⟨by rw[aj O.ne];exact ho,?_,O.ne,O'.obj,_,O'.ns,fun g=>?_,fun g hg=>?_⟩
 ·have:=kc f y fs;omega
 ·show iQ ((g6 f y fs).lookup g) (if g=f then some u else mA g)
  rw[kb];by_cases q:g=f
  ·rw[if_pos q,if_pos q];exact ry
  ·rw[if_neg q,if_neg q];exact r g
 ·by_cases q:g=f
  ·rw[q];exact(jL f y fs).1
  ·refine(jL f y fs).2 g (wi g fun z=>hg ?_)
   show(if g=f then some u else mA g)=none
   rw[if_neg q];exact z
theorem Inv.made(I:Inv X gV σ H s):Inv X gV σ (upd (upd H s.heap.objs.size (.own (s.heap.objs.size+1))) (s.heap.objs.size+1) (.ins C s.heap.objs.size []))
  { s with heap:=(s.heap.push W.emptyDict).push (W.instObj C s.heap.objs.size) }:=by
 have e1:(s.heap.push W.emptyDict).get? s.heap.objs.size=some W.emptyDict:=Heap.get?_push_size s.heap rfl;have e2:((s.heap.push W.emptyDict).push (W.instObj C s.heap.objs.size)).get? (s.heap.objs.size+1)=some (W.instObj C s.heap.objs.size):=by
  have:=Heap.get?_push_size (s.heap.push W.emptyDict) (o:=W.instObj C s.heap.objs.size) rfl
  rwa [Heap.size_push]at this
 have e3:(s.heap.push W.emptyDict).Ns s.heap.objs.size (fun _=>none):=⟨W.emptyDict,#[],_,e1,rfl,(fun e he=>absurd he (by simp)),fun _=>rfl⟩
 have I1:=I.laid (a:=s.heap.objs.size) (o:=.own (s.heap.objs.size+1)) (h':=s.heap.push W.emptyDict) (t':=s.toks) (fun b u q=>Heap.get?_push_of_some _ q) (Nat.le_refl _) ⟨_,e1⟩
 refine I1.laid (a:=s.heap.objs.size+1) (o:=.ins C s.heap.objs.size []) (t':=s.toks) (fun b u q=>Heap.get?_push_of_some _ q) (Nat.le_of_eq (Heap.size_push _ _)) ?_
 have ne:s.heap.objs.size≠s.heap.objs.size+1:=Nat.ne_of_lt (Nat.lt_succ_self _);refine⟨by rw[aj ne,aw],Nat.zero_le _,ne,e2,fun _=>none,(Heap.Ns1.of_empty e3).at fun o q=>Heap.get?_push_of_some _ q,fun _=>True.intro,fun y hy=>absurd rfl hy⟩
theorem EJ{w:World}{f:Str}{pos:Pos}{s:Shared}(hb:attributeBase e f env (eval e env)=eval e env)
  (h:wpAny (model prog w) A (eval e env) (fun o s₁=>wpAny (model prog w) A (getAttr o f true) Q E s₁) E s):wpAny (model prog w) A (eval (.Attribute e f pos) env) Q E s :=
 Attribute_any_ h (by rw[arm_eval_Attribute,hb])
end
def MN(K:W.Frag)(ta tv:TE)(f:Str):TS:=fun D σ H=>tv σ H fun y H1=>ta σ H1 fun x H2=>∃ a C dx fs,x = .ref a/\H2 a=some (.ins C dx fs)/\Cls K C/\d9 K C f/\fs.length<1000 /\
 D.nx σ (upd H2 a (.ins C dx (g6 f y fs)))
section
variable{value:Expr}{f:Str}{pos MI:Pos}{ta tv:TE}
theorem uc(ha:PE X o ta)(hv:PE X value tv)(hs:swapsWith value (some (.Attribute o f pos')) pos.line X.env=pure false):PS X (.Assign [.Attribute o f pos'] value pos) (MN X.K ta tv f):=by
 intro gV s σ H D I h;refine plainObj_wpAny_Assign_Attribute (thn (hv gV s σ H _ I h) fun u s1 ⟨y,H1,I1,ry,q⟩=>thn (ha gV s1 σ H1 _ I1 q) fun ov s2 hPP=>?_) hs
 obtain⟨x,H2,I2,rx,a,C,dx,fs,ex,ea,c,n,l,q2⟩:=hPP;subst ex;obtain rfl:ov=Value.ref a:=rx;exact tG I2 ea c n l ry fun s3 I3=>⟨σ,_,I3,q2⟩
end
section
variable{σ:St}{s:Shared}{c:Value}{b:Bool}
inductive hJ(K:W.Frag)(H:Hp):V->Value->Prop where
 | non:hJ K H .non (.type "NoneType")
 | bl(x:Bool):hJ K H (.bl x) (.type "bool")
 | int(i:Int):hJ K H (.int i) (.type "int")
 | str(x:Str):hJ K H (.str x) (.type "str")
 | flt(x:UInt64):hJ K H (.flt x) (.type "float")
 | lst{a:Addr}{xs:List V}(e:H a=some (.lst xs)):hJ K H (.ref a) (.type "list")
 | frz{a:Addr}{o:Obj}{xs:List V}(e:H a=some (.frz o (.lst xs))):hJ K H (.ref a) (.type "list")
 | tup{a:Addr}{xs:List V}(e:H a=some (.tup xs)):hJ K H (.ref a) (.type "tuple")
 | dK{a:Addr}{kvs:List (Key×V)}(e:H a=some (.dK kvs)):hJ K H (.ref a) (.type "dict")
 | dT{a:Addr}{kvs:List (List Key×V)}(e:H a=some (.dT kvs)):hJ K H (.ref a) (.type "dict")
 | ins{a C dx:Addr}{fs:List (Str×V)}(e:H a=some (.ins C dx fs))(cl:Cls K C)(ha:W.findIn K (.ref C) "__class__" = some (some (.builtin "object.__class__")))
   (hn:W.specialIn K (.builtin "object.__class__") "__get__" = some (some (.builtin "getset_descriptor.__get__"))) (htk:W.takesIn K (.builtin "object.__class__")=some true)
   (hm:W.mroIn K C (.type "object")=some true):hJ K H (.ref a) (.ref C)
theorem yo{x:V}{t:Value}(I:Inv X gV σ H s)(rx:RelV x u)(ty:hJ X.K H x t)(e:W.kitOne X.K t c=some b)(h:∀ tk,Q (.bool b) { s with toks:=tk }) :
  wpAny (model X.prog X.w) A (call (.builtin "isinstance") [u,c]) Q E s:=by
 cases ty with
 | non=>cases(show u=Value.none from rx);exact W.kia_one W.kitx_none I.kIn True.intro e (fun z=>nomatch z) h
 | bl y=>cases(show u=Value.bool y from rx);exact W.kia_one W.kitx_bool I.kIn True.intro e (fun z=>nomatch z) h
 | int i=>obtain⟨t,q⟩:=(show ∃ t,u=Value.int i t from rx);cases q;exact W.kia_one W.kitx_int I.kIn True.intro e (fun z=>nomatch z) h
 | str y=>obtain⟨t,q⟩:=(show ∃ t,u=Value.str y t from rx);cases q;exact W.kia_one W.kitx_str I.kIn True.intro e (fun z=>nomatch z) h
 | flt y=>obtain⟨t,q⟩:=(show ∃ t,u=Value.float y t from rx);cases q;exact W.kia_one W.kitx_float I.kIn True.intro e (fun z=>nomatch z) h
 | @lst a xs ea =>
  cases(show u=Value.ref a from rx)
  obtain⟨_,_,n,_,h1⟩:=(show aV X.prog X.w H s.heap a (.lst xs)from I.hok a _ ea);exact W.kia_one W.kitx_list I.kIn ⟨_,h1,rfl⟩ e (fun z=>nomatch z) h
 | @frz a ob xs ea =>
  cases(show u=Value.ref a from rx)
  obtain⟨_,_,_,n,_,h1⟩:=(show aV X.prog X.w H s.heap a (.frz ob (.lst xs))from I.hok a _ ea);exact W.kia_one W.kitx_list I.kIn ⟨_,h1,rfl⟩ e (fun z=>nomatch z) h
 | @tup a xs ea =>
  cases(show u=Value.ref a from rx)
  obtain⟨_,_,_,p⟩:=(show aV X.prog X.w H s.heap a (.tup xs)from I.hok a _ ea);obtain⟨o,h1,h2,_⟩:=p.1;exact W.kia_one W.kitx_tuple I.kIn ⟨o,h1,h2⟩ e (fun z=>nomatch z) h
 | @dK a kvs ea =>
  cases(show u=Value.ref a from rx)
  obtain⟨_,_,vs,_,p⟩:=(show aV X.prog X.w H s.heap a (.dK kvs)from I.hok a _ ea);obtain⟨o,es,ep,h1,h2,_⟩:=p;exact W.kia_one W.kitx_dict I.kIn ⟨o,h1,h2.1⟩ e (fun z=>nomatch z) h
 | @dT a kvs ea =>
  cases(show u=Value.ref a from rx)
  obtain⟨_,_,xs,_,o,es,ep,h1,h2,_⟩:=(show aV X.prog X.w H s.heap a (.dT kvs)from I.hok a _ ea);exact W.kia_one W.kitx_dict I.kIn ⟨o,h1,h2.1⟩ e (fun z=>nomatch z) h
 | @ins a C dx fs ea cl ha hn htk hm =>
  cases(show u=Value.ref a from rx)
  obtain⟨mA,O,_⟩:=p9 I.hok ea;obtain⟨od,J,_⟩:=O.look;exact W.kia_one (W.kitx_own (cl.get _) cl.hd ha hn htk hm) I.kIn J e (fun z=>nomatch z) h
end
structure cn(k:Nat)(A:Around):Prop where
 hd:A.handled=none
 dp:A.depth+3*k+5<recursionLimit
 un:A.units+16*k+200<cLine
theorem cn.mono{k:Nat}(r:cn k A)(h:j<=k):cn j A:=⟨r.hd,by have:=r.dp;omega,by have:=r.un;omega⟩
theorem cn.deeper{k:Nat}{A:Around}(r:cn (k+1) A)(env:Env):cn k (A.deeper env) :=
 ⟨r.hd,by have:=r.dp;show A.depth+1+3*k+5<_;omega,by have:=r.un;show A.units+3+16*k+200<_;omega⟩
theorem uA:(A.under (.builtin "type.__call__" ⟨.ref C::us,kw⟩)).depth=A.depth+1:=by
 first|rfl|simp[Around.under,Code.weight,Code.isCreation,Code.isGuard,Code.isCaller,Code.frames,Code.isFrame,guardIds]
theorem uz:(A.under (.builtin "type.__call__" ⟨.ref C::us,kw⟩)).units=A.units+1:=by
 first|rfl|simp[Around.under,Code.cUnits,Code.frames,Code.isFrame]
theorem cn.make{k:Nat}{A:Around}(r:cn (k+1) A)(C:Addr)(us:List Value)(kw:List (Str×Value)):cn k (A.under (.builtin "type.__call__" ⟨.ref C::us,kw⟩)) :=
 ⟨r.hd,by have:=r.dp;rw[uA];omega,by have:=r.un;rw[uz];omega⟩
theorem cn.depth{k:Nat}{A:Around}(r:cn k A):A.depth<recursionLimit:=by have:=r.dp;omega
theorem cn.units{k:Nat}{A:Around}(r:cn k A):A.units+64<cLine:=by have:=r.un;omega
def eD:TA:=fun _ H Q=>Q [] H
def bP(ta:TE)(tr:TA):TA:=fun σ H Q=>ta σ H fun x H1=>tr σ H1 fun xs H2=>Q (x::xs) H2
section
variable{t:TA}{pos:Pos}
theorem cH:PA X [] eD:=fun _ _ _ _ H Q I h=>Calls.spliced_nil ⟨[],H,I,.nil,h⟩
theorem a8(ha:PE X e te)(hr:PA X es t)(hs:starEach (e::es) X.env =(false,eval e X.env)::starEach es X.env:=by rfl):PA X (e::es) (bP te t):=by
 intro pos gV s σ H Q I h;rw[hs];show wpAny _ _ (spliced ((false,eval e X.env)::backTo pos (starEach es X.env))) _ _ s;refine Calls.spliced_cons (thn (ha gV s σ H _ I h) fun u s1 hPP=>?_)
 obtain⟨x,H1,I1,r1,q1⟩:=hPP;refine thn (hr pos gV s1 σ H1 _ I1 q1) fun us s2 hPP=>?_
 obtain⟨xs,H2,I2,r2,q2⟩:=hPP;exact⟨x::xs,H2,I2,.cons r1 r2,q2⟩
def F8(t:TA):TE:=fun σ H Q=>t σ H fun xs H1=>xs.length<=sizeLine/\∀ p,H1 p=none->Q (.ref p) (upd H1 p (.tup xs))
def IF(t:TA):TE:=fun σ H Q=>t σ H fun xs H1=>xs.length<=sizeLine/\∀ p,H1 p=none->Q (.ref p) (upd H1 p (.lst xs))
theorem Ap{x1}(h:PA X es t):PE X (.Tuple es x1 pos) (F8 t):=by
 intro gV s σ H Q I hq;refine wpAny_Tuple_spliced (thn (h pos gV s σ H _ I hq) fun us s1 ⟨xs,H1,I1,r,z,q⟩=>⟨by rw[<- r.length];exact z,?_⟩)
 have hf:H1 s1.heap.objs.size=none:=I1.hok.fresh (Nat.le_refl _);refine⟨.ref s1.heap.objs.size,upd H1 s1.heap.objs.size (.tup xs),I1.laid (t':=s1.toks) (fun b u e=>Heap.get?_push_of_some _ e) (Nat.le_refl _) ?_,rfl,q _ hf⟩
 exact⟨z,us,r,⟨⟨_,Heap.get?_push_size _ rfl,rfl,_,rfl⟩,_,Heap.get?_push_size _ rfl,rfl⟩⟩
theorem G6(h:PA X es t):PE X (.List es pos) (IF t):=by
 intro gV s σ H Q I hq;refine wpAny_List_spliced (thn (h pos gV s σ H _ I hq) fun us s1 ⟨xs,H1,I1,r,z,q⟩=>⟨by rw[<- r.length];exact z,?_⟩)
 have hf:H1 s1.heap.objs.size=none:=I1.hok.fresh (Nat.le_refl _);refine⟨.ref s1.heap.objs.size,upd H1 s1.heap.objs.size (.lst xs),I1.laid (t':=s1.toks) (fun b u e=>Heap.get?_push_of_some _ e) (Nat.le_refl _) ?_,rfl,q _ hf⟩
 exact⟨z,us,0,r,Heap.get?_push_size _ rfl⟩
end
abbrev Sp:=List V->Hp->VK->XK->Prop
abbrev CXT:=List Env->Hp->Shared->XK->Value->Shared->Prop
structure vB(P:Program)(w:World)(K:W.Frag)(mg:Str->Option Value)(base:Heap)(A:Around)(outer:List Env)(s:Shared)(H:Hp):Prop where
 frames:A.frames=some outer
 mod:Mod K mg base
 bs:∀ b o,base.get? b=some o->s.heap.get? b=some o/\H b=none
 bsz:base.objs.size<=s.heap.objs.size
 ky:s.heap.FunFrames base outer
 frf:∀ b∈frs outer,H b=none
 hok:HOk P w H s.heap
 bare:AllBare s.gens
def CE(outer:List Env)(P:Program)(w:World)(H:Hp)(s:Shared)(Q:VK)(u:Value)(s':Shared):Prop :=
 ∃ v H',s'.os=s.os/\AllBare s'.gens/\Un (frs outer) [] H H' s.heap s'.heap/\HOk P w H' s'.heap/\RelV v u/\Q v H'
def CR(CX:CXT)(outer:List Env)(P:Program)(w:World)(H:Hp)(s:Shared)(Q:VK)(E:XK)(r:Result)(s':Shared):Prop :=
 match r with
 | .ok (.ret u)=>CE outer P w H s Q u s'
 | .ok _=>False
 | .error e=>CX outer H s E e s'
structure bc(P:Program)(w:World)(K:W.Frag)(mg:Str->Option Value)(base:Heap)(CX:CXT)(k:Nat)(f:Addr)(fd:FuncData)(ps:List Str)(sp:Sp):Prop where
 len:∀ vs H Q E,sp vs H Q E->vs.length=ps.length
 run:∀(A:Around)(outer:List Env)(s:Shared)(H:Hp)(args:Args)(us:List Value)(vs:List V)(Q:VK)(E:XK),cn k A->vB P w K mg base A outer s H->BindsTo s fd args (ps.zip us)->Vals vs us->sp vs H Q E ->
  codeAny (model P w) A (.call (.ref f) args) (CR CX outer P w H s Q E) s
variable{mg:Str->Option Value}{base:Heap}{CX:CXT}{fd:FuncData}{ps:List Str}{sp:Sp}
theorem bc.imp{w:World}{K:W.Frag}{k:Nat}{f:Addr}{sp':Sp}(F:bc P w K mg base CX k f fd ps sp)
  (h:∀ vs H Q E,sp' vs H Q E->sp vs H Q E):bc P w K mg base CX k f fd ps sp' :=
 ⟨fun vs H Q E q=>F.len vs H Q E (h _ _ _ _ q),fun A outer s H args us vs Q E hr he hb hv hs=>F.run A outer s H args us vs Q E hr he hb hv (h _ _ _ _ hs)⟩
theorem vB.make{P:Program}{w:World}{K:W.Frag}{mg:Str->Option Value}{base:Heap}{A:Around}{outer:List Env}{s:Shared}{H:Hp}(e:vB P w K mg base A outer s H)(C:Addr)(us:List Value)(kw:List (Str×Value)) :
  vB P w K mg base (A.under (.builtin "type.__call__" ⟨.ref C::us,kw⟩)) outer s H:=⟨by first|exact e.frames |(simpa [Around.under,Code.envs,Code.isFrame,pushEnvs]using e.frames),e.mod,e.bs,e.bsz,e.ky,e.frf,e.hok,e.bare⟩
section
variable{σ:St}{s:Shared}
theorem Inv.KR(I:Inv X gV σ H s):vB X.prog X.w X.K X.mg X.base X.A X.stack s H :=
 ⟨I.ok.frames,I.ok.mod,I.bs,Nat.le_trans I.ok.bsz I.sz,I.stack,I.vK,I.hok,I.bare⟩
theorem Inv.after{Q:VK}(I:Inv X gV σ H s)(h:CE X.stack X.prog X.w H s Q u s'):EP X gV σ Q u s':=by
 obtain⟨v,H',os,bare,un,hok,r,q⟩:=h;obtain⟨hh,g,d,t,os'⟩:=s';obtain rfl:os'=s.os:=os;exact⟨v,H',I.call (h':=hh) (g':=g) (d':=d) (t':=t) (ch:=[]) un hok bare (fun b z=>absurd z (by simp)),r,q⟩
end
def j7(sp:Sp)(dvs:List V)(E:XK)(t:TA):TE:=fun σ H Q=>t σ H fun vs H1=>sp (vs++dvs) H1 Q E
def Binds(K:W.Frag)(fd:FuncData)(ps:List Str)(ds:List Value):Prop :=
 ∀(s:Shared)(us:List Value),K.In s.heap ->(us++ds).length=ps.length->BindsTo s fd ⟨us,[]⟩ (ps.zip (us++ds))
theorem Binds.all{K:W.Frag}(h:∀ us:List Value,us.length=ps.length->bindArgs fd ⟨us,[]⟩=pure (ps.zip us)):Binds K fd ps []:=fun s us _ hl=>by
 rw[List.append_nil]at hl ⊢;exact .of_eq (h us hl)
def Passes(CX:CXT)(X:Cx)(E:XK):Prop:=∀(gV:List (Addr×Obj))(σ:St)(H:Hp)(s:Shared)(e:Value)(s':Shared),Inv X gV σ H s->CX X.stack H s E e s'->X.xe e s'
section
variable{k:Nat}{f:Addr}{dvs:List V}{ds:List Value}{E:XK}{m:Str}{p pos apos:Pos}{ta:TE}{t:TA}
theorem Gp{σ:St}{s:Shared}{Q:VK}{vs:List V}(F:bc X.prog X.w X.K X.mg X.base CX k f fd ps sp)(hr:cn k X.A)(hb:Binds X.K fd ps ds)(hd:Vals dvs ds)(hx:Passes CX X E)
  (I:Inv X gV σ H s) (r:Vals vs us) (h:sp (vs++dvs) H Q E):wpAny (model X.prog X.w) X.A (call (.ref f) us) (EP X gV σ Q) X.xe s:=by
 have r2:Vals (vs++dvs) (us++ds):=r.append hd;have hl:(us++ds).length=ps.length:=by rw[<- r2.length];exact F.len _ _ _ _ h
 refine wpAny_call (codeAny_mono (F.run X.A X.stack s H ⟨us,[]⟩ (us++ds) (vs++dvs) Q E hr I.KR (hb s us I.kIn hl) r2 h) fun r s' hq=>?_)
 cases r with
 | error e=>exact hx gV σ H s e s' I hq
 | ok fl =>
  cases fl with
  | ret u=>exact I.after hq
  | next=>exact False.elim hq
  | brk=>exact False.elim hq
  | cont=>exact False.elim hq
theorem kM(F:bc X.prog X.w X.K X.mg X.base CX k f fd ps sp)(hr:cn k X.A)(hg:Gl X x)(hm:X.mg x=some (.ref f))(hk:W.keepIn X.K (.ref f)=true)(hb:Binds X.K fd ps ds)(hd:Vals dvs ds)(hx:Passes CX X E)
  (ha:PA X (e::es) t) (hdb:(x ==("__debug__":Str))=false:=by decide) (he:starEach (e::es) X.env =(false,eval e X.env)::starEach es X.env:=by rfl) (hpl:(backTo pos (starEach es X.env)).any (·.1)=false:=by rfl) :
  PE X (.Call (.Name x p) (e::es) [] pos) (j7 sp dvs E t):=by
 intro gV s σ H Q I h;refine wpAny_Call_Name_kw (wy I hg hm ?_ hdb);refine W.callWith_K (h₀:=X.base) I.ok.mod.kin hk (thn (ha pos gV s σ H _ I h) fun us s1 ⟨vs,H1,I1,r,q⟩=>⟨I1.kIn,?_⟩) he hpl
 exact Gp F hr hb hd hx I1 r q
structure Mk(K:W.Frag)(C f:Addr):Prop where
 makes:W.makesIn K C=true
 init:W.findIn K (.ref C) "__init__" = some (some (.ref f))
 fn:W.isFn K (.ref f)=true
 kp:W.keepIn K (.ref C)=true
theorem zv{σ:St}{s:Shared}{Q:VK}{vs:List V}(M:Mk X.K C f)(F:bc X.prog X.w X.K X.mg X.base CX k f fd ps sp)(hr:cn (k+1) X.A)(hb:Binds X.K fd ps ds)(hd:Vals dvs ds)
  (hx:Passes CX X E) (I:Inv X gV σ H s) (r:Vals vs us)
  (h:∀ x dx,H x=none->H dx=none->dx≠x->sp (.ref x ::(vs++dvs)) (upd (upd H dx (.own x)) x (.ins C dx [])) (fun v H2=>v = .non/\Q (.ref x) H2) E) :
  wpAny (model X.prog X.w) X.A (call (.ref C) us) (EP X gV σ Q) X.xe s:=by
 have hq:=h (s.heap.objs.size+1) s.heap.objs.size (I.hok.fresh (Nat.le_succ _)) (I.hok.fresh (Nat.le_refl _)) (Nat.ne_of_lt (Nat.lt_succ_self _));have I2:=Inv.made (C:=C) I;have r2:Vals (V.ref (s.heap.objs.size+1) ::(vs++dvs)) (Value.ref (s.heap.objs.size+1) ::(us++ds)):=.cons rfl (r.append hd);have hl:(Value.ref (s.heap.objs.size+1)::us++ds).length=ps.length:=by
  have e:=r2.length;rw[F.len _ _ _ _ hq]at e;exact e.symm
 refine wpAny_call (AQ (f:=f) I.kIn M.makes M.init (beq_iff_eq.mp M.fn) (codeAny_mono (F.run _ X.stack _ _ ⟨Value.ref (s.heap.objs.size+1)::us,[]⟩ (Value.ref (s.heap.objs.size+1) ::(us++ds)) _ _ E (hr.make C us [])
  (I2.KR.make C us []) (hb _ (Value.ref (s.heap.objs.size+1)::us) I2.kIn hl) r2 hq) fun r s' hq'=>?_))
 cases r with
 | error e=>exact hx gV σ _ _ e s' I2 hq'
 | ok fl =>
  cases fl with
  | ret u =>
   obtain⟨v,H',I3,rv,ev,q3⟩:=I2.after hq';subst ev;exact⟨rv,⟨V.ref (s.heap.objs.size+1),H',I3,rfl,q3⟩⟩
  | next=>exact False.elim hq'
  | brk=>exact False.elim hq'
  | cont=>exact False.elim hq'
end
structure aJ(N P:List Str)(sc:Scope):Prop where
 kind:sc.kind = .function
 co:sc.isCoroutine=false
 gen:sc.isGenerator=false
 nd:N.Nodup
 pre:N.take P.length=P
 par:∀ x∈P,sc.names.lookup x=some .local\/sc.names.lookup x=some .cell
 Hk:∀ y∈sc.names,y.2 ≠ .free
theorem nO{kindOf:Str->Option NameKind}{x:Str}:∀{binds:List (Str×Value)}{m:Str->Option Value},(∀ v,(x,v) ∉ binds)->bindL kindOf binds m x=m x
 | [],_,_=>rfl
 | (n,v)::r,m,h=>by
  unfold bindL;rw[nO fun w hw=>h w (List.mem_cons_of_mem _ hw)]
  split
  ·have:x≠n:=by rintro rfl;exact h v List.mem_cons_self
   simp[this]
  ·rfl
theorem nQ{kindOf:Str->Option NameKind}{x:Str}:∀{binds:List (Str×Value)}{m:Str->Option Value},(∀ v,(x,v) ∉ binds)->bindC kindOf binds m x=m x
 | [],_,_=>rfl
 | (n,v)::r,m,h=>by
  unfold bindC;rw[nQ fun w hw=>h w (List.mem_cons_of_mem _ hw)]
  split
  ·rfl
  ·have:x≠n:=by rintro rfl;exact h v List.mem_cons_self
   simp[this]
theorem nP{kindOf:Str->Option NameKind}{x:Str}{v:Value}:∀{P:List Str}{vs:List Value}{i:Nat}{m:Str->Option Value},P.Nodup->P[i]? = some x->vs[i]? = some v->kindOf x=some .local ->
  bindL kindOf (P.zip vs) m x=some v
 | [],_,_,_,_,h,_,_=>by simp at h
 | _::_,[],_,_,_,_,h,_=>by simp at h
 | p::P,w::vs,0,m,nd,h1,h2,hk=>by
  simp at h1 h2;subst h1;subst h2;show bindL kindOf ((p,w)::P.zip vs) m p=_;unfold bindL;rw[nO fun v hv=>(List.nodup_cons.mp nd).1 (List.of_mem_zip hv).1,if_pos hk]
  simp
 | p::P,w::vs,i+1,m,nd,h1,h2,hk=>by
  show bindL kindOf ((p,w)::P.zip vs) m x=_;unfold bindL;exact nP (i:=i) (List.nodup_cons.mp nd).2 (by simpa using h1) (by simpa using h2) hk
theorem nR{kindOf:Str->Option NameKind}{x:Str}{v:Value}:∀{P:List Str}{vs:List Value}{i:Nat}{m:Str->Option Value},P.Nodup->P[i]? = some x->vs[i]? = some v->kindOf x≠some .local ->
  bindC kindOf (P.zip vs) m x=some v
 | [],_,_,_,_,h,_,_=>by simp at h
 | _::_,[],_,_,_,_,h,_=>by simp at h
 | p::P,w::vs,0,m,nd,h1,h2,hk=>by
  simp at h1 h2;subst h1;subst h2;show bindC kindOf ((p,w)::P.zip vs) m p=_;unfold bindC;rw[nQ fun v hv=>(List.nodup_cons.mp nd).1 (List.of_mem_zip hv).1,if_neg hk]
  simp
 | p::P,w::vs,i+1,m,nd,h1,h2,hk=>by
  show bindC kindOf ((p,w)::P.zip vs) m x=_;unfold bindC;exact nR (i:=i) (List.nodup_cons.mp nd).2 (by simpa using h1) (by simpa using h2) hk
def start(N:List Str)(vs:List V):St:=vs.map some++List.replicate (N.length - vs.length) none
def mX(CX:CXT)(P:Program)(w:World)(K:W.Frag)(mg:Str->Option Value)(base:Heap)(N:List Str)(qual:Str)(scope:Scope)(f:Addr)(cd:Value)(A:Around)(outer:List Env)(s:Shared)(H:Hp)(E:XK):Cx where
 prog:=P
 w:=w
 K:=K
 mg:=mg
 base:=base
 A:=A.deeper (envOfC qual scope s.heap.objs.size f cd)
 N:=N
 s₀:=s
 H₀:=H
 env:=envOfC qual scope s.heap.objs.size f cd
 outer:=outer
 stack:=envOfC qual scope s.heap.objs.size f cd::outer
 ex:=[]
 calm:=true
 fn:=fun _=>true
 pn:=[]
 xe:=fun e s'=>wpAny (model P w) (A.deeper (envOfC qual scope s.heap.objs.size f cd)) (leaving (envOfC qual scope s.heap.objs.size f cd) e) (fun _ s''=>CX outer H s E e s'') (fun e' s''=>CX outer H s E e' s'') s'
variable{sc:Scope}
theorem sI(h:sc.names.lookup x=some .cell):∃ c,(cellsFrom n sc.names []).lookup x=some c:=by
 have q:=W.cellsFrom_some sc.names n [] (.inl h);exact Option.isSome_iff_exists.mp q
variable{qual:Str}{scope:Scope}
theorem yp{w:World}{K:W.Frag}{f:Addr}{cd:Value}{outer:List Env}{s s1:Shared}{E:XK}{vs:List V}
  (S:aJ N ps scope) (hd:A.handled=none) (e0:vB P w K mg base A outer s H) (hl:vs.length=ps.length) (r:Vals vs us)
  (x:InCallC s s.heap.objs.size (bindL (envOfC qual scope s.heap.objs.size f cd).kindOf (ps.zip us) fun _=>none) (cellsFrom (s.heap.objs.size+1) scope.names []) (bindC (envOfC qual scope s.heap.objs.size f cd).kindOf (ps.zip us) fun _=>none) s1) :
  Inv (mX CX P w K mg base N qual scope f cd A outer s H E) [] (start N vs) H s1:=by
 have hpl:ps.length<=N.length:=by have:=congrArg List.length S.pre;rw[List.length_take]at this;omega
 obtain⟨h1,tk,rfl,hk⟩:=x.done;have noA:∀ b:Addr,b ∉ (mX CX P w K mg base N qual scope f cd A outer s H E).ex:=fun b z=>absurd (show b∈([]:List Addr)from z) (by simp)
 refine⟨⟨e0.mod,S.kind,rfl,rfl,Nat.le_refl _,fun y z c h1 h2=>?_,fun y hy=>?_,fun y c _ h=>?_,fun _=>hd,Around.frames_deeper e0.frames,.inr ⟨rfl,rfl⟩,fun b z=>absurd z (noA b),e0.bs,e0.bsz,fun b _ _=>noA b,fun b z=>absurd z (noA b),e0.ky,e0.frf⟩,
  rfl,e0.bare,Un.kept hk,⟨_,x.toInCall.ns,fun i y v h1 h2 h3=>?_⟩,fun y c h=>⟨_,x.cell y c h⟩,e0.hok.fresh (Nat.le_refl _),fun y c h=>?_,fun p hp=>absurd (show p∈([]:List (Addr×Obj))from hp) (by simp),e0.hok.kept hk,?_⟩
 ·exact name_of_addr x.apart (PySem.mem_of_lookup h1) (PySem.mem_of_lookup h2)
 ·have hy:scope.names.lookup y=some .cell\/scope.names.lookup y=some .free:=hy;rcases hy with hy|hy
  ·exact sI hy
  ·exact absurd rfl (S.Hk _ (PySem.mem_of_lookup hy))
 ·exact Nat.le_of_lt (x.above y c (PySem.mem_of_lookup h))
 ·have hi:i<vs.length:=by
   unfold start at h2;by_cases hi:i<vs.length
   ·exact hi
   ·rw[List.getElem?_append_right (by simpa using hi)]at h2
    rw[List.getElem?_replicate]at h2
    split at h2 <;> cases h2
  have ha:vs[i]? = some v:=by
   unfold start at h2;rw[List.getElem?_append_left (by simpa using hi),List.getElem?_map]at h2
   cases e:vs[i]? with
   | none=>rw[e]at h2;cases h2
   | some a=>rw[e]at h2;cases h2;rfl
  obtain⟨u,hu,rv⟩:=r.get ha;have hp:ps[i]? = some y:=by
   rw[<- S.pre,List.getElem?_take_of_lt (by omega)];exact h1
  have ndP:ps.Nodup:=by rw[<- S.pre];exact S.nd.sublist (List.take_sublist _ _)
  refine⟨u,rv,?_⟩;rcases S.par y (List.mem_of_getElem? hp)with k|k
  ·exact .inl ⟨k,nP ndP hp hu k⟩
  ·obtain⟨c,e⟩:=sI (n:=s.heap.objs.size+1) k;refine .inr ⟨.inl k,c,e,?_⟩;have q:=x.cell y c e;rw[nR ndP hp hu (by show scope.names.lookup y≠_;rw[k];decide)]at q
   exact q
 ·exact e0.hok.fresh (Nat.le_of_lt (x.above y c (PySem.mem_of_lookup h)))
 ·unfold start;show _=N.length;rw[List.length_append,List.length_map,List.length_replicate];omega
variable{name:Str}{pm:Value}{ct:Value}{oc:Value}{an:Option Addr}{od:Option Addr}
theorem KQ{w:World}{K:W.Frag}{k:Nat}{f:Addr}{params:Arguments}{dV kV doc cdv:Value}
  {osl:Array (Option Value)} {N ps:List Str} {sp:Sp} (lk:K.lookup f=some ⟨oc,od,.func (W.fnOf name qual params body scope dV kV doc pm an cdv ct),osl⟩) (hcd:W.codeIn K cdv qual=true) (S:aJ N ps scope)
  (len:∀ vs H Q E,sp vs H Q E->vs.length=ps.length)
  (ji:∀(A:Around)(outer:List Env)(s:Shared)(H:Hp)(vs:List V)(Q:VK)(E:XK),cn k (A.deeper (envOfC qual scope s.heap.objs.size f cdv))->sp vs H Q E ->
   ∃ t,PSs (mX CX P w K mg base N qual scope f cdv A outer s H E) body t/\t { nx:=fun _ H'=>Q .non H',rt:=Q } (start N vs) H) :
  bc P w K mg base CX (k+1) f (W.fnOf name qual params body scope dV kV doc pm an cdv ct) ps sp:=by
 refine⟨len,fun A outer s H args us vs Q E hr e0 hb r hsp=>?_⟩
 have hl:=len _ _ _ _ hsp;have KX:K.In s.heap:=e0.mod.kin.keeps fun b o e=>(e0.bs b o e).1
 have lim:s.heap.NoLimit:=e0.mod.nolimit.keeps fun b o e=>(e0.bs b o e).1
 have eT:∀ y∈ps.zip us,scope.names.lookup y.1=some .local\/(scope.names.lookup y.1=some .cell/\((cellsFrom (s.heap.objs.size+1) scope.names []).lookup y.1).isSome=true):=fun⟨n,v⟩ hy=>by
  rcases S.par n (List.of_mem_zip hy).1 with q|q
  ·exact .inl q
  ·exact .inr ⟨q,W.cellsFrom_some _ _ _ (.inl q)⟩
 refine codeAny_call_function hr.depth (KX _ _ lk) rfl S.co S.gen rfl (W.codeRec_of KX hcd) (hb _ _ _ _ ?_);refine wpAny_newFunctionEnv_cells S.kind eT fun env he s1 x=>?_
 subst he;refine⟨lim.keeps x.toInCall.keep,codeAny_func ?_⟩;obtain⟨t,ht,hq⟩:=ji A outer s H vs Q E (hr.deeper _) hsp;have I:Inv (mX CX P w K mg base N qual scope f cdv A outer s H E) [] (start N vs) H s1:=yp S hr.hd e0 hl r x;refine wpAny_mono (ht [] s1 (start N vs) H _ I hq) (fun fl s' hs=>?_) fun e s' hs=>hs
 have fin:∀{σ':St}{H':Hp}{v:V}{u:Value},Inv (mX CX P w K mg base N qual scope f cdv A outer s H E) [] σ' H' s'->RelV v u->Q v H'->CE outer P w H s Q u s' :=
  fun{σ' H' v u} J rv q=>⟨v,H',J.os,J.bare,J.base,J.hok,rv,q⟩
 cases fl with
 | ret u =>
  obtain⟨v,σ',H',J,rv,q⟩:=hs;exact fin J rv q
 | next =>
  obtain⟨σ',H',J,q⟩:=hs;exact fin (v:=V.non) (u:=Value.none) J rfl q
 | brk =>
  obtain⟨_,_,_,q⟩:=hs;exact False.elim q
 | cont =>
  obtain⟨_,_,_,q⟩:=hs;exact False.elim q
section
variable{p pos:Pos}{t:TA}{id T:String}{r:List V->Hp->VK->Prop}
def tCB(r:List V->Hp->VK->Prop)(t:TA):TE:=fun σ H Q=>t σ H fun vs H1=>r vs H1 Q
theorem lJ(hc:bW X (.builtin id) r)(hg:Gl X x)(hm:X.mg x=none)(hv:bootBuiltins x=some (.builtin id))(ha:PA X (e::es) t)(hn:x ≠ "__name__":=by decide)(hdb:(x ==("__debug__":Str))=false:=by decide)
  (he:starEach (e::es) X.env =(false,eval e X.env)::starEach es X.env:=by rfl) (hpl:(backTo pos (starEach es X.env)).any (·.1)=false:=by rfl):PE X (.Call (.Name x p) (e::es) [] pos) (tCB r t):=by
 intro gV s σ H Q I h;refine wpAny_Call_Name_kw (dZ I hg hm hv ?_ hn hdb);exact PyProof.Rows.callWith_builtin1 (thn (ha pos gV s σ H _ I h) fun us s1 ⟨vs,H1,I1,r1,q1⟩=>hc gV s1 σ H1 vs us Q I1 r1 q1) he hpl
theorem nu(hc:bW X (.type T) r)(hg:Gl X x)(hm:X.mg x=none)(hv:bootBuiltins x=some (.type T))(ha:PA X (e::es) t)(hn:x ≠ "__name__":=by decide)(hdb:(x ==("__debug__":Str))=false:=by decide)
  (he:starEach (e::es) X.env =(false,eval e X.env)::starEach es X.env:=by rfl) (hpl:(backTo pos (starEach es X.env)).any (·.1)=false:=by rfl):PE X (.Call (.Name x p) (e::es) [] pos) (tCB r t):=by
 intro gV s σ H Q I h;refine wpAny_Call_Name_kw (dZ I hg hm hv ?_ hn hdb);exact PyProof.Rows.callWith_type1 (thn (ha pos gV s σ H _ I h) fun us s1 ⟨vs,H1,I1,r1,q1⟩=>hc gV s1 σ H1 vs us Q I1 r1 q1) he hpl
end
end L2
namespace HT
open PySem PyProof.Rows
section
variable{prog:Program}{w:World}{A:Around}{E:Value->Shared->Prop}{s:Shared}
theorem EI{t b:Addr}{vs ws:List Value}{Q:Value->Shared->Prop}(ht:IsTup s.heap t vs.toArray)(hb:IsTup s.heap b ws.toArray)(hv:vs ≠ [])
  (h1:ws = []->Q (.ref t) s) (h2:ws ≠ []->Q (.ref s.heap.objs.size) { s with heap:=s.heap.push { cls:=.type "tuple",data:=.seq (vs++ws).toArray } })
  (hsz:vs.length+ws.length<=sizeLine):wpAny (model prog w) A (binaryOp .Add (.ref t) (.ref b)) Q E s:=by
 obtain⟨⟨cls,dd,data,sl⟩,ho,hc,n,hd⟩:=id ht;obtain⟨⟨NH,dd2,data2,sl2⟩,ho2,hc2,n2,hd2⟩:=id hb;simp only at hc hd hc2 hd2;subst hc hd hc2 hd2;have e:vs.toArray++ws.toArray =(vs++ws).toArray:=by simp
 by_cases hw:ws = []
 ·exact concat_meets ⟨_,ho,rfl⟩ ⟨_,ho2,rfl⟩ noFill_tuple_add seq_tuple_add PySem.F.slot_tuple_add PySem.F.entry_tuple_add (PySem.F.args_tuple_add_2 _ _)
   (tuple_addW1 t b vs.toArray ws.toArray n n2 dd dd2 sl sl2 (by simpa using hv) (by simp[hw])) ⟨ho,ho2,h1 hw⟩
 ·refine concat_meets ⟨_,ho,rfl⟩ ⟨_,ho2,rfl⟩ noFill_tuple_add seq_tuple_add PySem.F.slot_tuple_add PySem.F.entry_tuple_add (PySem.F.args_tuple_add_2 _ _)
   (tuple_addW2 t b vs.toArray ws.toArray n n2 dd dd2 sl sl2 (by simpa using hv) (by simpa using hw) (by rw[List.size_toArray,List.size_toArray];exact hsz)) ⟨ho,ho2,?_⟩
  rw[e];exact h2 hw
def sIx(n d:Nat):Option Int->Nat
 | none=>d
 | some v=>if v<0 then(v+(n:Int)).toNat else min v.toNat n
theorem zu(n d:Nat):sIx n d none=d:=rfl
theorem CL(n d k:Nat):sIx n d (some (k:Int))=min k n:=by
 show(if(k:Int)<0 then((k:Int)+(n:Int)).toNat else min (k:Int).toNat n)=min k n
 rw[if_neg (by omega),Int.toNat_natCast]
theorem Gn(n d:Nat)(hd:d<=n)(o:Option Int):sIx n d o<=n:=by
 cases o with
 | none=>exact hd
 | some v =>
  show(if v<0 then(v+(n:Int)).toNat else min v.toNat n)<=n
  by_cases hv:v<0
  ·rw[if_pos hv];omega
  ·rw[if_neg hv];exact Nat.min_le_right _ _
theorem Lh(a:Int)(n:Nat)(h0:0<=a):min a (n:Int) =((min a.toNat n:Nat):Int):=by
 by_cases h:a<=n
 ·rw[Int.min_eq_left h,Nat.min_eq_left (Int.toNat_le.mpr h),Int.toNat_of_nonneg h0]
 ·have h':=Int.le_of_lt (Int.not_le.mp h);rw[Int.min_eq_right h',Nat.min_eq_right ((Int.le_toNat h0).mpr h')]
theorem za(n:Nat)(i:Int)(h:i<0):max 0 (min (i+(n:Int)) n) =((i+n).toNat:Int):=by
 rw[Int.min_eq_left (Int.add_le_of_le_sub_right (by rw[Int.sub_self];exact Int.le_of_lt h)),Int.max_comm,Int.ofNat_toNat]
theorem y9(n:Nat)(i:Int)(h:¬ i<0):max 0 (min i (n:Int)) =((min i.toNat n:Nat):Int):=by
 rw[Lh i n (Int.not_lt.mp h),Int.max_eq_right (Int.natCast_nonneg _)]
theorem wX(v:Int)(n d:Nat):(if v<0 then max (v+(n:Int)) 0 else min v (n:Int)) =((sIx n d (some v):Nat):Int):=by
 show(if v<0 then max (v+(n:Int)) 0 else min v (n:Int)) =(((if v<0 then(v+(n:Int)).toNat else min v.toNat n):Nat):Int)
 by_cases hv:v<0
 ·rw[if_pos hv,if_pos hv];exact(Int.ofNat_toNat _).symm
 ·rw[if_neg hv,if_neg hv];exact Lh v n (Int.not_lt.mp hv)
theorem vo(lo hi:Option Int)(n:Nat):Builtin.Slice.sliceAdjust lo hi 1 (n:Int) =(((sIx n 0 lo:Nat):Int),((sIx n n hi:Nat):Int)):=by
 have h1:¬((1:Int)<0):=by omega
 unfold Builtin.Slice.sliceAdjust;simp only[h1,if_false];refine Prod.ext ?_ ?_
 ·cases lo with
  | none=>rfl
  | some v=>exact wX v n 0
 ·cases hi with
  | none=>rfl
  | some v=>exact wX v n n
theorem uf(i j:Nat):Builtin.Slice.slicePlaces (i:Int) (j:Int) 1=j - i:=by
 unfold Builtin.Slice.slicePlaces;have h1:(1:Int) > 0:=by omega
 simp only[h1,if_true,Int.ediv_one]
 split <;> omega
theorem k8{v:Value}{o:Option Int}{Q:Option Int->Shared->Prop}(p:IsPart v o)(h:Q o s):wpAny (model prog w) A (Builtin.Slice.slicePartIndex v) Q E s:=by
 cases p with
 | none=>exact slicePart_none h
 | int i t=>exact slicePart_int h
theorem eI{sl:Addr}{vl vu:Value}{lo hi:Option Int}{n:Nat}{Q:Int×Int×Nat->Shared->Prop}(hs:s.heap.IsSliceOf sl vl vu .none)(pl:IsPart vl lo)(pu:IsPart vu hi)
  (h:Q (((sIx n 0 lo:Nat):Int),1,sIx n n hi - sIx n 0 lo) s):wpAny (model prog w) A (Builtin.Slice.sliceApplied (.ref sl) (pure (n:Int))) Q E s:=by
 obtain⟨os,hos,hcs,hds⟩:=id hs;unfold Builtin.Slice.sliceApplied Builtin.Slice.sliceFields;refine wpAny_bind (wpAny_bind (wpAny_field hos hds (x:=vl) rfl (wpAny_bind (wpAny_field hos hds (x:=vu) rfl (wpAny_bind (wpAny_field hos hds (x:=.none) rfl (wpAny_pure ?_)))))));refine wpAny_bind (slicePart_none ?_);show wpAny _ _ (if((1:Int)==0)=true then _ else _) _ _ s
 rw[if_neg (by decide)]
 refine wpAny_bind (k8 pl (wpAny_bind (k8 pu (wpAny_bind (wpAny_pure ?_)))));show wpAny _ _ (match Builtin.Slice.sliceAdjust lo hi 1 (n:Int)with |(lo,hi)=>pure (lo,(1:Int),Builtin.Slice.slicePlaces lo hi 1)) _ _ s
 rw[vo lo hi n];show wpAny _ _ (pure (((sIx n 0 lo:Nat):Int),(1:Int),Builtin.Slice.slicePlaces ((sIx n 0 lo:Nat):Int) ((sIx n n hi:Nat):Int) 1)) _ _ s;rw[uf];exact wpAny_pure h
theorem Ao(xs:Array Value)(i k:Nat):((List.range k).filterMap fun(m:Nat)=>xs[((i:Int)+(m:Int)*1).toNat]?).toArray =((xs.toList.drop i).take k).toArray:=by
 have e:(fun(m:Nat)=>xs[((i:Int)+(m:Int)*1).toNat]?)=fun m=>xs[i+m]?:=by
  funext m
  have:((i:Int)+(m:Int)*1).toNat=i+m:=by omega
  rw[this]
 rw[e]
 have:=pick_run xs i k
 rw[List.filterMap_map]at this;have e2:((fun x=>xs[x]?) ∘ fun x=>i+x)=fun m=>xs[i+m]?:=rfl
 rw[e2]at this;rw[this]
theorem jj{t sl:Addr}{items:Array Value}{vl vu:Value}{lo hi:Option Int}{Q:Value->Shared->Prop}(ht:IsTup s.heap t items)(hs:s.heap.IsSliceOf sl vl vu .none)(pl:IsPart vl lo)(pu:IsPart vu hi)
  (hw:¬(sIx items.size 0 lo=0/\sIx items.size items.size hi=items.size))
  (h:Q (.ref s.heap.objs.size) { s with heap:=s.heap.push { cls:=.type "tuple",data:=.seq ((items.toList.drop (sIx items.size 0 lo)).take (sIx items.size items.size hi - sIx items.size 0 lo)).toArray } })
  (hsz:items.size<=sizeLine):wpAny (model prog w) A (getItem (.ref t) (.ref sl)) Q E s:=by
 have wG:sizeOk (.seq ((items.toList.drop (sIx items.size 0 lo)).take (sIx items.size items.size hi - sIx items.size 0 lo)).toArray):=by
  show((items.toList.drop (sIx items.size 0 lo)).take (sIx items.size items.size hi - sIx items.size 0 lo)).toArray.size<=sizeLine;rw[List.size_toArray,List.length_take,List.length_drop,Array.length_toList];exact Nat.le_trans (Nat.le_trans (Nat.min_le_right _ _) (Nat.sub_le _ _)) hsz
 have hj:sIx items.size items.size hi<=items.size:=Gn _ _ (Nat.le_refl _) hi;obtain⟨os,hos,hcs,hds⟩:=id hs;have hTs:s.TypeIs (.ref sl) "slice":=⟨os,hos,hcs⟩;unfold getItem
 try with_reducible refine wpAny_holding ?_
 first|refine wpAny_bind (wpAny_pure ?_)|skip
 refine wpAny_bind (wpAny_sequenceKey ht.typeIs (by decide) ?_)
 refine wpAny_bind (wpAny_callSpecial?_slot (name:=Str.ofString "__getitem__") ht.typeIs PyProof.Rows.slot_tuple_getitem
  (wpAny_call_entry PyProof.Rows.slot_tuple_getitem ht.typeIs entry_tuple_getitem ?_ (args_tuple_getitem _ _)))
 show wpAny _ _ (Builtin.Tuple.tupleItemsOf (.ref t) >>= _) _ _ s;refine wpAny_bind (tupleItemsOf_ ht ?_);refine wpAny_bind (wpAny_typeOf hTs ?_);rw[if_pos (by decide)]
 refine wpAny_bind (eI hs pl pu ?_);have hno:¬((((sIx items.size 0 lo:Nat):Int)==0&&(1:Int)==1&&(sIx items.size items.size hi - sIx items.size 0 lo)==items.size)=true):=by
  intro q;rw[Bool.and_eq_true,Bool.and_eq_true]at q;have q1:((sIx items.size 0 lo:Nat):Int)=0:=eq_of_beq q.1.1;have q2:sIx items.size items.size hi - sIx items.size 0 lo=items.size:=eq_of_beq q.2;exact hw ⟨by omega,by omega⟩
 show wpAny _ _ (if(((sIx items.size 0 lo:Nat):Int)==0&&(1:Int)==1&&(sIx items.size items.size hi - sIx items.size 0 lo)==items.size)=true then _ else _) _ _ s
 rw[if_neg hno,Ao]
 first
  | exact wpAny_bind (m:=Builtin.Tuple.tupleExact _) (wpAny_newObj_type (wpAny_pure ⟨_,rfl,wpAny_pure h⟩) wG)
  | exact wpAny_bind (m:=Builtin.Tuple.tupleExact _) (wpAny_newObj_type (wpAny_bind (wpAny_pure (wpAny_pure ⟨_,rfl,wpAny_pure h⟩))) wG)
  | exact wpAny_bind (wpAny_bind (m:=Builtin.Tuple.tupleExact _) (wpAny_newObj_type (wpAny_pure (wpAny_pure ⟨_,rfl,wpAny_pure h⟩)) wG))
  | exact wpAny_bind (wpAny_bind (m:=Builtin.Tuple.tupleExact _) (wpAny_newObj_type (wpAny_pure ⟨_,rfl,wpAny_pure h⟩) wG))
end
end HT
namespace L2
open PySem PySem.Spec PyProof.Rows
abbrev TO:=St->Hp ->(Option Int->Hp->Prop)->Prop
def PO(X:Cx)(e:Option Expr)(t:TO):Prop :=
 ∀(gV:List (Addr×Obj))(s:Shared)(σ:St)(H:Hp)(Q:Option Int->Hp->Prop),Inv X gV σ H s->t σ H Q ->
  wpAny (model X.prog X.w) X.A (evalPart e X.env) (fun u s'=>∃ o H',Inv X gV σ H' s'/\IsPart u o/\Q o H') X.xe s
def vI:TO:=fun _ H Q=>Q none H
def E2(t:TE):TO:=fun σ H Q=>t σ H fun x H1=>∃ i,x = .int i/\Q (some i) H1
variable{us:List Value}
section
variable{X:Cx}{e:Expr}{te:TE}{lo hi:Option Expr}{tl th:TO}{pos p2:Pos}
theorem Dm:PO X none vI:=by
 intro gV s σ H Q I h;rw[evalPart_none];exact wpAny_pure ⟨none,H,I,.none,h⟩
theorem oV(h:PE X e te):PO X (some e) (E2 te):=by
 intro gV s σ H Q I hw;rw[evalPart_some];refine thn (h gV s σ H _ I hw) fun u s1 hPP=>?_
 obtain⟨x,H1,I1,r1,q1⟩:=hPP;obtain⟨i,rfl,q⟩:=q1;obtain⟨t,rfl⟩:=r1;exact⟨some i,H1,I1,.int i t,q⟩
def SlR(X:Cx)(r:V->Option Int->Option Int->Hp->VK->Prop):Prop :=
 ∀(gV:List (Addr×Obj))(s:Shared)(σ:St)(H:Hp)(x:V)(v vl vu:Value)(lo hi:Option Int)(sl:Addr)(Q:VK),Inv X gV σ H s->RelV x v->s.heap.IsSliceOf sl vl vu .none->IsPart vl lo->IsPart vu hi->r x lo hi H Q ->
  ∃ T id,typeLookup (.type T) "__getitem__" = pure (some (.builtin id))/\s.TypeIs v T/\wpAny (model X.prog X.w) X.A (getItem v (.ref sl)) (EP X gV σ Q) X.xe s
theorem SlR.or{r r':V->Option Int->Option Int->Hp->VK->Prop}(h:SlR X r)(h':SlR X r'):SlR X (fun x lo hi H Q=>r x lo hi H Q\/r' x lo hi H Q):=by
 intro gV s σ H x v vl vu lo hi sl Q I rx hs pl pu q;rcases q with q|q
 ·exact h gV s σ H x v vl vu lo hi sl Q I rx hs pl pu q
 ·exact h' gV s σ H x v vl vu lo hi sl Q I rx hs pl pu q
def tSl(r:V->Option Int->Option Int->Hp->VK->Prop)(te:TE)(tl th:TO):TE:=fun σ H Q=>te σ H fun x H1=>tl σ H1 fun l H2=>th σ H2 fun u H3=>r x l u H3 Q
theorem rQ{r:V->Option Int->Option Int->Hp->VK->Prop}(hr:SlR X r)(he:PE X e te)(hl:PO X lo tl)(hu:PO X hi th):PE X (.Subscript e (.Slice lo hi none p2) pos) (tSl r te tl th):=by
 intro gV s σ H Q I h;refine Subscript_ (thn (he gV s σ H _ I h) fun v s1 hPP=>?_)
 obtain⟨x,H1,I1,r1,q1⟩:=hPP;refine wpAny_Slice (thn (hl gV s1 σ H1 _ I1 q1) fun vl s2 ⟨l,H2,I2,pl,q2⟩=>thn (hu gV s2 σ H2 _ I2 q2) fun vu s3 hPP=>?_)
 obtain⟨u,H3,I3,pu,q3⟩:=hPP;rw[evalPart_none];refine wpAny_pure ?_;have I4:Inv X gV σ H3 { s3 with heap:=s3.heap.push { cls:=.type "slice",data:=.fields #[vl,vu,.none] } }:=I3.kept (t':=s3.toks) fun b ob q=>Heap.get?_push_of_some _ q
 obtain⟨T,id,hT,ht,hg⟩:=hr gV { s3 with heap:=s3.heap.push { cls:=.type "slice",data:=.fields #[vl,vu,.none] } } σ H3 x v vl vu l u s3.heap.objs.size Q I4 r1 (Heap.IsSliceOf.new ..) pl pu q3
 show wpAny (model X.prog X.w) X.A (subscriptTail e (.Slice lo hi none p2) v (.ref s3.heap.objs.size)) (EP X gV σ Q) X.xe { s3 with heap:=s3.heap.push { cls:=.type "slice",data:=.fields #[vl,vu,.none] } }
 exact tail_any (ops:=[.ref s3.heap.objs.size,v]) ht hT hg (by with_unfolding_all rfl)
def g9(xs:List V)(lo hi:Option Int):List V:=(xs.drop (HT.sIx xs.length 0 lo)).take (HT.sIx xs.length xs.length hi - HT.sIx xs.length 0 lo)
theorem kh(xs:List V)(lo hi:Option Int):(g9 xs lo hi).length<=xs.length:=by
 unfold g9;rw[List.length_take,List.length_drop];exact Nat.le_trans (Nat.min_le_right _ _) (Nat.sub_le _ _)
def MO(K:W.Frag):V->Option Int->Option Int->Hp->VK->Prop:=fun x lo hi H Q=>∃ a xs,x = .ref a/\SqT K H a xs /\
 ¬(HT.sIx xs.length 0 lo=0/\HT.sIx xs.length xs.length hi=xs.length)/\∀ p,H p=none->Q (.ref p) (upd H p (.tup (g9 xs lo hi)))
theorem Gg:SlR X (MO X.K):=by
 intro gV s σ H x v vl vu lo hi sl Q I rx hs pl pu h;obtain⟨a,xs,rfl,hx,hw,q⟩:=h;cases rx;obtain⟨its,r,ht,hz⟩:=I.tuple hx;have hlen:its.toArray.size=xs.length:=by rw[List.size_toArray];exact r.length.symm
 refine⟨"tuple",_,PyProof.Rows.slot_tuple_getitem.lookup,ht.typeIs,?_⟩;refine HT.jj ht hs pl pu (by rw[hlen];exact hw) ?_ (by rw[hlen];exact hz)
 rw[hlen];refine⟨.ref s.heap.objs.size,_,I.laid (t':=s.toks) (o:=.tup (g9 xs lo hi)) (fun b ob q=>Heap.get?_push_of_some _ q) (Nat.le_refl _) ?_,rfl,q _ (I.hok.fresh (Nat.le_refl _))⟩
 exact⟨Nat.le_trans (kh xs lo hi) hz,_,(r.drop (HT.sIx xs.length 0 lo)).take (HT.sIx xs.length xs.length hi - HT.sIx xs.length 0 lo),iR.new _ _⟩
def Jj(K:W.Frag):R2:=fun x y H Q=>∃ a b xs ys,x = .ref a/\y = .ref b/\SqT K H a xs/\SqT K H b ys/\xs ≠ []/\xs.length+ys.length<=sizeLine /\
 (ys = []->Q (.ref a) H)/\(ys ≠ []->∀ p,H p=none->Q (.ref p) (upd H p (.tup (xs++ys))))
theorem Vals.ft{xs:List V}(r:Vals xs us):us = [] ↔ xs = []:=by
 cases r with
 | nil=>simp
 | cons _ _=>simp
theorem DE:OpR X (binaryOp .Add) (Jj X.K):=by
 intro gV s σ H x y v u Q I rx ry h;obtain⟨a,b,xs,ys,rfl,rfl,ha,hb,hx,hz,q1,q2⟩:=h;cases rx;cases ry;obtain⟨its,r1,p1,_⟩:=I.tuple ha;obtain⟨bu,r2,p2,_⟩:=I.tuple hb;refine HT.EI p1 p2 (fun z=>hx (r1.ft.mp z)) (fun z=>⟨.ref a,H,I,rfl,q1 (r2.ft.mp z)⟩) (fun z=>?_) (by rw[<- r1.length,<- r2.length];exact hz)
 refine⟨.ref s.heap.objs.size,_,I.laid (t':=s.toks) (o:=.tup (xs++ys)) (fun b ob q=>Heap.get?_push_of_some _ q) (Nat.le_refl _) ?_,rfl,q2 (fun w=>z (r2.ft.mpr w)) _ (I.hok.fresh (Nat.le_refl _))⟩
 exact⟨by rw[List.length_append];exact hz,_,r1.append r2,iR.new _ _⟩
end
def ixN(n:Nat)(i:Int):Option Nat:=if 0<=i then(if i<n then some i.toNat else none)else if -(n:Int)<=i then some (i+n).toNat else none
def atI{α:Type}(xs:List α)(i:Int):Option α:=(ixN xs.length i).bind fun j=>xs[j]?
variable{n:Nat}{j:Nat}
theorem wA{i:Int}(h:ixN n i=some j):seqIndex? i n=some j/\j<n /\ -(n:Int)<=i/\i<n:=by
 unfold ixN at h;by_cases h0:0<=i
 ·rw[if_pos h0]at h;by_cases h1:i<n
  ·rw[if_pos h1]at h;have e:i.toNat=j:=Option.some.inj h;exact⟨by rw[seqIndex_of h0 h1,e],by omega,by omega,h1⟩
  ·rw[if_neg h1]at h;cases h
 ·rw[if_neg h0]at h;by_cases h1:-(n:Int)<=i
  ·rw[if_pos h1]at h;have e:(i+n).toNat=j:=Option.some.inj h;exact⟨by rw[seqIndex_neg (by omega) h1,e],by omega,h1,by omega⟩
  ·rw[if_neg h1]at h;cases h
theorem qN{α:Type}{xs:List α}{i:Int}{v:α}(h:atI xs i=some v):∃ j,seqIndex? i xs.length=some j/\xs[j]? = some v/\j<xs.length /\ -(xs.length:Int)<=i/\i<xs.length:=by
 unfold atI at h;cases e:ixN xs.length i with
 | none=>rw[e]at h;cases h
 | some j =>
  rw[e]at h;obtain⟨h1,h2,h3,h4⟩:=wA e;exact⟨j,h1,h,h2,h3,h4⟩
theorem bE{α:Type}{xs:List α}{v:α}(h:xs[j]? = some v):atI xs (j:Int)=some v:=by
 have hj:j<xs.length:=(List.getElem?_eq_some_iff.mp h).1;have e:ixN xs.length (j:Int)=some j:=by
  unfold ixN;rw[if_pos (by omega),if_pos (by omega)];simp
 unfold atI;rw[e];exact h
theorem jr{α:Type}(xs:List α)(v:α):atI (xs ++ [v]) (-1)=some v:=by
 have hl:(xs ++ [v]).length=xs.length+1:=by simp
 have e:ixN (xs ++ [v]).length (-1)=some xs.length:=by
  unfold ixN;rw[hl,if_neg (by decide),if_pos (by omega)]
  congr 1
  omega
 unfold atI;rw[e];show(xs ++ [v])[xs.length]? = some v;simp
def jt(b:Expr):Prop:=∀ o i,subscripted b false o i=operate [o,i] (getItem o i)
def IxR(X:Cx)(r:R2):Prop :=
 ∀(value slice:Expr)(gV:List (Addr×Obj))(s:Shared)(σ:St)(H:Hp)(x y:V)(v u:Value)(Q:VK),Inv X gV σ H s->RelV x v->RelV y u->r x y H Q ->
  subscripted slice false v u=operate [v,u] (getItem v u)->wpAny (model X.prog X.w) X.A (subscriptTail value slice v u) (EP X gV σ Q) X.xe s
def MtR(X:Cx)(id:String)(r:V->List V->Hp->VK->Prop):Prop :=
 ∀(gV:List (Addr×Obj))(s:Shared)(σ:St)(H:Hp)(x:V)(xs:List V)(v:Value)(us:List Value)(Q:VK),Inv X gV σ H s->RelV x v->Vals xs us->r x xs H Q ->
  wpAny (model X.prog X.w) X.A (call (.builtin id) (v::us)) (EP X gV σ Q) X.xe s
variable{gV:List (Addr×Obj)}{H:Hp}{its:List Value}{A:Around}{y:V}{u:Value}{r:List V->Hp->VK->Prop}
section
variable{X:Cx}{a b:Expr}{ta tb:TE}{pos:Pos}
theorem IxR.or{r r':R2}(h:IxR X r)(h':IxR X r'):IxR X (fun x y H Q=>r x y H Q\/r' x y H Q):=by
 intro value slice gV s σ H x y v u Q I rx ry q hs;rcases q with q|q
 ·exact h value slice gV s σ H x y v u Q I rx ry q hs
 ·exact h' value slice gV s σ H x y v u Q I rx ry q hs
theorem rS{r:R2}(hr:IxR X r)(ha:PE X a ta)(hb:PE X b tb)(hs:jt b):PE X (.Subscript a b pos) (tOp r ta tb):=by
 intro gV s σ H Q I h;exact Subscript_ (Ib ha hb I h fun v u s2 x y H2 I2 rx ry q=>hr a b gV s2 σ H2 x y v u Q I2 rx ry q (hs _ _))
def Jg(K:W.Frag):R2:=fun x y H Q=>∃ p xs i v,x = .ref p/\y = .int i/\SqL K H p xs/\atI xs i=some v/\Q v H
def Je(K:W.Frag):R2:=fun x y H Q=>∃ p xs i v,x = .ref p/\y = .int i/\SqT K H p xs/\atI xs i=some v/\Q v H
def Jf:R2:=fun x y H Q=>∃ z i c,x = .str z/\y = .int i/\z.length<=sizeLine/\atI z.cps.toList i=some c/\Q (.str ⟨#[c]⟩) H
theorem D8:IxR X (Jg X.K):=by
 intro value slice gV s σ H x y v u Q I rx ry h hs;obtain⟨p,xs,i,z,rfl,rfl,hq,he,q⟩:=h;cases rx;obtain⟨t,rfl⟩:=ry;obtain⟨its,r,pl,hz⟩:=I.list hq;obtain⟨j,h1,h2,h3,h4,h5⟩:=qN he;obtain⟨w,ew,rw'⟩:=r.get h2;have hl:=r.length;have hn:=fu;have fin:EP X gV σ Q w s:=⟨z,H,I,rw',q⟩;by_cases h0:0<=i
 ·have hj:i.toNat=j:=by
   rw[seqIndex_of h0 h5]at h1;exact Option.some.inj h1
  exact item_listR pl.isList h0 (by omega) (by rw[hj];simpa using ew) fin hs
 ·have hj:(i+(its.toArray.size:Int)).toNat=j:=by
   rw[seqIndex_neg (by omega) h4]at h1
   rw[List.size_toArray,<- hl];exact Option.some.inj h1
  exact subscriptTail_builtinR (x:=w) pl.isList.typeIs slot_list_getitem.lookup
   (wpAny_getItem_list_neg (Q:=fun r s'=>r=w/\EP X gV σ Q r s') pl.isList (by omega) (by rw[List.size_toArray] <;> omega) (by omega) (by rw[hj];simpa using ew) ⟨rfl,fin⟩) hs
theorem HA:IxR X (Je X.K):=by
 intro value slice gV s σ H x y v u Q I rx ry h hs;obtain⟨p,xs,i,z,rfl,rfl,hq,he,q⟩:=h;cases rx;obtain⟨t,rfl⟩:=ry;obtain⟨its,r,pl,hz⟩:=I.tuple hq;obtain⟨j,h1,h2,h3,h4,h5⟩:=qN he;obtain⟨w,ew,rw'⟩:=r.get h2;have hl:=r.length;have hn:=fu;have fin:EP X gV σ Q w s:=⟨z,H,I,rw',q⟩;exact subscriptTail_builtinR (x:=w) pl.typeIs slot_tuple_getitem.lookup
  (getItem_tuple (j:=j) (Q:=fun r s'=>r=w/\EP X gV σ Q r s') pl (by omega) (by omega) (by rw[List.size_toArray,<- hl];exact h1) (by simpa using ew) ⟨rfl,fin⟩) hs
theorem HB:IxR X Jf:=by
 intro value slice gV s σ H x y v u Q I rx ry h hs;obtain⟨z,i,c,rfl,rfl,hz,he,q⟩:=h;obtain⟨t,rfl⟩:=rx;obtain⟨t',rfl⟩:=ry;obtain⟨j,h1,h2,h3,h4,h5⟩:=qN he;have hl:z.cps.toList.length=z.length:=by simp[Str.length]
 rw[hl]at h1 h4 h5;have hn:=fu;exact tail_any (typeIs_str s z t) slot_str_getitem.lookup (getItem_str (c:=c) (by
  have e1:decide (i < -(2 ^ 63:Int))=false:=decide_eq_false (by omega)
  have e2:decide (i ≥ 2 ^ 63)=false:=decide_eq_false (by omega)
  rw[e1,e2,Bool.or_false]) (by rw[h1];simpa using h2) ⟨.str ⟨#[c]⟩,H,I.tok _,⟨_,rfl⟩,q⟩) hs
def rIx(K:W.Frag):R2:=fun x y H Q=>Jg K x y H Q\/Je K x y H Q\/Jf x y H Q
theorem A0:IxR X (rIx X.K):=D8.or (HA.or HB)
theorem uy(its:List Value)(n j:Nat)(u:Value):Obj.mapSeq (·.setIfInBounds j u) { cls:=.type "list",data:=.seq its.toArray n } ={ cls:=.type "list",data:=.seq (its.set j u).toArray n }:=by
 simp[Obj.mapSeq]
theorem Inv.lst{gV:List (Addr×Obj)}{σ:St}{H:Hp}{s:Shared}{p:Addr}{xs:List V}(I:Inv X gV σ H s)(h:H p=some (.lst xs)) :
  ∃(its:List Value)(n:Nat),Vals xs its/\s.heap.get? p=some { cls:=.type "list",data:=.seq its.toArray n }/\xs.length<=sizeLine:=by
 obtain⟨z,its,n,r,e⟩:=I.hok p _ h;exact⟨its,n,r,e,z⟩
theorem Inv.Ho{σ:St}{s:Shared}{p:Addr}{xs ys:List V}{its':List Value}{n':Nat}{f:Obj->Obj}(I:Inv X gV σ H s)(h:H p=some (.lst xs))
  (ho:s.heap.get? p=some { cls:=.type "list",data:=.seq its.toArray n }) (hf:f { cls:=.type "list",data:=.seq its.toArray n } ={ cls:=.type "list",data:=.seq its'.toArray n' }) (r:Vals ys its') (hz:ys.length<=sizeLine) (t:Nat) :
  Inv X gV σ (upd H p (.lst ys)) { s with heap:=s.heap.update p f,toks:=t }:=by
 have e:(s.heap.update p f).get? p=some { cls:=.type "list",data:=.seq its'.toArray n' }:=by
  rw[Heap.get?_update_self f ho (by rw[hf] <;> rfl),hf]
 refine I.write (x:=p) (e:=p) (by rw[h];trivial) (.inl rfl) (fun b u hb q=>(Heap.get?_update_other _ _ (Ne.symm hb)).trans q) ⟨_,e⟩ ?_
 exact⟨hz,its',n',r,e⟩
def rG:V->V->V->Hp ->(Hp->Prop)->Prop:=fun o i v H Q=>∃ p xs k j,o = .ref p/\i = .int k/\H p=some (.lst xs)/\ixN xs.length k=some j/\Q (upd H p (.lst (xs.set j v)))
theorem set_list:Ii X rG:=by
 intro gV s σ H o i v ov iv u Q I ro ri rv h;obtain⟨p,xs,k,j,rfl,rfl,hp,hj,q⟩:=h;cases ro;obtain⟨t,rfl⟩:=ri;obtain⟨its,n,r,ho,hz⟩:=I.lst hp;obtain⟨h1,h2,h3,h4⟩:=wA hj;have hl:=r.length;have hn:=fu;have I':Inv X gV σ (upd H p (.lst (xs.set j v))) { s with heap:=s.heap.update p (Obj.mapSeq (·.setIfInBounds j u)) } :=
  I.Ho hp ho (uy its n j u) (r.set rv j) (by rw[List.length_set];exact hz) s.toks
 by_cases h0:0<=k
 ·have hk:k.toNat=j:=by
   rw[seqIndex_of h0 h4]at h1;exact Option.some.inj h1
  exact W.ki_setAt ho h0 (by omega) (by rw[List.size_toArray,<- hl];exact h4) (by rw[hk];exact⟨_,I',q⟩)
 ·have hk:(k+(its.toArray.size:Int)).toNat=j:=by
   rw[seqIndex_neg (by omega) h3]at h1
   rw[List.size_toArray,<- hl];exact Option.some.inj h1
  exact W.ki_setBack ho (by omega) (by rw[List.size_toArray,<- hl];exact h3) (by omega) (by rw[hk];exact⟨_,I',q⟩)
theorem n8(lo hi:Option Int)(n:Nat):(sliceBounds lo hi none n).1 =((HT.sIx n 0 lo:Nat):Int)/\(sliceBounds lo hi none n).2.1 =((HT.sIx n n hi:Nat):Int)/\(sliceBounds lo hi none n).2.2=1:=by
 refine⟨?_,?_,rfl⟩
 ·cases lo with
  | none=>simp[sliceBounds,HT.sIx]
  | some i =>
   simp only[sliceBounds,HT.sIx,Option.getD_none,show(1:Int) > 0 by decide,if_true]
   by_cases h:i<0
   ·simp only[h,if_true] <;> first|exact HT.za _ _ h|omega
   ·simp only[h,if_false] <;> first|exact HT.y9 _ _ h|omega
 ·cases hi with
  | none=>simp[sliceBounds,HT.sIx]
  | some i =>
   simp only[sliceBounds,HT.sIx,Option.getD_none,show(1:Int) > 0 by decide,if_true]
   by_cases h:i<0
   ·simp only[h,if_true] <;> first|exact HT.za _ _ h|omega
   ·simp only[h,if_false] <;> first|exact HT.y9 _ _ h|omega
theorem mS(its:List Value)(lo hi:Option Int):slicePick its.toArray lo hi none =((its.drop (HT.sIx its.length 0 lo)).take (HT.sIx its.length its.length hi - HT.sIx its.length 0 lo)).toArray:=by
 obtain⟨h1,h2,h3⟩:=n8 lo hi its.toArray.size;unfold slicePick;rw[h1,h2,h3];simp only[sliceRange_one,pick_run,List.size_toArray] <;> rfl
def Jc(K:W.Frag):V->Option Int->Option Int->Hp->VK->Prop:=fun x lo hi H Q=>∃ a xs,x = .ref a/\SqL K H a xs/\∀ p,H p=none->Q (.ref p) (upd H p (.lst (g9 xs lo hi)))
theorem vL:SlR X (Jc X.K):=by
 intro gV s σ H x v vl vu lo hi sl Q I rx hs pl pu h;obtain⟨a,xs,rfl,hx,q⟩:=h;cases rx;obtain⟨its,r,ht,hz⟩:=I.list hx;have hlen:=r.length;refine⟨"list",_,slot_list_getitem.lookup,ht.isList.typeIs,?_⟩;refine wpAny_getItem_list_slice ht.isList hs pl pu .none (by simp) ?_ (by rw[List.size_toArray] <;> omega)
 rw[mS,<- hlen];refine⟨.ref s.heap.objs.size,_,I.laid (t':=s.toks) (o:=.lst (g9 xs lo hi)) (fun b ob q=>Heap.get?_push_of_some _ q) (Nat.le_refl _) ?_,rfl,q _ (I.hok.fresh (Nat.le_refl _))⟩
 exact⟨Nat.le_trans (kh xs lo hi) hz,_,0,(r.drop (HT.sIx xs.length 0 lo)).take (HT.sIx xs.length xs.length hi - HT.sIx xs.length 0 lo),Heap.get?_push_size _ rfl⟩
def cy:V->Bool
 | .non=>true
 | .bl _=>true
 | .int _=>true
 | .str _=>true
 | _=>false
def eqV:V->V->Bool
 | .non,.non=>true
 | .bl a,.bl b=>a==b
 | .bl a,.int b=>(if a then 1 else 0)==b
 | .int a,.bl b=>a ==(if b then 1 else 0)
 | .int a,.int b=>a==b
 | .str a,.str b=>a==b
 | _,_=>false
theorem jU{s:Shared}{x:V}{v:Value}(ry:RelV y u)(rx:RelV x v)(fy:cy y=true)(fx:cy x=true):SeqAt.EqAt A s u v (eqV y x):=by
 cases y with
 | non =>
  cases ry;cases x with
  | non=>cases rx;exact SeqAt.EqAt.same _
  | bl b=>cases rx;exact SeqAt.EqAt.none_bool b
  | int b=>obtain⟨t,rfl⟩:=rx;exact SeqAt.EqAt.none_int b t
  | str b=>obtain⟨t,rfl⟩:=rx;exact SeqAt.EqAt.none_str b t
  | _=>exact absurd (show false=true from fx) Bool.false_ne_true
 | bl a =>
  cases ry;cases x with
  | non=>cases rx;exact SeqAt.EqAt.bool_none a
  | bl b=>cases rx;exact SeqAt.EqAt.bool_bool a b
  | int b=>obtain⟨t,rfl⟩:=rx;exact SeqAt.EqAt.bool_int a b t
  | str b=>obtain⟨t,rfl⟩:=rx;exact SeqAt.EqAt.bool_str a b t
  | _=>exact absurd (show false=true from fx) Bool.false_ne_true
 | int a =>
  obtain⟨t',rfl⟩:=ry;cases x with
  | non=>cases rx;exact SeqAt.EqAt.int_none a t'
  | bl b=>cases rx;exact SeqAt.EqAt.int_bool a t' b
  | int b=>obtain⟨t,rfl⟩:=rx;exact SeqAt.EqAt.int_int a t' b t
  | str b=>obtain⟨t,rfl⟩:=rx;exact SeqAt.EqAt.int_str a t' b t
  | _=>exact absurd (show false=true from fx) Bool.false_ne_true
 | str a =>
  obtain⟨t',rfl⟩:=ry;cases x with
  | non=>cases rx;exact SeqAt.EqAt.str_none a t'
  | bl b=>cases rx;exact SeqAt.EqAt.str_bool a t' b
  | int b=>obtain⟨t,rfl⟩:=rx;exact SeqAt.EqAt.str_int a t' b t
  | str b=>obtain⟨t,rfl⟩:=rx;exact SeqAt.EqAt.str_str a t' b t
  | _=>exact absurd (show false=true from fx) Bool.false_ne_true
 | _=>exact absurd (show false=true from fy) Bool.false_ne_true
def eqU(x:V)(u:Value):Bool:=match u with
 | .none=>eqV .non x
 | .bool b=>eqV (.bl b) x
 | .int i _=>eqV (.int i) x
 | .str z _=>eqV (.str z) x
 | _=>false
theorem Bh{x:V}(r:RelV y u)(f:cy y=true):eqU x u=eqV y x:=by
 cases y with
 | non=>cases r;rfl
 | bl b=>cases r;rfl
 | int i=>obtain⟨t,rfl⟩:=r;rfl
 | str z=>obtain⟨t,rfl⟩:=r;rfl
 | _=>exact absurd (show false=true from f) Bool.false_ne_true
theorem js{x:V}:∀{xs:List V}{us:List Value},Vals xs us->xs.all cy=true->us.any (eqU x)=xs.any fun y=>eqV y x
 | _,_,.nil,_=>rfl
 | y::xs,u::us,.cons r t,f=>by
  rw[List.all_cons,Bool.and_eq_true]at f;rw[List.any_cons,List.any_cons,Bh r f.1,js t f.2]
theorem gb{A:Around}{s:Shared}{x:V}{v:Value}(rx:RelV x v)(fx:cy x=true):∀{xs:List V}{us:List Value},Vals xs us->xs.all cy=true->∀ u∈us,SeqAt.EqAt A s u v (eqU x u)
 | _,_,.nil,_=>fun u hu=>by cases hu
 | y::xs,u::us,.cons r t,f=>fun u' hu=>by
  rw[List.all_cons,Bool.and_eq_true]at f;rcases List.mem_cons.mp hu with rfl|hu
  ·rw[Bh r f.1];exact jU r rx f.1 fx
  ·exact gb rx fx t f.2 u' hu
def inV(x:V)(xs:List V):Bool:=xs.any fun y=>eqV y x
def rIn(K:W.Frag)(neg:Bool):R2:=fun x y H Q=>∃ p xs,y = .ref p/\(SqL K H p xs\/SqT K H p xs)/\cy x=true/\xs.all cy=true/\Q (.bl (if neg then !inV x xs else inV x xs)) H
theorem x6:OpR X (compareOp .In) (rIn X.K false):=by
 intro gV s σ H x y v u Q I rx ry h;obtain⟨p,xs,rfl,hq,fx,fs,q⟩:=h;cases ry;rcases hq with hq|hq
 ·obtain⟨its,r,pl,hz⟩:=I.list hq;refine SeqAt.in_listAt (eqU x) pl.isList (fun w hw=>gb rx fx r fs w (by simpa using hw)) ⟨.bl _,H,I,rfl,?_⟩
  rw[show its.toArray.any (eqU x)=its.any (eqU x)by simp,js r fs]
  exact q
 ·obtain⟨its,r,pl,hz⟩:=I.tuple hq;refine SeqAt.in_tupleAt (eqU x) pl (fun w hw=>gb rx fx r fs w (by simpa using hw)) ⟨.bl _,H,I,rfl,?_⟩
  rw[show its.toArray.any (eqU x)=its.any (eqU x)by simp,js r fs]
  exact q
theorem pB:OpR X (compareOp .NotIn) (rIn X.K true):=by
 intro gV s σ H x y v u Q I rx ry h;obtain⟨p,xs,rfl,hq,fx,fs,q⟩:=h;cases ry;rcases hq with hq|hq
 ·obtain⟨its,r,pl,hz⟩:=I.list hq;refine SeqAt.notIn_listAt (eqU x) pl.isList (fun w hw=>gb rx fx r fs w (by simpa using hw)) ⟨.bl _,H,I,rfl,?_⟩
  rw[show its.toArray.any (eqU x)=its.any (eqU x)by simp,js r fs]
  exact q
 ·obtain⟨its,r,pl,hz⟩:=I.tuple hq;refine SeqAt.notIn_tupleAt (eqU x) pl (fun w hw=>gb rx fx r fs w (by simpa using hw)) ⟨.bl _,H,I,rfl,?_⟩
  rw[show its.toArray.any (eqU x)=its.any (eqU x)by simp,js r fs]
  exact q
theorem jo:bW X (.builtin "len") (fun xs H Q=>∃ p ys,xs = [.ref p]/\(SqL X.K H p ys\/SqT X.K H p ys)/\Q (.int ys.length) H):=by
 intro gV s σ H xs us Q I r h;obtain⟨p,ys,rfl,hq,q⟩:=h;obtain⟨u,rfl,rx⟩:=vals1 r;cases rx;have hn:=fu;rcases hq with hq|hq
 ·obtain⟨its,r',pl,hz⟩:=I.list hq;have hlen:=r'.length;exact Calls.call_len_list pl.isList (by simp only[List.size_toArray] <;> omega) ⟨.int ys.length,H,I.tok _,⟨s.toks+1,by rw[List.size_toArray,hlen]⟩,q⟩
 ·obtain⟨its,r',pl,hz⟩:=I.tuple hq;have hlen:=r'.length;exact len_tuple pl (by simp only[List.size_toArray] <;> omega) ⟨.int ys.length,H,I.tok _,⟨s.toks+1,by rw[List.size_toArray,hlen]⟩,q⟩
theorem qE:bW X (.builtin "len") (fun xs H Q=>∃ z,xs = [.str z]/\z.length<=sizeLine/\Q (.int z.length) H):=by
 intro gV s σ H xs us Q I r h;obtain⟨z,rfl,hz,q⟩:=h;obtain⟨u,rfl,t,rfl⟩:=vals1 r;have hn:=fu;exact len_str (by omega) ⟨.int z.length,H,I.tok _,⟨_,rfl⟩,q⟩
theorem bW.or{f:Value}{r':List V->Hp->VK->Prop}(h:bW X f r)(h':bW X f r'):bW X f (fun xs H Q=>r xs H Q\/r' xs H Q):=by
 intro gV s σ H xs us Q I rs q;rcases q with q|q
 ·exact h gV s σ H xs us Q I rs q
 ·exact h' gV s σ H xs us Q I rs q
theorem qD:bW X (.type "list") (fun xs H Q=>∃ p ys,xs = [.ref p]/\(SqL X.K H p ys\/SqT X.K H p ys)/\∀ l,H l=none->Q (.ref l) (upd H l (.lst ys))):=by
 intro gV s σ H xs us Q I r h;obtain⟨p,ys,rfl,hq,q⟩:=h;obtain⟨u,rfl,rx⟩:=vals1 r;cases rx;have fin:∀(its:List Value),Vals ys its->ys.length<=sizeLine->∀(h':Heap)(c':Nat),(∀ b o',s.heap.get? b=some o'->h'.get? b=some o') ->
   h'.get? s.heap.objs.size=some { cls:=.type "list",dict:=none,data:=.seq its.toArray c',slots:=#[] }->EP X gV σ Q (.ref s.heap.objs.size) { s with heap:=h' }:=fun its r' hz h' c' kp e =>
  ⟨.ref s.heap.objs.size,_,I.laid (t':=s.toks) kp (Nat.le_refl _) (show aV X.prog X.w _ h' _ (.lst ys)from⟨hz,its,c',r',e⟩),rfl,q _ (I.hok.fresh (Nat.le_refl _))⟩
 rcases hq with hq|hq
 ·obtain⟨its,r',pl,hz⟩:=I.list hq;have hlen:=r'.length;obtain⟨o,ho,hc,n,hd⟩:=pl.isList;exact call_list_seq p (.inl rfl) ho hc hd (fun h' c' kp e=>fin its r' hz h' c' kp e) (by simp only[List.size_toArray] <;> omega)
 ·obtain⟨its,r',pl,hz⟩:=I.tuple hq;have hlen:=r'.length;obtain⟨o,ho,hc,n,hd⟩:=pl;exact call_list_seq p (.inr rfl) ho hc hd (fun h' c' kp e=>fin its r' hz h' c' kp e) (by simp only[List.size_toArray] <;> omega)
theorem mY:bW X (.type "tuple") (fun xs H Q=>∃ p ys,xs = [.ref p]/\((SqL X.K H p ys/\∀ l,H l=none->Q (.ref l) (upd H l (.tup ys)))\/(SqT X.K H p ys/\Q (.ref p) H))):=by
 intro gV s σ H xs us Q I r h;obtain⟨p,ys,rfl,h⟩:=h;obtain⟨u,rfl,rx⟩:=vals1 r;cases rx;rcases h with⟨hq,q⟩ |⟨hq,q⟩
 ·obtain⟨its,r',pl,hz⟩:=I.list hq;have hlen:=r'.length;refine call_tuple_list pl.isList (fun h' kp=>?_) (by simp only[List.size_toArray] <;> omega)
  have I1:Inv X gV σ H { s with heap:=h' }:=I.kept (t':=s.toks) kp
  have I2:Inv X gV σ (upd H h'.objs.size (.tup ys)) { s with heap:=h'.push { cls:=.type "tuple",data:=.seq its.toArray } } :=
   I1.laid (t':=s.toks) (fun b o e=>Heap.get?_push_of_some _ e) (Nat.le_refl _) (show aV X.prog X.w _ _ _ (.tup ys)from⟨hz,its,r',iR.new _ _⟩)
  exact⟨.ref h'.objs.size,_,I2,rfl,q _ (I1.hok.fresh (Nat.le_refl _))⟩
 ·obtain⟨its,r',pl,hz⟩:=I.tuple hq;exact call_tuple_same pl ⟨.ref p,H,I,rfl,q⟩
def tyV(K:W.Frag)(T:String)(x:V)(H:Hp):Prop:=match x with
 | .str _=>T = "str"
 | .int _=>T = "int"
 | .ref p=>(T = "list" /\ ∃ xs,SqL K H p xs)\/(T = "tuple" /\ ∃ o,K.lookup p=some o/\o.cls = .type "tuple" /\ o.dict=none) \/
   (T = "dict" /\ ((∃ kvs,H p=some (.dK kvs))\/∃ kvs,H p=some (.dT kvs)))\/(T = "set" /\ ∃ S n,H p=some (.set S n))
 | _=>False
theorem yW{σ:St}{s:Shared}{T:String}{x:V}{v:Value}(I:Inv X gV σ H s)(r:RelV x v)(ty:tyV X.K T x H) :
  s.TypeIs v T/\∀ a,v = .ref a->∃ ob,s.heap.get? a=some ob/\ob.dict=none:=by
 cases x with
 | str z =>
  obtain⟨t,rfl⟩:=r
  cases(show T = "str" from ty)
  exact⟨typeIs_str s z t,fun _ e=>nomatch e⟩
 | int i =>
  obtain⟨t,rfl⟩:=r
  cases(show T = "int" from ty)
  exact⟨typeIs_int s i t,fun _ e=>nomatch e⟩
 | ref p =>
  cases r;rcases ty with⟨rfl,xs,hq⟩ |⟨rfl,o,hk,hc,hd⟩ |⟨rfl,hk⟩ |⟨rfl,S,n,hk⟩
  ·obtain⟨its,_,pl,_⟩:=I.list hq;refine⟨pl.isList.typeIs,fun a e=>?_⟩
   cases e;obtain⟨o,n,e,c,hd,_⟩:=pl;exact⟨o,e,hd⟩
  ·refine⟨⟨o,I.kIn p o hk,hc⟩,fun a e=>?_⟩
   cases e;exact⟨o,I.kIn _ o hk,hd⟩
  ·have z:∃ o,s.heap.get? p=some o/\o.ExactDict:=by
    rcases hk with⟨kvs,hk⟩ |⟨kvs,hk⟩
    ·obtain⟨_,_,_,_,o,_,_,e,ex,_⟩:=I.hok p _ hk;exact⟨o,e,ex⟩
    ·obtain⟨_,_,_,_,o,_,_,e,ex,_⟩:=I.hok p _ hk;exact⟨o,e,ex⟩
   obtain⟨o,e,ex⟩:=z;refine⟨⟨o,e,ex.1⟩,fun a e2=>?_⟩
   cases e2;exact⟨o,e,ex.2.1⟩
  ·obtain⟨o,_,_,_,e,ex,_⟩:=I.hok p _ hk;refine⟨⟨o,e,ex.1⟩,fun a e2=>?_⟩
   cases e2;exact⟨o,e,ex.2.1⟩
 | _=>exact False.elim ty
def y4(K:W.Frag)(T:String)(r:V->List V->Hp->VK->Prop)(to:TE):TE:=fun σ H Q=>to σ H fun x H1=>tyV K T x H1/\r x [] H1 Q
def tBM(K:W.Frag)(T:String)(r:V->List V->Hp->VK->Prop)(to:TE)(t:TA):TE:=fun σ H Q=>to σ H fun x H1=>tyV K T x H1/\t σ H1 fun xs H2=>r x xs H2 Q
variable{o e:Expr}{es:List Expr}{to:TE}{t:TA}{name:Str}{apos aQ:Pos}{T id:String}{r:V->List V->Hp->VK->Prop}
theorem um(pa:PlainAttrs T)(slot:Slot T name id)(hty:typeOf (.builtin id)=pure (.type "method_descriptor"))(hm:MtR X id r)(ho:PE X o to)
  (bN:attributeBase o name X.env (eval o X.env)=eval o X.env:=by rfl) (bM:(apos.endLine==aQ.line)=true:=by rfl):PE X (.Call (.Attribute o name apos) [] [] aQ) (y4 X.K T r to):=by
 intro gV s σ H Q I h;refine wpAny_Call_method0_late bN bM (thn (ho gV s σ H _ I h) fun v s1 hPP=>?_)
 obtain⟨x,H1,I1,r1,ty,q1⟩:=hPP;obtain⟨h1,h2⟩:=yW I1 r1 ty;exact⟨T,id,pa,slot,hty,h1,h2,Calls.callWith_builtin rfl (PySem.evalArgs_none (hm gV s1 σ H1 x [] v [] Q I1 r1 .nil q1))⟩
theorem rT(pa:PlainAttrs T)(slot:Slot T name id)(hty:typeOf (.builtin id)=pure (.type "method_descriptor"))(hm:MtR X id r)(ho:PE X o to)(ha:PA X (e::es) t)
  (bN:attributeBase o name X.env (eval o X.env)=eval o X.env:=by rfl)
  (gm:((backTo aQ (starEach (e::es) X.env)).all (fun x=>!x.1)&&(backToKw aQ (keywordEach [] X.env)).all (fun x=>x.1.isSome)
   && decide ((e::es).length+([]:List Keyword).length+(if([]:List Keyword).isEmpty then 0 else 1)<30))=true:=by rfl)
  (bM:(apos.endLine==aQ.line)=true:=by rfl) (hs:starEach (e::es) X.env =(false,eval e X.env)::starEach es X.env:=by rfl) (cf:(backTo aQ (starEach es X.env)).any (·.1)=false:=by rfl) :
  PE X (.Call (.Attribute o name apos) (e::es) [] aQ) (tBM X.K T r to t):=by
 intro gV s σ H Q I h;refine wpAny_Call_method_late bN gm bM rfl (thn (ho gV s σ H _ I h) fun v s1 hPP=>?_)
 obtain⟨x,H1,I1,r1,ty,q1⟩:=hPP;obtain⟨h1,h2⟩:=yW I1 r1 ty;refine⟨T,id,pa,slot,hty,h1,h2,?_⟩;have hA:=ha aQ gV s1 σ H1 _ I1 q1;rw[hs]at hA ⊢;refine Calls.callWith_builtin (by show(false ||(backTo aQ (starEach es X.env)).any (·.1))=false;rw[cf] <;> rfl) (Calls.evalArgs_plain ?_)
 refine thn hA fun us s2 hPP=>?_
 obtain⟨vs,H2,I2,r2,q2⟩:=hPP;exact hm gV s2 σ H2 x vs v us Q I2 r1 r2 q2
end
def MtM(X:Cx)(id:String)(r:V->List V->Hp->VK->Prop):Prop :=
 ∀(gV:List (Addr×Obj))(s:Shared)(σ:St)(H:Hp)(x:V)(xs:List V)(v:Value)(us:List Value)(Q:VK),Inv X gV σ H s->RelV x v->Vals xs us->r x xs H Q ->
  wpAny (model X.prog X.w) X.A (call (.builtin id) (v::us)) (EP X gV σ Q) X.xe s
theorem Vals.one:∀{x:V}{us:List Value},Vals [x] us->∃ u,us = [u]/\RelV x u:=by
 intro x us h;cases h with
 | cons r t=>cases t;exact⟨_,rfl,r⟩
theorem Vals.zero:∀{us:List Value},Vals [] us->us = []
 | _,.nil=>rfl
theorem Vals.dropLast{xs:List V}{us:List Value}(h:Vals xs us):Vals xs.dropLast us.dropLast:=by
 induction h with
 | nil=>exact .nil
 | cons r t ih =>
  cases t with
  | nil=>exact .nil
  | cons q t'=>exact .cons r ih
theorem Vals.reverse{xs:List V}{us:List Value}(h:Vals xs us):Vals xs.reverse us.reverse:=by
 induction h with
 | nil=>exact .nil
 | cons r t ih=>rw[List.reverse_cons,List.reverse_cons];exact Vals.append ih (.cons r .nil)
theorem u7{α:Type}(l:List α):l.eraseIdx (l.length - 1)=l.dropLast:=by
 induction l with
 | nil=>rfl
 | cons a r ih =>
  cases r with
  | nil=>rfl
  | cons b r =>
   have e:(a::b::r).length - 1 =((b::r).length - 1)+1:=by
    rfl
   rw[e,List.eraseIdx_cons_succ,ih]
   all_goals rfl
variable{t':Nat}
section
variable{X:Cx}{σ:St}{s:Shared}{l b:Addr}{xs ys zs:List V}
theorem Inv.DX{its':List Value}{f:Array Value->Array Value}{t':Nat}(I:Inv X gV σ H s)(hH:H l=some (.lst xs))
  (e:s.heap.get? l=some { cls:=.type "list",data:=.seq its.toArray n }) (hf:f its.toArray=its'.toArray) (hv:Vals ys its') (hz:ys.length<=sizeLine) :
  Inv X gV σ (upd H l (.lst ys)) { s with heap:=s.heap.update l (Obj.mapSeq f),toks:=t' }:=by
 have q:=PySem.IsL.update e f;rw[hf]at q;refine I.write (x:=l) (e:=l) (by rw[hH];exact trivial) (.inl rfl) (fun b' u hb hu=>(Heap.get?_update_other s.heap (Obj.mapSeq f) (Ne.symm hb)).trans hu) ⟨_,q⟩ ?_
 exact⟨hz,its',_,hv,q⟩
theorem Inv.Kf(I:Inv X gV σ H s)(hv:Vals ys its)(hz:ys.length<=sizeLine) :
  Inv X gV σ (upd H s.heap.objs.size (.lst ys)) { s with heap:=s.heap.push { cls:=.type "list",data:=.seq its.toArray },toks:=t' } :=
 I.laid (fun _ _ q=>Heap.get?_push_of_some _ q) (Nat.le_refl _) ⟨hz,its,0,hv,Heap.get?_push_size _ rfl⟩
theorem Inv.fresh(I:Inv X gV σ H s):H s.heap.objs.size=none:=I.hok.fresh (Nat.le_refl _)
theorem Inv.uB(I:Inv X gV σ H s)(hH:H l=some (.lst xs)):xs.length<=sizeLine/\∃(its:List Value)(n:Nat),Vals xs its/\xs.length=its.length/\s.heap.get? l=some { cls:=.type "list",data:=.seq its.toArray n }:=by
 obtain⟨z,its,n,r,e⟩:=I.hok l _ hH;exact⟨z,its,n,r,r.length,e⟩
theorem AF(h:n<=sizeLine):Builtin.List.listTooLong n=false:=by
 unfold Builtin.List.listTooLong;exact decide_eq_false (by omega)
end
section
variable{X:Cx}
def kI:V->List V->Hp->VK->Prop:=fun x vs H Q=>∃ l xs y,x = .ref l/\vs = [y]/\H l=some (.lst xs)/\xs.length<sizeLine/\Q .non (upd H l (.lst (xs ++ [y])))
theorem yh:MtM X "list.append" kI:=by
 intro gV s σ H x vs v us Q I rx rv h;obtain⟨l,xs,y,rfl,rfl,hH,hz,q⟩:=h;cases rx;obtain⟨u,rfl,ru⟩:=rv.one;obtain⟨z,its,n,r,hl,e⟩:=I.uB hH;refine call_meets F.slot_list_append ⟨_,e,rfl⟩ F.entry_list_append (F.args_list_append_2 _ _) (PySem.list_append l its.toArray n u (by rw[List.size_toArray];omega)) ⟨e,?_⟩
 refine⟨.non,_,I.DX (its':=its ++ [u]) hH e (by simp) (r.append (.cons ru .nil)) ?_,rfl,q⟩
 rw[List.length_append,List.length_singleton];omega
def gH:V->List V->Hp->VK->Prop:=fun x vs H Q=>∃ l b xs zs,x = .ref l/\vs = [.ref b]/\H l=some (.lst xs)/\H b=some (.lst zs)/\xs.length+zs.length<=sizeLine/\Q .non (upd H l (.lst (xs++zs)))
theorem yg:MtM X "list.extend" gH:=by
 intro gV s σ H x vs v us Q I rx rv h;obtain⟨l,b,xs,zs,rfl,rfl,hH,hB,hz,q⟩:=h;cases rx;obtain⟨u,rfl,ru⟩:=rv.one;cases ru;obtain⟨z,its,n,r,hl,e⟩:=I.uB hH;obtain⟨z2,bu,n2,r2,hl2,e2⟩:=I.uB hB;have hsz:its.toArray.size+bu.toArray.size<=sizeLine:=by rw[List.size_toArray,List.size_toArray];omega
 have KA:¬(!its.toArray.isEmpty&&Builtin.List.listTooLong (its.toArray.size+bu.toArray.size))=true:=by
  rw[AF hsz,Bool.and_false];exact Bool.false_ne_true
 refine call_meets F.slot_list_extend ⟨_,e,rfl⟩ F.entry_list_extend (F.args_list_extend_2 _ _)
  (AutoSeq1.list_extend_list_list_0 l its.toArray n b bu.toArray n2 KA (by rw[List.size_toArray];omega) (by omega)) ⟨e,e2,?_⟩
 refine⟨.non,_,I.DX (its':=its++bu) hH e (by simp) (r.append r2) ?_,rfl,q⟩
 rw[List.length_append];omega
def Gs:V->List V->Hp->VK->Prop:=fun x vs H Q=>∃ l xs y,x = .ref l/\vs = []/\H l=some (.lst xs)/\xs[xs.length - 1]? = some y/\Q y (upd H l (.lst xs.dropLast))
theorem AJ:MtM X "list.pop" Gs:=by
 intro gV s σ H x vs v us Q I rx rv h;obtain⟨l,xs,y,rfl,rfl,hH,hy,q⟩:=h;cases rx;have hus:=rv.zero;subst hus;obtain⟨z,its,n,r,hl,e⟩:=I.uB hH;obtain⟨u,hu,ru⟩:=r.get hy;have hy':its.toArray[its.toArray.size - 1]? = some u:=by
  show its.toArray[its.length - 1]? = some u;rw[<- Array.getElem?_toList,<- hl];exact hu
 refine call_meets F.slot_list_pop ⟨_,e,rfl⟩ F.entry_list_pop (F.args_list_pop_1 _) (MeetsSeq.list_pop_last l its.toArray n u hy' (by rw[List.size_toArray];omega)) ⟨e,?_⟩
 refine⟨y,_,I.DX (its':=its.dropLast) hH e ?_ r.dropLast ?_,ru,q⟩
 ·show its.toArray.eraseIdxIfInBounds (its.toArray.size - 1)=its.dropLast.toArray;rw[List.size_toArray,List.eraseIdxIfInBounds_toArray,u7]
 ·rw[List.length_dropLast];omega
def tY:V->List V->Hp->VK->Prop:=fun x vs H Q=>∃ l xs,x = .ref l/\vs = []/\H l=some (.lst xs)/\Q .non (upd H l (.lst []))
theorem AO:MtM X "list.clear" tY:=by
 intro gV s σ H x vs v us Q I rx rv h;obtain⟨l,xs,rfl,rfl,hH,q⟩:=h;cases rx;have hus:=rv.zero;subst hus;obtain⟨z,its,n,r,hl,e⟩:=I.uB hH;refine call_meets F.slot_list_clear ⟨_,e,rfl⟩ F.entry_list_clear (F.args_list_clear_1 _) (AutoSeq1.list_clear_list_0 l its.toArray n (by rw[List.size_toArray];omega)) ⟨e,?_⟩
 exact⟨.non,_,I.DX (its':=[]) (ys:=[]) hH e rfl .nil (Nat.zero_le _),rfl,q⟩
def Jk:R2:=fun x y H Q=>∃ l b xs zs,x = .ref l/\y = .ref b/\H l=some (.lst xs)/\H b=some (.lst zs)/\xs.length+zs.length<=sizeLine/\∀ p,H p=none->Q (.ref p) (upd H p (.lst (xs++zs)))
theorem Hb:OpR X (binaryOp .Add) Jk:=by
 intro gV s σ H x y v u Q I rx ry h;obtain⟨l,b,xs,zs,rfl,rfl,hH,hB,hz,q⟩:=h;cases rx;cases ry;obtain⟨z,its,n,r,hl,e⟩:=I.uB hH;obtain⟨z2,bu,n2,r2,hl2,e2⟩:=I.uB hB;refine PySem.P.add_list e e2 ?_ (by rw[List.size_toArray,List.size_toArray];omega)
 have ea:its.toArray++bu.toArray =(its++bu).toArray:=by simp
 rw[ea];exact⟨.ref _,_,I.Kf (t':=s.toks) (r.append r2) (by rw[List.length_append];omega),rfl,q _ I.fresh⟩
end
end L2
namespace Att
open PySem PySem.W PySem.Calls PyProof.Rows
theorem kx{P:Params}{h:Heap}:∀(ns:List Int)(vs:List Value),WellAll P h vs (ns.map WData.int)->IntsAre vs ns:=by
 intro ns
 induction ns with
 | nil =>
  intro vs w;rw[List.map_nil]at w;cases w;exact .nil
 | cons n ns ih =>
  intro vs w;rw[List.map_cons]at w;cases w with
  | cons a b =>
   cases a;exact .cons _ _ (ih _ b)
theorem xN{l:OpenLaw}{n:Nat}(hn:l.most=some n){P:Params}{h:Heap}{args:List WData}{vals:List Value}
  (hpre:l.row.toRowW.claim.pre args=true) (hwl:WellAll P h vals args) :
  ∃ a vs ns,vals = [Value.ref a]/\args = [WData.list (ns.map WData.int)]/\h.get? a=some { cls:=.type "list",data:=.seq vs.toArray }/\IntsAre vs ns/\ns.length<=n:=by
 have hsh:WShape.hasAll [] args [.list .int]=true:=(pre_splitW hpre).1;have hc:l.pre.holds [] { args:=args }=true:=(pre_splitW hpre).2;obtain⟨d,r,rfl,h1,h2⟩:=hasAllW_cons hsh;obtain rfl:=hasAllW_nil h2;obtain⟨xs,rfl,h3⟩:=hasW_list h1;obtain⟨ns,rfl⟩:=items_int h3;have hlen:ns.length<=n:=by
  unfold OpenLaw.pre at hc;have h4:(WTm.not (.lt (.lit (.int (n:Int))) (.len (.arg 0)))).holds [] { args:=[.list (ns.map .int)] }=true:=by
   have h4:=(holds_andW hc).1;rw[hn]at h4;exact h4
  have h5:=condW_of h4 (w_not (w_lt w_lit (w_len_list (w_arg rfl))));rw[List.length_map]at h5;refine Nat.le_of_not_lt fun q=>?_
  have q':(n:Int)<((ns.length:Nat):Int):=by omega
  first
   | (rw[decide_eq_true q']at h5;exact absurd h5 (by decide))
   | (simp at h5;omega)
 cases hwl with
 | cons w1 w2 =>
  cases w2;cases w1 with
  | list ho HQ=>exact⟨_,_,ns,rfl,rfl,ho,kx ns _ HQ,hlen⟩
theorem xY(l:OpenLaw)(args:List WData):l.row.toRowW.claim.post args (.bool true) args=true :=
 postW_of (r:=l.row.toRowW) (X:=(true==true))
  (show WShape.has [] (.bool true) .bool=true by first|rfl|decide|simp[WShape.has,WShape.arms,WShape.armsAll])
  (show(WTm.eq .res (.lit (.bool true))).value [] { args:=args,res:=some (.bool true),after:=args }=some (.bool (true==true))from w_eq_bool (w_res rfl) w_lit) rfl
theorem sM{l:OpenLaw}{n:Nat}{q:Program}{loose:List Str}{XP:(Str->Option Value)->Heap->Prop}{YP:World->Heap->Prop}{d:DefRec}
  (hn:l.most=some n) (hdf:d.params.defaults = [])
  (call:∀(w:World)(s₀ s₁:Shared)(mg mb:Str->Option Value)(fa:Addr)(o:Obj)(pm cd doc:Value)(a:Addr)(vs:List Value)(ns:List Int),
   Ground q loose [] XP w s₀ mg mb s₁.heap->YP w s₁.heap ->
   s₁.heap.get? fa=some o->o.data = .func (docDef d.name d.params d.body d.scope pm cd doc)->s₁.heap.CodeRec cd d.name->mg d.name=some (.ref fa) ->
   s₁.heap.get? a=some { cls:=.type "list",data:=.seq vs.toArray }->IntsAre vs ns->ns.length<=n->s₁.gens = #[] ->
   codeAny (model l.prog w) callerA (.call (.ref fa) ⟨[.ref a],[]⟩) (fun r s'=>r = .ok (.ret (.bool true))/\OldK s₁.heap s'.heap/\s'.os=s₁.os/\AllBare s'.gens) s₁) :
  WalkO q loose XP YP l.row.toRowW d [] (fun f vs=>PySem.call f vs):=by
 intro w s₀ s₁ mg mb G Y fa o pm cd doc dV kV ho hd hcd hD hmg hg args vals as hpre N2 hrd hwl hlo;obtain rfl:dV = .none:=Dflts.none hD hdf;obtain rfl:kV = .none:=Dflts.noKw hD;obtain⟨a,vs,ns,rfl,rfl,HK,hints,hlen⟩:=xN hn hpre hwl;refine enter_call (codeAny_mono (call w s₀ s₁ mg mb fa o pm cd doc a vs ns G Y ho (fd_plain hd) hcd hmg HK hints hlen hg) fun r s' hq=>?_)
 obtain⟨rfl,h2,h3,h4⟩:=hq;exact⟨.inl ⟨.bool true,.bool true,[],rfl,fun _=>rfl,.bool true,xY l _,fun _=>⟨List.Pairwise.nil,fun _ hm=>(nomatch hm)⟩⟩,h2,h3,h4⟩
section
variable{prog:Program}{w:World}{A:Around}{E:Value->Shared->Prop}{s:Shared}{K:Frag}
def ledger(h:Heap)(L d:Addr):List (Addr×Obj):=(List.range h.objs.size).filterMap fun a=>if a=L\/a=d then none else(h.get? a).map fun o=>(a,o)
end
end Att
namespace L2
open PySem PySem.Spec PyProof.Rows
theorem m8:∀{vs:List Value}{ns:List Int},IntsAre vs ns->Vals (ns.map V.int) vs
 | _,_,.nil=>.nil
 | _,_,.cons n t h=>.cons ⟨t,rfl⟩ (m8 h)
def EU(H:Hp):Prop:=∀ b,H b=none\/∃ o xs,H b=some (.frz o (.lst xs))
variable{mg:Str->Option Value}{a:Addr}{x:Str}
theorem AU{P:Program}{w:World}{K:W.Frag}{mb:Str->Option Value}{CX:CXT}{k:Nat}{fa:Addr}{fd:FuncData}{sp:Sp}{s₁:Shared}{vs:List Value}{ns:List Int}
  (KX:K.In s₁.heap) (hns:s₁.heap.Ns mainGlobals mg) (hb:s₁.heap.Ns builtinsNs mb) (hbb:∀ x:Str,x ≠ "__name__" -> mb x=bootBuiltins x) (Nq:s₁.heap.NoLimit) (hg:s₁.gens = #[])
  (ha:s₁.heap.get? a=some { cls:=.type "list",data:=.seq vs.toArray }) (hi:IntsAre vs ns) (hl:ns.length<=sizeLine) (hr:cn k callerA)
  (F:∀ base:Heap,K.In base->base.Ns mainGlobals mg->bc P w K mg base CX k fa fd [x] sp) (KH:∀(s:Shared)(u:Value),BindsTo s fd ⟨[u],[]⟩ [(x,u)])
  (hsp:∀ H:Hp,EU H->SqL K H a (ns.map V.int)->sp [.ref a] H (fun v _=>v = .bl true) fun _ _ _=>False)
  (hCX:∀ H e s',CX [] H s₁ (fun _ _ _=>False) e s'->False) :
  codeAny (model P w) callerA (.call (.ref fa) ⟨[.ref a],[]⟩) (fun r s'=>r = .ok (.ret (.bool true))/\OldK s₁.heap s'.heap/\s'.os=s₁.os/\AllBare s'.gens) s₁:=by
 have rv:=m8 hi;have M8:=hi.length;have core:∀ H:Hp,EU H->SqL K H a (ns.map V.int)->HOk P w H s₁.heap ->(∀ b,H b≠none->b=a) ->(H a≠none->K.lookup a=none) ->
   codeAny (model P w) callerA (.call (.ref fa) ⟨[.ref a],[]⟩) (fun r s'=>r = .ok (.ret (.bool true))/\OldK s₁.heap s'.heap/\s'.os=s₁.os/\AllBare s'.gens) s₁:=by
  intro H hO hS hok hA hK;have w5:∀{b:Addr}{o:Obj},s₁.heap.get? b=some o->H b=none ->(qg s₁.heap H).get? b=some o:=fun e n=>A9 e n
  have noA:∀{b:Addr}{o:Obj}{es:Array DictEntry}{ep:Nat},s₁.heap.get? b=some o->o.data = .dict es ep->H b=none:=fun{b o es ep} e d=>by
   cases q:H b with
   | none=>rfl
   | some u =>
    have e':b=a:=hA b (by rw[q];simp)
    subst e';rw[ha]at e;cases e;have d':Data.seq vs.toArray _=Data.dict es ep:=d;cases d'
  have nsK:∀{b:Addr}{m:Str->Option Value},s₁.heap.Ns b m ->(qg s₁.heap H).Ns b m:=fun{b m} ⟨o,es,ep,e,d,r⟩=>⟨o,es,ep,w5 e (noA e d),d,r⟩
  have hKb:K.In (qg s₁.heap H):=fun b o e=>w5 (KX b o e) (by
   cases q:H b with
   | none=>rfl
   | some u =>
    have e':b=a:=hA b (by rw[q];simp)
    subst e';rw[hK (by rw[q];simp)]at e;cases e)
  have hM:Mod K mg (qg s₁.heap H):=⟨hKb,nsK hns,⟨mb,nsK hb,hbb⟩,let⟨mc,h1,h2⟩:=Nq;⟨mc,nsK h1,h2⟩⟩
  have e0:vB P w K mg (qg s₁.heap H) callerA [] s₁ H:=⟨rfl,hM,fun b o e=>DM e,Nat.le_of_eq (yr _ _),trivial,fun b hb=>absurd (show b∈([]:List Addr)from hb) (by simp),hok,.of_eq hg⟩
  refine codeAny_mono ((F _ hKb (nsK hns)).run callerA [] s₁ H ⟨[.ref a],[]⟩ [.ref a] [.ref a] _ _ hr e0 (KH s₁ (.ref a)) (.cons rfl .nil) (hsp H hO hS)) fun r s' h=>?_
  cases r with
  | error e=>exact(hCX H e s' h).elim
  | ok fl =>
   cases fl with
   | next=>exact False.elim h
   | brk=>exact False.elim h
   | cont=>exact False.elim h
   | ret u =>
    obtain⟨v,H',os,bare,un,Nm,r',q⟩:=h;have q':v = .bl true:=q;subst q';obtain rfl:u=Value.bool true:=r';refine⟨rfl,OldK.of_keep fun b o e=>?_,os,bare⟩
    cases q:H b with
    | none=>exact un.keep b o e q (by intro z;exact absurd (show b∈([]:List Addr)from z) (by simp)) (by simp)
    | some u =>
     rcases hO b with z |⟨ob,xs,z⟩
     ·rw[q]at z;cases z
     ·have z2:=un.iE b ob _ z;obtain⟨e1,_⟩:=hok b _ z;obtain⟨e2,_⟩:=Nm b _ z2;rw[e]at e1;cases e1;exact e2
 cases hk:K.lookup a with
 | some o =>
  have e:=KX a o hk;rw[ha]at e;cases e;refine core (fun _=>none) (fun _=>.inl rfl) (.inr ⟨_,vs.toArray,_,hk,rfl,rfl,rfl,by rw[List.size_toArray,M8];exact hl,by simpa using rv⟩) (fun b u z=>by have z':(none:Option HO)=some u:=z;cases z') (fun b z=>absurd rfl z) fun z=>absurd rfl z
 | none =>
  refine core (fun b=>if b=a then some (.frz { cls:=.type "list",data:=.seq vs.toArray } (.lst (ns.map V.int)))else none) (fun b=>?_) (.inl (.inr ⟨{ cls:=.type "list",data:=.seq vs.toArray },if_pos rfl⟩)) (fun b u z=>?_) (fun b z=>?_) fun _=>hk
  ·by_cases hb:b=a
   ·exact .inr ⟨_,_,if_pos hb⟩
   ·exact .inl (if_neg hb)
  ·by_cases hb:b=a
   ·have z':=(if_pos hb).symm.trans z;cases z';subst hb;exact⟨ha,by rw[List.length_map];exact hl,vs,_,rv,ha⟩
   ·have z':=(if_neg hb).symm.trans z;cases z'
  ·by_cases hb:b=a
   ·exact hb
   ·exact absurd (if_neg hb) z
variable{n:Nat}
theorem Cf{l:W.OpenLaw}{k:Nat}{q:Program}{loose:List Str}{XP:(Str->Option Value)->Heap->Prop}{YP:World->Heap->Prop}{d:DefRec}{K:Params->W.Frag}{CX:World->CXT}{sp:World->Sp}
  (hn:l.most=some n) (hn2:n<=sizeLine) (hdf:d.params.defaults = []) (hr:cn k callerA)
  (hY:∀(w:World)(h:Heap),YP w h ->(K w.params).In h)
  (F:∀(w:World)(mg:Str->Option Value)(fa:Addr)(h:Heap),(K w.params).In h->h.Ns mainGlobals mg->mg d.name=some (.ref fa) ->
   ∃ fd:FuncData,(∀(s:Shared)(u:Value),BindsTo s fd ⟨[u],[]⟩ [(x,u)]) /\
    ∀ base:Heap,(K w.params).In base->base.Ns mainGlobals mg->bc l.prog w (K w.params) mg base (CX w) k fa fd [x] (sp w))
  (hsp:∀(w:World)(H:Hp)(a:Addr)(ns:List Int),ns.length<=n->EU H->SqL (K w.params) H a (ns.map V.int)->sp w [.ref a] H (fun v _=>v = .bl true) fun _ _ _=>False)
  (hCX:∀(w:World)(H:Hp)(s:Shared)(e:Value)(s':Shared),CX w [] H s (fun _ _ _=>False) e s'->False) :
  W.WalkO q loose XP YP l.row.toRowW d [] (fun f vs=>PySem.call f vs):=by
 refine Att.sM hn hdf fun w s₀ s₁ mg mb fa o pm cd doc a vs ns G Y ho hd hcd hmg HK hints hlen hg=>?_
 have KX:=hY w _ Y;obtain⟨fd,hb,hF⟩:=F w mg fa _ KX G.T.g hmg;exact AU KX G.T.g G.T.b G.T.builtins G.T.nolimit hg HK hints (Nat.le_trans hlen hn2) hr hF hb (fun H hO hS=>hsp w H a ns hlen hO hS) fun H e s'=>hCX w H s₁ e s'
def inClass(s:Stmt)(j:Nat):Stmt:=match s with
 | .ClassDef _ _ _ body _ _ _ _ _ _ _=>body.getD j (.Pass ⟨0,0,0,0⟩)
 | _=>.Pass ⟨0,0,0,0⟩
def cK(s:Stmt):Arguments:=match s with
 | .FunctionDef _ a _ _ _ _ _ _ _ _=>a
 | _=>{ posonlyargs:=[],args:=[],vararg:=none,kwonlyargs:=[],kw_defaults:=[],kwarg:=none,defaults:=[] }
def bD(s:Stmt):List Stmt:=match s with
 | .FunctionDef _ _ b _ _ _ _ _ _ _=>b
 | _=>[]
def ax(s:Stmt):Scope:=match s with
 | .FunctionDef _ _ _ _ _ _ sc _ _ _=>sc
 | _=>{ kind:=.function,names:=[],isGenerator:=false,isCoroutine:=false }
abbrev CX0:CXT:=fun _ _ _ _ _ _=>False
abbrev E0:XK:=fun _ _ _=>False
variable{X:Cx}
theorem rV:Passes CX0 X E0:=fun _ _ _ _ _ _ _ h=>h.elim
structure Fun(K:W.Frag)(x qual:Str)(st:Stmt)(f:Addr)(fd:FuncData):Prop where
 ex:∃(oc:Value)(od:Option Addr)(kV doc pm:Value)(an:Option Addr)(cdv ct:Value)(osl:Array (Option Value)),
  fd=W.fnOf x qual (cK st) (bD st) (ax st) .none kV doc pm an cdv ct/\K.lookup f=some ⟨oc,od,.func fd,osl⟩/\W.codeIn K cdv qual=true
 kp:W.keepIn K (.ref f)=true
variable{qual:Str}{st:Stmt}{fd:FuncData}{N:List Str}{ps:List Str}{sp:Sp}{oc:Value}{od:Option Addr}{an:Option Addr}{pm:Value}{ct:Value}
section
variable{P:Program}{w:World}{K:W.Frag}{base:Heap}
theorem Fun.ok{f:Addr}{k:Nat}(F:Fun K x qual st f fd)(S:aJ N ps (ax st))(len:∀ vs H Q E,sp vs H Q E->vs.length=ps.length)
  (ji:∀(cdv:Value)(A:Around)(outer:List Env)(s:Shared)(H:Hp)(vs:List V)(Q:VK)(E:XK),cn k (A.deeper (envOfC qual (ax st) s.heap.objs.size f cdv))->sp vs H Q E ->
   ∃ t,PSs (mX CX0 P w K mg base N qual (ax st) f cdv A outer s H E).nox (bD st) t/\t { nx:=fun _ H'=>Q .non H',rt:=Q } (start N vs) H):bc P w K mg base CX0 (k+1) f fd ps sp:=by
 obtain⟨oc,od,kV,doc,pm,an,cdv,ct,osl,rfl,lk,hcd⟩:=F.ex;refine KQ lk hcd S len fun A outer s H vs Q E hr hsp=>?_
 obtain⟨t,h,q⟩:=ji cdv A outer s H vs Q E hr hsp;exact⟨t,h.nox,q⟩
theorem Fun.binds{f:Addr}(F:Fun K x qual st f fd)
  (h:∀(kV doc pm:Value)(an:Option Addr)(cdv ct:Value)(us:List Value),us.length=ps.length->bindArgs (W.fnOf x qual (cK st) (bD st) (ax st) .none kV doc pm an cdv ct) ⟨us,[]⟩=pure (ps.zip us)):Binds K fd ps []:=by
 obtain⟨oc,od,kV,doc,pm,an,cdv,ct,osl,rfl,lk,hcd⟩:=F.ex;exact .all (h kV doc pm an cdv ct)
theorem bb{f:Addr}{osl:Array (Option Value)}{kV doc cdv:Value}(l:K.lookup f=some ⟨oc,od,.func (W.fnOf x qual (cK st) (bD st) (ax st) .none kV doc pm an cdv ct),osl⟩)
  (c:W.codeIn K cdv qual=true) (k:W.keepIn K (.ref f)=true):Fun K x qual st f (W.fnOf x qual (cK st) (bD st) (ax st) .none kV doc pm an cdv ct):=⟨⟨oc,od,kV,doc,pm,an,cdv,ct,osl,rfl,l,c⟩,k⟩
end
variable{A:Around}
theorem bR{k:Nat}(hr:cn k A):A.units+1<cLine:=Nat.lt_of_le_of_lt (Nat.add_le_add_left (by decide:1<=64) _) hr.units
theorem aC(h:n<=1000):n<sizeLine:=Nat.lt_of_le_of_lt h (by decide)
section
theorem pv(i:Nat){pos:Pos}(hN:X.N[i]? = some x:=by rfl)(hv:Vis X.env.scope x:=by first|exact Or.inl rfl|exact Or.inr (Or.inl rfl)|exact Or.inr (Or.inr rfl))(hd:(x ==("__debug__":Str))=false:=by decide)
  (hcd:(x ==("__classdict__":Str))=false:=by decide):PE X (.Name x pos) (a9 i):=uh hN hv hd hcd
end
theorem Nh{A B:Prop}(h:B):if false=true then A else B:=by
 rw[if_neg Bool.false_ne_true];exact h
theorem aI{c A B:Prop}[Decidable c](h1:c->A)(h2:¬ c->B):if c then A else B:=by
 by_cases h:c
 ·rw[if_pos h];exact h1 h
 ·rw[if_neg h];exact h2 h
def iP(H H':Hp):Prop:=∀ b o,H b=some o->H' b=some o
theorem iP.refl(H:Hp):iP H H:=fun _ _ h=>h
variable{H:Hp}{H':Hp}{l:Addr}
theorem iP.free(e:iP H H')(h:H' l=Option.none):H l=Option.none:=by
 cases q:H l with
 | none=>rfl
 | some o =>
  rw[e l o q]at h;cases h
variable{y:V}{u:Value}
section
variable{κ:Type}[DecidableEq κ]
def c7(kvs:List (κ×V))(k:κ):Option V:=(kvs.find? fun kv=>decide (kv.1=k)).map (·.2)
def putK(kvs:List (κ×V))(k:κ)(v:V):List (κ×V) :=
 if(kvs.any fun kv=>decide (kv.1=k))=true then kvs.map (fun kv=>if kv.1=k then(kv.1,v)else kv)else kvs ++ [(k,v)]
theorem kU{p:κ×V}{r:List (κ×V)}{k:κ}(e:p.1=k):c7 (p::r) k=some p.2:=by simp[c7,List.find?_cons,e]
theorem kW{p:κ×V}{r:List (κ×V)}{k:κ}(e:¬ p.1=k):c7 (p::r) k=c7 r k:=by simp[c7,List.find?_cons,e]
theorem rj(k:κ):∀ kvs:List (κ×V),(kvs.any fun kv=>decide (kv.1=k)) =(c7 kvs k).isSome
 | []=>rfl
 | p::r=>by
  rw[List.any_cons];by_cases e:p.1=k
  ·simp only[kU e,decide_eq_true e,Bool.true_or,Option.isSome_some]
  ·rw[kW e,decide_eq_false e,Bool.false_or];exact rj k r
theorem gd(kvs:List (κ×V))(k:κ)(v:V):(putK kvs k v).length<=kvs.length+1:=by
 unfold putK
 split
 ·rw[List.length_map];omega
 ·rw[List.length_append,List.length_cons,List.length_nil];omega
theorem iQ.jN{o:Option V}{u:Option Value}(r:iQ o u):o.isSome=u.isSome:=by
 cases o with
 | none=>cases u with
  | none=>rfl
  | some _=>exact(show False from r).elim
 | some _=>cases u with
  | none=>exact(show False from r).elim
  | some _=>rfl
theorem KV.val{kvs:List (κ×V)}{vs:List (κ×Value)}(r:KV kvs vs)(k:κ):iQ (c7 kvs k) (valueAt vs k):=by
 unfold KV at r
 induction r with
 | nil=>exact True.intro
 | @cons p q ps qs h t ih =>
  obtain⟨h1,h2⟩:=h;by_cases e:p.1=k
  ·have e':q.1=k:=h1.symm.trans e;have b:valueAt (q::qs) k=some q.2:=by simp[valueAt,List.find?_cons,e']
   rw[kU e,b];exact h2
  ·have e':¬ q.1=k:=fun z=>e (h1.trans z)
   have b:valueAt (q::qs) k=valueAt qs k:=by simp[valueAt,List.find?_cons,e']
   rw[kW e,b];exact ih
theorem KV.any{kvs:List (κ×V)}{vs:List (κ×Value)}(r:KV kvs vs)(k:κ):(kvs.any fun kv=>decide (kv.1=k))=vs.any fun kv=>decide (kv.1=k):=by
 unfold KV at r
 induction r with
 | nil=>rfl
 | cons h t ih=>rw[List.any_cons,List.any_cons,ih,h.1]
theorem KV.Gq{kvs:List (κ×V)}{vs:List (κ×Value)}(r:KV kvs vs)(k:κ)(ry:RelV y u) :
  KV (kvs.map fun kv=>if kv.1=k then(kv.1,y)else kv) (vs.map fun kv=>if kv.1=k then(kv.1,u)else kv):=by
 unfold KV at r ⊢
 induction r with
 | nil=>exact .nil
 | @cons p q ps qs h t ih =>
  rw[List.map_cons,List.map_cons];refine .cons ?_ ih;obtain⟨h1,h2⟩:=h;by_cases e:p.1=k
  ·rw[if_pos e,if_pos (h1.symm.trans e)];exact⟨h1,ry⟩
  ·rw[if_neg e,if_neg (fun z=>e (h1.trans z))];exact⟨h1,h2⟩
theorem KV.put{kvs:List (κ×V)}{vs:List (κ×Value)}(r:KV kvs vs)(k:κ)(ry:RelV y u):KV (putK kvs k y) (stored vs k u):=by
 unfold putK stored;rw[r.any k];by_cases e:(vs.any fun kv=>decide (kv.1=k))=true
 ·rw[if_pos e,if_pos e];exact r.Gq k ry
 ·rw[if_neg e,if_neg e];exact Paired.snoc r ⟨rfl,ry⟩
theorem KV.length{kvs:List (κ×V)}{vs:List (κ×Value)}(r:KV kvs vs):kvs.length=vs.length:=Paired.length r
end
variable{P:Program}
theorem lZ{w:World}{k:Key}(r:RelV (kV k) u):(aY P w).is k u=true:=by
 cases k with
 | inl i=>obtain⟨t,e⟩:=(show ∃ t,u=Value.int i t from r);subst e;exact si P w i t
 | inr x=>obtain⟨t,e⟩:=(show ∃ t,u=Value.str x t from r);subst e;exact sg P w x t
theorem nB{P:Program}{w:World}:∀{ks:List Key}{us:List Value},Vals (ks.map kV) us->ItemsAre (aY P w) ks us
 | [],_,r=>by rw[List.map_nil]at r;cases r;exact .nil
 | k::ks,_,r=>by
  rw[List.map_cons]at r;cases r with
  | cons h t=>exact .cons (lZ h) (nB t)
abbrev KT(H:Hp):List (List Key×V)->List (List Key×Addr×Value)->Prop:=Paired fun p q=>p.1=q.1/\H q.2.1=some (.tup (p.1.map kV))/\RelV p.2 q.2.2
theorem KT.val{kvs:List (List Key×V)}{xs:List (List Key×Addr×Value)}(r:KT H kvs xs)(k:List Key):iQ (c7 kvs k) ((atKey xs k).map (·.2)):=by
 induction r with
 | nil=>exact True.intro
 | @cons p q ps qs h t ih =>
  obtain⟨h1,_,h2⟩:=h;by_cases e:p.1=k
  ·have e':q.1=k:=h1.symm.trans e;have b:atKey (q::qs) k=some q.2:=by simp[atKey,List.find?_cons,e']
   rw[kU e,b];exact h2
  ·have e':¬ q.1=k:=fun z=>e (h1.trans z)
   have b:atKey (q::qs) k=atKey qs k:=by simp[atKey,List.find?_cons,e']
   rw[kW e,b];exact ih
theorem KT.Gq{kvs:List (List Key×V)}{xs:List (List Key×Addr×Value)}(r:KT H kvs xs)(k:List Key)(ry:RelV y u) :
  KT H (kvs.map fun kv=>if kv.1=k then(kv.1,y)else kv) (xs.map (putAt k u)):=by
 induction r with
 | nil=>exact .nil
 | @cons p q ps qs h t ih =>
  rw[List.map_cons,List.map_cons];refine .cons ?_ ih;obtain⟨h1,h2,h3⟩:=h;unfold putAt;by_cases e:p.1=k
  ·rw[if_pos e,if_pos (h1.symm.trans e)];exact⟨h1,h2,ry⟩
  ·rw[if_neg e,if_neg (fun z=>e (h1.trans z))];exact⟨h1,h2,h3⟩
theorem KT.put{kvs:List (List Key×V)}{xs:List (List Key×Addr×Value)}(r:KT H kvs xs)(k:List Key){b:Addr}(hb:H b=some (.tup (k.map kV)))(ry:RelV y u) :
  KT H (putK kvs k y) (storedH xs k b u):=by
 have e:(kvs.any fun kv=>decide (kv.1=k)) =(atKey xs k).isSome:=by
  rw[rj,(r.val k).jN,Option.isSome_map]
 unfold putK storedH;rw[e];by_cases q:(atKey xs k).isSome=true
 ·rw[if_pos q,if_pos q];exact r.Gq k ry
 ·rw[if_neg q,if_neg q];exact Paired.snoc r ⟨rfl,hb,ry⟩
theorem KT.keeps{kvs:List (List Key×V)}{xs:List (List Key×Addr×Value)}(r:KT H kvs xs)(ht:∀ b ys,H b=some (.tup ys)->H' b=some (.tup ys)):KT H' kvs xs :=
 Paired.Hn r fun _ _ z=>⟨z.1,ht _ _ z.2.1,z.2.2⟩
variable{kvs:List (Key×V)}
section
variable{w:World}{h:Heap}
theorem Fc{u:HO}(ok:HOk P w H h)(e:Rd H a u):aV P w H h a u:=e.ok ok
theorem hZ(ok:HOk P w H h)(e:Rd H a (.dK kvs)):kvs.length<=sizeLine/\(a==sysModules)=false/\∃ vs,KV kvs vs/\h.DictOf (aY P w) a vs :=
 show aV P w H h a (.dK kvs)from Fc ok e
theorem Bk(ok:HOk P w H h)(e:H a=some (.dK kvs)):kvs.length<=sizeLine/\(a==sysModules)=false/\∃ vs,KV kvs vs/\h.DictOf (aY P w) a vs:=hZ ok (.inl e)
theorem pS{ks:List Key}(ok:HOk P w H h)(e:H a=some (.tup (ks.map kV))):(tupleKind (aY P w)).is h ks a:=by
 obtain⟨_,its,r,⟨o,h1,h2,n,h3⟩,_⟩:=(show aV P w H h a (.tup (ks.map kV))from ok a _ e);exact⟨o,its.toArray,n,h1,h2,h3,by simpa using nB r⟩
theorem wJ{kvs:List (List Key×V)}(ok:HOk P w H h)(e:Rd H a (.dT kvs)):kvs.length<=sizeLine/\(a==sysModules)=false /\
  ∃ xs,KT H kvs xs/\h.DictOfH (tupleKind (aY P w)) a xs:=by
 obtain⟨z,y,xs,r,o,es,ep,h1,h2,h3,h4,h5⟩:=(show aV P w H h a (.dT kvs)from Fc ok e);refine⟨z,y,xs,r,o,es,ep,h1,h2,h3,h4,fun x hx=>?_,h5⟩
 have all:∀{l:List (List Key×V)}{m:List (List Key×Addr×Value)},KT H l m->∀ x∈m,(tupleKind (aY P w)).is h x.1 x.2.1:=by
  intro l m q
  induction q with
  | nil=>intro x hx;exact nomatch hx
  | @cons p q ps qs hq t ih =>
   intro x hx;rcases List.mem_cons.mp hx with e|hx
   ·subst e;exact pS ok (by rw[<- hq.1];exact hq.2.1)
   ·exact ih x hx
 exact all r x hx
theorem KS{kvs:List (List Key×V)}(ok:HOk P w H h)(e:H a=some (.dT kvs)):kvs.length<=sizeLine/\(a==sysModules)=false /\
  ∃ xs,KT H kvs xs/\h.DictOfH (tupleKind (aY P w)) a xs:=wJ ok (.inl e)
end
def hU(H:Hp)(a:Addr)(y:V)(r:Option V):Prop :=
 (∃ kvs k,Rd H a (.dK kvs)/\y=kV k/\r=c7 kvs k)\/∃ kvs k b,Rd H a (.dT kvs)/\y = .ref b/\H b=some (.tup (k.map kV))/\r=c7 kvs k
def sR(H:Hp)(a:Addr)(y v:V)(H':Hp):Prop :=
 (∃ kvs k,H a=some (.dK kvs)/\y=kV k/\kvs.length<sizeLine/\H'=upd H a (.dK (putK kvs k v))) \/
 ∃ kvs k b,H a=some (.dT kvs)/\y = .ref b/\H b=some (.tup (k.map kV))/\kvs.length<sizeLine/\H'=upd H a (.dT (putK kvs k v))
theorem hU.k{H:Hp}{a:Addr}{kvs:List (Key×V)}{k:Key}(e:H a=some (.dK kvs)):hU H a (kV k) (c7 kvs k):=.inl ⟨kvs,k,.inl e,rfl,rfl⟩
theorem sR.k{H:Hp}{a:Addr}{kvs:List (Key×V)}{k:Key}{v:V}(e:H a=some (.dK kvs))(hl:kvs.length<sizeLine):sR H a (kV k) v (upd H a (.dK (putK kvs k v))):=.inl ⟨kvs,k,e,rfl,hl,rfl⟩
variable{Q:Value->Shared->Prop}{h':Heap}{t':Nat}
section
variable{gV:List (Addr×Obj)}{σ:St}{s:Shared}{v:V}{r:Value}{o:Option V}{E:Value->Shared->Prop}
theorem Inv.big(I:Inv X gV σ H s):sysModules<s.heap.objs.size:=by
 have h:mainGlobals<s.heap.objs.size:=(I.mod.glob.keeps I.bk).lt;exact Nat.lt_trans (by decide) h
theorem yC(hu:A.units+1<cLine)(I:Inv X gV σ H s)(g:hU H a y (some v))(ry:RelV y u)(h:∀ w' s',Inv X gV σ H s'->RelV v w'->Q w' s') :
  wpAny (model X.prog X.w) A (getItem (.ref a) u) Q E s:=by
 rcases g with⟨kvs,k,e,ey,l⟩ |⟨kvs,k,b,e,ey,eb,l⟩
 ·subst ey;obtain⟨z,hd,vs,rel,dd⟩:=hZ I.hok e;obtain⟨w',hw,rw'⟩:=iQ.some_of (v:=v) (o:=valueAt vs k) (by rw[l];exact rel.val k)
  exact wpAny_getItem_of (lZ ry) dd.mapOf hw (h w' _ (I.tok _) rw')
 ·subst ey
  cases(show u=Value.ref b from ry)
  obtain⟨z,hd,xs,rel,dd⟩:=wJ I.hok e;obtain⟨w',hw,rw'⟩:=iQ.some_of (v:=v) (o:=(atKey xs k).map (·.2)) (by rw[l];exact rel.val k)
  obtain⟨p,hp,hp2⟩:=Option.map_eq_some_iff.mp hw;refine wpAny_getItem_heap (tupleKind_room_in1 hu) (pS I.hok eb) dd hp ?_;rw[hp2];exact h w' _ (I.tok _) rw'
theorem NF(hu:A.units+1<cLine)(I:Inv X gV σ H s)(g:hU H a y o)(ry:RelV y u)(h:∀ s',Inv X gV σ H s'->Q (.bool o.isSome) s') :
  wpAny (model X.prog X.w) A (compareOp .In u (.ref a)) Q E s:=by
 rcases g with⟨kvs,k,e,ey,l⟩ |⟨kvs,k,b,e,ey,eb,l⟩
 ·subst ey;obtain⟨z,hd,vs,rel,dd⟩:=hZ I.hok e;refine wpAny_in_of (lZ ry) hd dd.mapOf ?_;rw[<- (rel.val k).jN,<- l];exact h _ (I.tok _)
 ·subst ey
  cases(show u=Value.ref b from ry)
  obtain⟨z,hd,xs,rel,dd⟩:=wJ I.hok e;refine wpAny_in_heap (tupleKind_room_in1 hu) (pS I.hok eb) hd dd ?_;have q:=(rel.val k).jN;rw[Option.isSome_map]at q;rw[<- q,<- l];exact h _ (I.tok _)
theorem qp{ob:HO}(I:Inv X gV σ H s)(mu:Mut (H a))(hs:Heap.SameBut a s.heap h')(he:∃ q,h'.get? a=some q)(new:aV X.prog X.w (upd H a ob) h' a ob) :
  Inv X gV σ (upd H a ob) { s with heap:=h',toks:=t' } :=
 I.write (x:=a) (e:=a) mu (.inl rfl) (fun b q hb z=>(hs.2 b hb).trans z) he new
theorem mf{w:World}{vs:List (Key×Value)}(z:kvs.length<=sizeLine)(hd:(a==sysModules)=false)(rel:KV kvs vs)(dd:h'.DictOf (aY P w) a vs) :
  aV P w H' h' a (.dK kvs):=⟨z,hd,vs,rel,dd⟩
theorem yB{Q:Unit->Shared->Prop}(hu:A.units+1<cLine)(I:Inv X gV σ H s)(g:sR H a y v H')(ry:RelV y u)(rv:RelV v r)(h:∀ s',Inv X gV σ H' s'->Q () s') :
  wpAny (model X.prog X.w) A (setItem (.ref a) u r) Q E s:=by
 rcases g with⟨kvs,k,e,ey,l,eH⟩ |⟨kvs,k,b,e,ey,eb,l,eH⟩
 ·subst ey eH;obtain⟨z,hd,vs,rel,dd⟩:=Bk I.hok e;have hz:vs.length<=sizeLine:=by rw[<- rel.length];exact z
  have hl:(putK kvs k v).length<=sizeLine:=by have:=gd kvs k v;omega
  refine wpAny_setItem_pairs (hsz:=hz) (lZ ry) dd fun h' dd' hs=>h _ ?_
  have he:∃ q,h'.get? a=some q:=let⟨q,_,_,hq,_⟩:=dd';⟨q,hq⟩
  exact qp I (by rw[e];exact True.intro) hs he (mf hl hd (rel.put k rv) dd')
 ·subst ey eH
  cases(show u=Value.ref b from ry)
  obtain⟨z,hd,xs,rel,dd⟩:=KS I.hok e;have hz:xs.length<=sizeLine:=by rw[<- Paired.length rel];exact z
  have hl:(putK kvs k v).length<=sizeLine:=by have:=gd kvs k v;omega
  refine wpAny_setItem_heap (hsz:=hz) (tupleKind_room_in1 hu) (pS I.hok eb) dd fun h' dd' hs=>h _ ?_
  obtain⟨q,es,ep,hq,h2,h3,h4,_,h5⟩:=dd';refine qp I (by rw[e];exact True.intro) hs ⟨q,hq⟩ ⟨hl,hd,_,(rel.put k eb rv).keeps fun c ys ec=>?_,q,es,ep,hq,h2,h3,h4,h5⟩
  rw[aj (f9 ec e (fun z=>nomatch z))]
  exact ec
end
section
variable{gV:List (Addr×Obj)}{σ:St}{s:Shared}{k:Key}{E:Value->Shared->Prop}
theorem K7(I:Inv X gV σ H s)(e:Rd H a (.dK kvs))(h:∀ t s',Inv X gV σ H s'->Q (.int kvs.length t) s'):wpAny (model X.prog X.w) A (call (.builtin "len") [.ref a]) Q E s:=by
 obtain⟨z,hd,vs,rel,dd⟩:=hZ I.hok e;refine call_len_dict hd dd (by rw[<- rel.length];rw[sizeLine_eq]at z;omega) ?_
 rw[<- rel.length];exact h _ _ (I.tok _)
end
def LB(i:Expr):Prop:=∀ ov iv,subscripted i false ov iv=operate [ov,iv] (getItem ov iv)
variable{prog:Program}{E:Value->Shared->Prop}{env:Env}{value:Expr}
theorem Co{w:World}{s:Shared}{slice:Expr}{pos:Pos}{T id:String}
  (hl:typeLookup (.type T) "__getitem__" = pure (some (.builtin id))) (hs:LB slice)
  (h:wpAny (model prog w) A (eval value env) (fun o s₁=>wpAny (model prog w) A (eval slice env) (fun i s₂=>s₂.TypeIs o T/\wpAny (model prog w) A (getItem o i) Q E s₂) E s₁) E s) :
  wpAny (model prog w) A (eval (.Subscript value slice pos) env) Q E s:=by
 refine Subscript_ (wpAny_mono h (fun o s₁ h₁=>wpAny_mono h₁ (fun i s₂ h₂=>?_) fun _ _ x=>x) fun _ _ x=>x)
 obtain⟨hT,h₂⟩:=h₂;unfold subscriptTail;refine wpAny_bind ?_;rw[getitemInPython_of_ne hT.not_modules];refine wpAny_bind (wpAny_specialOf hT hl ?_);have fin:wpAny (model prog w) A (subscripted slice false o i) (fun r s₃=>wpAny (model prog w) A (letTemporaryGo value o r >>= fun _=>pure r) Q E s₃) E s₂:=by
  rw[hs o i];exact wpAny_operating (wpAny_mono h₂ (fun r s₃ h₃=>wpAny_bind (wpAny_letTemporaryGo (wpAny_pure h₃))) fun _ _ x=>x)
 first
  | exact wpAny_pure (wpAny_bind fin)
  | exact wpAny_bind (wpAny_pure (wpAny_bind fin))
  | exact wpAny_bind fin
variable{gV:List (Addr×Obj)}
theorem sD{σ:St}{s:Shared}{o:Option V}(I:Inv X gV σ H s)(g:hU H a y o):s.TypeIs (.ref a) "dict":=by
 rcases g with⟨kvs,k,e,_,_⟩ |⟨kvs,k,b,e,_,_,_⟩
 ·obtain⟨_,_,vs,_,dd⟩:=hZ I.hok e;exact dd.typeIs
 ·obtain⟨_,_,xs,_,dd⟩:=wJ I.hok e;exact dd.typeIs
def IJ(td ty:TE):TE:=fun σ H Q=>td σ H fun x H1=>ty σ H1 fun y H2=>∃ a v,x = .ref a/\hU H2 a y (some v)/\Q v H2
def IZ(td ty tv:TE):TS:=fun D σ H=>tv σ H fun v H1=>td σ H1 fun x H2=>ty σ H2 fun y H3=>∃ a H4,x = .ref a/\sR H3 a y v H4/\D.nx σ H4
section
variable{o i e:Expr}{pos pos' MI:Pos}{td ty tv:TE}
theorem fi(hu:X.A.units+1<cLine)(ho:PE X o td)(hi:PE X i ty)(hs:LB i):PE X (.Subscript o i pos) (IJ td ty):=by
 intro gV s σ H Q I h;refine Co PySem.F.slot_dict_getitem.lookup hs (thn (ho gV s σ H _ I h) fun u s1 ⟨x,H1,I1,rx,q1⟩=>thn (hi gV s1 σ H1 _ I1 q1) fun iv s2 hPP=>?_)
 obtain⟨y,H2,I2,ry,a,v,ex,g,q2⟩:=hPP;subst ex;obtain rfl:u=Value.ref a:=rx;exact⟨sD I2 g,yC hu I2 g ry fun w' s3 I3 rw'=>⟨v,H2,I3,rw',q2⟩⟩
theorem oU(hu:X.A.units+1<cLine)(ho:PE X o td)(hi:PE X i ty)(hv:PE X value tv)(hs:swapsWith value (some (.Subscript o i pos')) pos.line X.env=pure false) :
  PS X (.Assign [.Subscript o i pos'] value pos) (IZ td ty tv):=by
 intro gV s σ H D I h;refine wpAny_Assign_Subscript (thn (hv gV s σ H _ I h) fun r s1 ⟨v,H1,I1,rv,q1⟩=>thn (ho gV s1 σ H1 _ I1 q1) fun u s2 ⟨x,H2,I2,rx,q2⟩=>thn (hi gV s2 σ H2 _ I2 q2) fun iv s3 hPP=>?_) hs
 obtain⟨y,H3,I3,ry,a,H4,ex,g,q3⟩:=hPP;subst ex;obtain rfl:u=Value.ref a:=rx;exact yB hu I3 g ry rv fun s4 I4=>⟨σ,H4,I4,q3⟩
end
theorem Bl{w:World}(h:Heap)(hb:sysModules<h.objs.size):aV P w H (h.push { cls:=.type "dict",data:=.dict #[] }) h.objs.size (.dK []) :=
 ⟨Nat.zero_le _,beq_eq_false_iff_ne.mpr (Ne.symm (Nat.ne_of_lt hb)),[],.nil,Heap.DictOf.new h⟩
def sZ:List (TE×TE)->St->Hp ->(List (V×V)->Hp->Prop)->Prop
 | [],_,H,Q=>Q [] H
 | (tk,tv)::r,σ,H,Q=>tk σ H fun x H1=>tv σ H1 fun y H2=>sZ r σ H2 fun ps H3=>Q ((x,y)::ps) H3
abbrev VV:List (V×V)->List (Value×Value)->Prop:=Paired fun p q=>RelV p.1 q.1/\RelV p.2 q.2
def PPs(X:Cx)(pos:Pos)(keys:List (Option Expr))(values:List Expr)(trs:List (TE×TE)):Prop :=
 ∀(gV:List (Addr×Obj))(s:Shared)(σ:St)(H:Hp)(Q:List (V×V)->Hp->Prop),Inv X gV σ H s->sZ trs σ H Q ->
  wpAny (model X.prog X.w) X.A (evalPairs (pairTrees keys values X.env pos)) (fun vs s'=>∃ ps H',Inv X gV σ H' s'/\VV ps vs/\Q ps H') X.xe s
theorem Dk{pos:Pos}:PPs X pos [] [] []:=fun gV s σ H Q I h=>pairTrees_nil_walk ⟨[],H,I,.nil,h⟩
variable{tk:TE}{tv:TE}
theorem lG{pos:Pos}{k v:Expr}{ks:List (Option Expr)}{vs:List Expr}{trs:List (TE×TE)}(hk:PE X k tk)(hv:PE X v tv)(hr:PPs X pos ks vs trs) :
  PPs X pos (some k::ks) (v::vs) ((tk,tv)::trs):=fun gV s σ H Q I h =>
 pairTrees_cons_walk (thn (hk gV s σ H _ I h) fun u s1 ⟨x,H1,I1,rx,q1⟩=>thn (hv gV s1 σ H1 _ I1 q1) fun w2 s2 ⟨y,H2,I2,ry,q2⟩ =>
  thn (hr gV s2 σ H2 _ I2 q2) fun ws s3 ⟨ps,H3,I3,rel,q3⟩=>⟨(x,y)::ps,H3,I3,.cons ⟨rx,ry⟩ rel,q3⟩)
def cI(kvs more:List (Key×V)):List (Key×V):=more.foldl (fun acc kv=>putK acc kv.1 kv.2) kvs
theorem KV.merge:∀{more:List (Key×V)}{rs:List (Key×Value)}{kvs:List (Key×V)}{vs:List (Key×Value)},KV more rs->KV kvs vs->KV (cI kvs more) (merged vs rs):=by
 intro more rs kvs vs r;unfold KV at r
 induction r generalizing kvs vs with
 | nil=>intro q;exact q
 | @cons p q ps qs h t ih =>
  intro r0;have e:KV (putK kvs p.1 p.2) (stored vs q.1 q.2):=by
   have:=r0.put p.1 h.2
   rw[<- h.1];exact this
  exact ih e
theorem cW:∀(more kvs:List (Key×V)),(cI kvs more).length<=kvs.length+more.length
 | [],kvs=>by show kvs.length<=kvs.length+0;omega
 | p::r,kvs=>by
  have h1:=cW r (putK kvs p.1 p.2);have h2:=gd kvs p.1 p.2;show(cI (putK kvs p.1 p.2) r).length<=_;rw[List.length_cons];omega
theorem mv{P:Program}{w:World}:∀{kvs:List (Key×V)}{ws:List (Value×Value)},VV (kvs.map fun kv=>(kV kv.1,kv.2)) ws->∃ rs,Carries (aY P w) ws rs/\KV kvs rs
 | [],_,r=>by rw[List.map_nil]at r;cases r;exact⟨[],True.intro,.nil⟩
 | p::kvs,_,r=>by
  rw[List.map_cons]at r;cases r with
  | @cons a b as bs h t =>
   obtain⟨rs,c,q⟩:=mv (P:=P) (w:=w) t;obtain⟨b1,b2⟩:=b;exact⟨(p.1,b2)::rs,⟨lZ h.1,rfl,c⟩,.cons ⟨rfl,h.2⟩ q⟩
def II(trs:List (TE×TE)):TE:=fun σ H Q=>∀ p,H p=none->sZ trs σ (upd H p (.dK [])) fun ps H2=>H2 p=some (.dK [])/\∃ kvs:List (Key×V),ps=kvs.map (fun kv=>(kV kv.1,kv.2))/\kvs.length<=15/\Q (.ref p) (upd H2 p (.dK (cI [] kvs)))
theorem Dz{pos:Pos}{keys:List (Option Expr)}{values:List Expr}{trs:List (TE×TE)}(h:PPs X pos keys values trs)(HQ:keys.all (·.isSome)=true)(hl:keys.length=values.length)(h0:keys ≠ [])
  (h15:keys.length<=15):PE X (.Dict keys values pos) (II trs):=by
 intro gV s σ H Q I q;have hn:=I.hok.fresh (Nat.le_refl s.heap.objs.size);have I1:=I.laid (a:=s.heap.objs.size) (o:=.dK []) (h':=s.heap.push { cls:=.type "dict",data:=.dict #[] }) (t':=s.toks) (fun _ _ q=>Heap.get?_push_of_some _ q) (Nat.le_refl _) (Bl s.heap I.big)
 refine wpAny_Dict_walk (knd:=aY X.prog X.w) HQ hl h0 h15 (thn (h gV _ σ _ _ I1 (q _ hn)) fun ws s2 hPP=>?_)
 obtain⟨ps,H2,I2,rel,e,kvs,ep,lk,q2⟩:=hPP;subst ep;obtain⟨rs,c,rk⟩:=mv (P:=X.prog) (w:=X.w) rel;obtain⟨z,hd,vs0,r0,dd⟩:=Bk I2.hok e;cases r0;refine⟨rs,c,dd,fun h' dd' hs=>⟨.ref s.heap.objs.size,_,?_,rfl,q2⟩⟩
 have hz:(cI [] kvs).length<=sizeLine:=by
  have h1:=cW kvs [];rw[List.length_nil]at h1;rw[sizeLine_eq];omega
 have he:∃ q,h'.get? s.heap.objs.size=some q:=let⟨q,_,_,hq,_⟩:=dd';⟨q,hq⟩
 exact qp I2 (by rw[e];exact True.intro) hs he (mf hz hd (rk.merge .nil) dd')
section
theorem yJ:bW X (.builtin "len") (fun xs H Q=>∃ a kvs,xs = [V.ref a]/\H a=some (.dK kvs)/\Q (.int kvs.length) H):=by
 intro gV s σ H xs us Q I r h;obtain⟨a,kvs,rfl,ha,q⟩:=h;obtain⟨u,rfl,ru⟩:=vals1 r;cases ru;exact K7 I (.inl ha) fun t s' I'=>⟨.int kvs.length,H,I',⟨t,rfl⟩,q⟩
end
end L2
set_option maxHeartbeats 4000000
namespace L2
open PySem PySem.Spec PyProof.Rows
theorem lR{h:Heap}{a:Nat}{o:Obj}(e:h.get? a=some o):@LT.lt Nat _ a h.objs.size:=Heap.lt_size e
theorem wY{h:Heap}{a:Nat}{v:Option Value}(e:h.IsCell a v):@LT.lt Nat _ a h.objs.size:=e.lt
theorem je{a b:Nat}(h:a<b):@Ne Addr a b:=Nat.ne_of_lt h
theorem Kb{a b:Nat}(h:b<a):@Ne Addr a b:=Nat.ne_of_gt h
theorem gp{env:Env}{body:Str×NameKind->List (Str×Addr)->Sem (ForInStep (List (Str×Addr)))}
  (hb:∀ n k c,body (n,k) c=if(k==NameKind.free)=true then(cellOf env n >>= fun a=>pure (.yield ((n,a)::c)))else pure (.yield c)) :
  ∀(l:List (Str×NameKind))(cs:List (Str×Addr)),(∀ p∈l,p.2=NameKind.free->∃ c,env.cells.lookup p.1=some c) ->
   ∃ cl,forIn l cs body=pure cl/\(∀ x c,cl.lookup x=some c->env.cells.lookup x=some c\/cs.lookup x=some c)/\(∀ x,(x,NameKind.free)∈l->∃ c,cl.lookup x=some c)/\∀ x c,cs.lookup x=some c->∃ c',cl.lookup x=some c'
 | [],cs,_=>⟨cs,rfl,fun _ _ h=>.inr h,fun _ h=>(nomatch h),fun _ c h=>⟨c,h⟩⟩
 | (n,k)::r,cs,h=>by
  have hr:∀ p∈r,p.2=NameKind.free->∃ c,env.cells.lookup p.1=some c:=fun p hp=>h p (List.mem_cons_of_mem _ hp)
  rw[List.forIn_cons,hb];by_cases hk:(k==NameKind.free)=true
  ·rw[if_pos hk];have hk':k = .free:=by simpa using hk
   obtain⟨c,hc⟩:=h (n,k) List.mem_cons_self hk';have e1:cellOf env n=pure c:=by unfold cellOf;rw[hc]
   rw[e1];obtain⟨cl,e,h1,h2,h3⟩:=gp hb r ((n,c)::cs) hr;refine⟨cl,e,fun x c' hx=>?_,fun x hx=>?_,fun x c' hx=>?_⟩
   ·rcases h1 x c' hx with z|z
    ·exact .inl z
    ·by_cases e2:(x==n)=true
     ·have e3:x=n:=by simpa using e2
      subst e3;rw[List.lookup_cons,e2]at z;cases z;exact .inl hc
     ·rw[List.lookup_cons,Bool.eq_false_iff.mpr e2]at z;exact .inr z
   ·rcases List.mem_cons.mp hx with z|z
    ·have e2:x=n:=congrArg Prod.fst z;exact h3 x c (by rw[List.lookup_cons,e2,beq_self_eq_true])
    ·exact h2 x z
   ·by_cases e2:(x==n)=true
    ·exact h3 x c (by rw[List.lookup_cons,e2])
    ·exact h3 x c' (by rw[List.lookup_cons,Bool.eq_false_iff.mpr e2];exact hx)
  ·rw[if_neg hk];obtain⟨cl,e,h1,h2,h3⟩:=gp hb r cs hr;refine⟨cl,e,h1,fun x hx=>?_,h3⟩
   rcases List.mem_cons.mp hx with z|z
   ·cases z;exact absurd rfl hk
   ·exact h2 x z
variable{scope:Scope}{env:Env}
theorem va(h:∀ p∈scope.names,p.2=NameKind.free->∃ c,env.cells.lookup p.1=some c) :
  ∃ cl:List (Str×Addr),closureFor scope env=pure cl/\(∀ x c,cl.lookup x=some c->env.cells.lookup x=some c)/\∀ x,(x,NameKind.free)∈scope.names->∃ c,cl.lookup x=some c:=by
 obtain⟨cl,e,h1,h2,_⟩:=gp (env:=env) (body:=fun x c=>if(x.2==NameKind.free)=true then(cellOf env x.1 >>= fun a=>pure (.yield ((x.1,a)::c)))else pure (.yield c)) (fun _ _ _=>rfl) scope.names [] h
 refine⟨cl,?_,fun x c hx=>(h1 x c hx).elim id fun z=>by simp at z,h2⟩
 have e2:closureFor scope env =(forIn scope.names ([]:List (Str×Addr)) (fun x c=>if(x.2==NameKind.free)=true then(cellOf env x.1 >>= fun a=>pure (.yield ((x.1,a)::c)))else pure (.yield c)) >>= fun r=>pure r):=by
  simp only[closureFor]
 rw[e2,e];rfl
theorem dW{env:Env}:∀{names:List (Str×NameKind)}{x:Str}{k:NameKind},
  (names.map fun(n,k)=>if(k==NameKind.free&&env.scope.kind == .function&&env.kindOf n==some .cell)then(n,NameKind.cell)else(n,k)).lookup x=some k ->
   names.lookup x=some k\/(names.lookup x=some .free/\k = .cell)
 | [],_,_,h=>by simp at h
 | (n,k0)::r,x,k,h=>by
  have ih:=@dW env r x k
  replace h:List.lookup x ((if(k0==NameKind.free&&env.scope.kind == .function&&env.kindOf n==some .cell)=true then(n,NameKind.cell)else(n,k0)) ::(r.map fun(n,k)=>if(k==NameKind.free&&env.scope.kind == .function&&env.kindOf n==some .cell)then(n,NameKind.cell)else(n,k)))=some k:=h
  cases hx:x==n with
  | true =>
   by_cases hc:(k0==NameKind.free&&env.scope.kind == .function&&env.kindOf n==some .cell)=true
   ·rw[if_pos hc]at h;simp only[List.lookup_cons,hx]at h;cases h
    have:k0 = .free:=by
     simp only[Bool.and_eq_true]at hc;simpa using hc.1.1
    subst this;exact .inr ⟨by simp only[List.lookup_cons,hx],rfl⟩
   ·rw[if_neg hc]at h;simp only[List.lookup_cons,hx]at h;exact .inl (by simp only[List.lookup_cons,hx];exact h)
  | false =>
   have h':(r.map fun(n,k)=>if(k==NameKind.free&&env.scope.kind == .function&&env.kindOf n==some .cell)then(n,NameKind.cell)else(n,k)).lookup x=some k:=by
    by_cases hc:(k0==NameKind.free&&env.scope.kind == .function&&env.kindOf n==some .cell)=true
    ·rw[if_pos hc]at h;simpa only[List.lookup_cons,hx]using h
    ·rw[if_neg hc]at h;simpa only[List.lookup_cons,hx]using h
   rcases ih h' with z|z
   ·exact .inl (by simp only[List.lookup_cons,hx];exact z)
   ·exact .inr (by simp only[List.lookup_cons,hx];exact z)
theorem i3{env:Env}:∀{names:List (Str×NameKind)}{x:Str},names.lookup x=some .free ->
  (names.map fun(n,k)=>if(k==NameKind.free&&env.scope.kind == .function&&env.kindOf n==some .cell)then(n,NameKind.cell)else(n,k)).lookup x=some .free \/
  (names.map fun(n,k)=>if(k==NameKind.free&&env.scope.kind == .function&&env.kindOf n==some .cell)then(n,NameKind.cell)else(n,k)).lookup x=some .cell
 | [],_,h=>by simp at h
 | (n,k0)::r,x,h=>by
  have ih:=@i3 env r x;show List.lookup x ((if(k0==NameKind.free&&env.scope.kind == .function&&env.kindOf n==some .cell)=true then(n,NameKind.cell)else(n,k0))::_)=_\/List.lookup x ((if(k0==NameKind.free&&env.scope.kind == .function&&env.kindOf n==some .cell)=true then(n,NameKind.cell)else(n,k0))::_)=_
  cases hx:x==n with
  | true =>
   simp only[List.lookup_cons,hx]at h;cases h;by_cases hc:(NameKind.free==NameKind.free&&env.scope.kind == .function&&env.kindOf n==some .cell)=true
   ·rw[if_pos hc];simp only[List.lookup_cons,hx];exact .inr trivial
   ·rw[if_neg hc];simp only[List.lookup_cons,hx];exact .inl trivial
  | false =>
   simp only[List.lookup_cons,hx]at h;by_cases hc:(k0==NameKind.free&&env.scope.kind == .function&&env.kindOf n==some .cell)=true
   ·rw[if_pos hc];simp only[List.lookup_cons,hx];exact ih h
   ·rw[if_neg hc];simp only[List.lookup_cons,hx];exact ih h
inductive jw(X:Cx)(sc:Scope):List Str->List (Option Nat)->Prop
 | nil:jw X sc [] []
 | own{x:Str}{N:List Str}{c:List (Option Nat)}:sc.names.lookup x=some .local->jw X sc N c->jw X sc (x::N) (none::c)
 | got{x:Str}{i:Nat}{N:List Str}{c:List (Option Nat)}:X.N[i]? = some x->sc.names.lookup x=some .free ->(X.env.kindOf x=some .cell\/X.env.kindOf x=some .free)->jw X sc N c->jw X sc (x::N) (some i::c)
def jm(c:List (Option Nat))(σ:St):St:=c.map fun o=>o.bind fun(i:Nat)=>(σ[i]?).join
variable{X:Cx}{sc:Scope}{N:List Str}
theorem jw.len{c:List (Option Nat)}{σ:St}(h:jw X sc N c):(jm c σ).length=N.length:=by
 unfold jm;rw[List.length_map]
 induction h with
 | nil=>rfl
 | own _ _ ih=>simp[ih]
 | got _ _ _ _ ih=>simp[ih]
theorem jw.at{X:Cx}{sc:Scope}{N:List Str}{c:List (Option Nat)}{σ:St}(h:jw X sc N c):∀{j:Nat}{x:Str}{v:V},N[j]? = some x ->(jm c σ)[j]? = some (some v) ->
  ∃ i:Nat,X.N[i]? = some x/\σ[i]? = some (some v)/\sc.names.lookup x=some .free/\(X.env.kindOf x=some .cell\/X.env.kindOf x=some .free):=by
 induction h with
 | nil=>intro j x v h1;simp at h1
 | own _ _ ih =>
  intro j x v h1 h2;cases j with
  | zero=>simp[jm]at h2
  | succ j=>exact ih (by simpa using h1) (by simpa [jm]using h2)
 | @got y i N c g1 g2 g3 _ ih =>
  intro j x v h1 h2;cases j with
  | zero =>
   have e:y=x:=by simpa using h1
   subst e;refine⟨i,g1,?_,g2,g3⟩;have h2':(σ[i]?).join=some v:=by simpa [jm]using h2
   cases q:σ[i]? with
   | none=>rw[q]at h2';cases h2'
   | some o =>
    rw[q]at h2'
    have:o=some v:=h2'
    rw[this]
  | succ j=>exact ih (by simpa using h1) (by simpa [jm]using h2)
def blk(X:Cx)(N':List Str)(sc:Scope)(cl:List (Str×Addr))(C:Addr)(s₂:Shared)(H₂:Hp)(fp:List Addr):Cx :=
 { X with N:=N',s₀:=s₂,H₀:=H₂,env:=compEnvC sc cl C X.env,outer:=X.stack,ex:=fp,fn:=fun _=>false,pn:=[],xe:=fun _ _=>False }
def PTs(X:Cx)(ifs:List Expr)(t:TT):Prop :=
 ∀(gV:List (Addr×Obj))(s:Shared)(σ:St)(H:Hp)(Q:Bool->Hp->Prop),Inv X gV σ H s->t σ H Q ->
  wpAny (model X.prog X.w) X.A (forIn ifs true fun c r=>if r=true then do let ok <- isTrue c X.env (eval c X.env);pure (ForInStep.yield ok)else pure (ForInStep.yield r)) (TP X gV σ Q) X.xe s
def vG:TT:=fun _ H Q=>Q true H
theorem wa:PTs X [] vG:=fun _ _ _ H _ I h=>wpAny_tests_nil ⟨H,I,h⟩
theorem v9{c:Expr}{t:TT}(h:PT X c t):PTs X [c] t:=fun gV s σ H Q I q=>wpAny_tests_one (h gV s σ H Q I q)
def FY(g:TG)(tst:TT)(te:TE)(σ0:St)(Q:VK)(J:It)(H1:Hp):Prop :=
 ∃ W:Nat->Nat->List V->St->Hp->Prop,(∃ m,W 0 m [] σ0 H1)/\∀ i m ys σ' H',W i m ys σ' H' ->
  (J.stop i H'/\ys.length<=sizeLine/\∀ D,H' D=none->Q (.ref D) (upd H' D (.lst ys))) \/
  (J.go i H'/\ys.length<sizeLine/\∃ N:List V->St->Hp->Prop,(∀ ys2 σ2 H2,N ys2 σ2 H2->∃ m',m'<m/\W (i+1) m' ys2 σ2 H2)/\∀ x H2,J.yld i H' x H2->g x σ' H2 fun σ2 H3=>tst σ2 H3 fun b H4 =>
   if b=true then te σ2 H4 fun y H5=>N (ys ++ [y]) σ2 H5 else N ys σ2 H4)
def nc(cap:List (Option Nat))(wi:TI)(g:TG)(tst:TT)(te:TE):TE:=fun σ H Q=>wi σ H (FY g tst te (jm cap σ) Q)
variable{prog:Program}{A:Around}{R:Result->Shared->Prop}{elt:Expr}{iter:Expr}{ifs:List Expr}
theorem yG{w:World}{s:Shared}{target:Expr}{pos:Pos}{it acc:Value}(I:Nat->Shared->Prop)
  (turn:∀ n s,I n s->wpAny (model prog w) A (pyNext it) (fun r s₁=>match r with
   | none=>R (.ok .next) s₁
   | some v=>wpAny (model prog w) A (letOwnedTupleGo target it v) (fun _ s₁'=>wpAny (model prog w) A (assign target env v) (fun _ s₂ =>
     wpAny (model prog w) A (forIn ifs true fun c r=>if r=true then do let ok <- isTrue c env (eval c env);pure (ForInStep.yield ok)else pure (ForInStep.yield r)) (fun ok s₃ =>
      if ok=true then wpAny (model prog w) A (eval elt env) (fun x s₄ =>
       wpAny (model prog w) A (call (.builtin "list.append") [acc,x]) (fun _ s₅=>∃ m,m<n/\I m s₅) (fun _ _=>False) s₄) (fun _ _=>False) s₃
      else ∃ m,m<n/\I m s₃) (fun _ _=>False) s₂) (fun _ _=>False) s₁') (fun _ _=>False) s₁) (fun _ _=>False) s)
  (n:Nat) (h:I n s) :
  codeAny (model prog w) A (.compLoop (.ListComp elt [⟨target,iter,ifs,0⟩] scope pos) 0 it acc env) R s:=by
 refine codeAny_loop rfl I (fun n s hI=>?_) n h
 show wpAny _ A ((compTurn (.ListComp elt [⟨target,iter,ifs,0⟩] scope pos) 0 it acc env).onRaise (fun x=>do noteFrame x env;theTreesLotGoes x)) _ _ s
 refine wpAny_noted ?_;rw[compTurn_list];refine wpAny_bind (wpAny_standAt (wpAny_bind (wpAny_mono (turn n s hI) (fun r s₁ h₁=>?_) fun _ _ h'=>h'.elim)))
 cases r with
 | none=>exact wpAny_pure h₁
 | some v =>
  refine wpAny_bind (wpAny_mono h₁ (fun _ s₁' h₁'=>?_) fun _ _ h'=>h'.elim)
  refine wpAny_bind (wpAny_mono h₁' (fun _ s₂ h₂=>wpAny_bind (wpAny_mono h₂ (fun ok s₃ h₃=>?_) fun _ _ h'=>h'.elim)) fun _ _ h'=>h'.elim)
  cases ok with
  | false=>exact wpAny_pure ⟨rfl,h₃⟩
  | true =>
   exact wpAny_bind (wpAny_bind (wpAny_mono h₃ (fun x s₄ h₄=>wpAny_bind (wpAny_mono h₄ (fun _ s₅ h₅=>wpAny_pure (wpAny_pure ⟨rfl,h₅⟩)) fun _ _ h'=>h'.elim)) fun _ _ h'=>h'.elim))
variable{gV:List (Addr×Obj)}{H:Hp}{tg:Expr}{N':List Str}{cap:List (Option Nat)}{tst:TT}{te:TE}
theorem sH{σ:St}{s:Shared}{Q:VK}{p pos:Pos}{wi:TI}{g:TG}{use:Option (Value->Sem Unit)}{Q':Value->Shared->Prop}
  (hc:X.calm=true) (hi:PI X tg iter wi) (eT:sc.kind = .function) (eU:∀ y∈sc.names,y.2 ≠ .cell) (fv:∀ y∈sc.names,y.2 = .local->sc.names.lookup y.1=some .local)
  (fC:∀ y∈sc.names,y.2 = .free->X.env.kindOf y.1=some .cell\/X.env.kindOf y.1=some .free) (mW:jw X sc N' cap)
  (hb:∀ cl C s₂ H₂ fp,PG (blk X N' sc cl C s₂ H₂ fp) tg g/\PTs (blk X N' sc cl C s₂ H₂ fp) ifs tst/\PE (blk X N' sc cl C s₂ H₂ fp) elt te)
  (I:Inv X gV σ H s) (h:nc cap wi g tst te σ H Q)
  (fin:∀ D C m H' s',Inv X gV σ H' s'->mJ X gV H' C->s'.heap.Ns C m->Q (.ref D) H'->compPost (model X.prog X.w) X.A X.xe use Q' (.ref D) C (.ok .next) s')
  (hs:∀ x,foldedSetIterable iter X.env x=pure x) :
  wpAny (model X.prog X.w) X.A (comprehension (.ListComp elt [⟨tg,iter,ifs,0⟩] sc pos) sc X.env p (newList []) false (eval iter X.env) use) Q' X.xe s:=by
 obtain⟨cl,KD,sA,KG⟩:=va (scope:=sc) (env:=X.env) fun q hq e=>I.ok.has q.1 (fC q hq e)
 refine wpAny_comprehension_free rfl hs KD eT fv (thn (hi gV s σ H _ I h) fun v s1 h1=>thn h1 fun itv s2 h2=>?_)
 obtain⟨it,fp,tn,J,H2,e,I2,T,st2,f2,W,⟨m0,w0⟩,turn⟩:=h2;subst e;refine wpAny_newObj_type (wpAny_newFunctionEnv eU (by intro y hy;simp at hy) (fun h₁ Ed A6=>?_) eT)
 dsimp only at Ed A6 ⊢
 generalize hHP:s2.heap.push { cls:=.type "list",dict:=none,data:=.seq ([]:List Value).toArray }=HP at Ed A6 ⊢
 have hC:HP.objs.size=s2.heap.objs.size+1:=by rw[<- hHP,Heap.size_push]
 obtain⟨D,hDn⟩:∃ D:Nat,s2.heap.objs.size=D:=⟨_,rfl⟩
 obtain⟨C,hCn⟩:∃ C:Nat,HP.objs.size=C:=⟨_,rfl⟩
 rw[hDn]at hC;rw[hCn]at hC Ed A6 ⊢;rw[hDn];have hDC:@Ne Addr D C:=je (by omega)
 have old:∀ b o,s2.heap.get? b=some o->h₁.get? b=some o:=fun b o e =>
  A6.extBut b o (je (by have:=lR e;omega)) (Heap.get?_push_of_some _ (hHP▸Heap.get?_push_of_some _ e))
 have dG:h₁.get? D=some { cls:=.type "list",data:=.seq ([]:List Value).toArray 0 } :=
  A6.extBut _ _ hDC (Heap.get?_push_of_some _ (by rw[<- hHP,<- hDn];exact Heap.get?_push_size _ rfl))
 have okB:(blk X N' sc cl C s2 H2 fp).Ok:=by
  refine⟨I.ok.mod,eT,I.ok.glob,I.ok.blt,(by show s2.heap.objs.size<=C;omega),fun x y c h1 h2=>I.ok.inj x y c (sA x c h1) (sA y c h2),fun x hx=>?_,fun x c hx=>(nomatch hx),I.ok.hd,I.ok.frames,.inl rfl,fun b hb=>?_,
   fun b o e=>I2.bs b o e,Nat.le_trans I2.ok.bsz I2.sz,fun b o e hb=>?_,fun b hb=>?_,I2.stack,I2.vK⟩
  ·have hx':sc.names.lookup x=some .free:=by
    rcases hx with hx|hx
    ·rcases dW hx with z|z
     ·exact absurd rfl (eU _ (PySem.mem_of_lookup z))
     ·exact z.1
    ·rcases dW hx with z|z
     ·exact z
     ·exact z.1
   exact KG x (PySem.mem_of_lookup hx')
  ·obtain⟨o,ho,_⟩:=T.obj _ _ st2 b hb;refine⟨?_,fun x c e=>(f2 b hb).2.2.2.2.1 x c (sA x c e)⟩
   show @Ne Addr b C
   have:=lR ho
   exact je (by omega)
  ·obtain⟨_,_,_,z,_⟩:=f2 b hb;rcases z with z|z
   ·exact I2.ok.AG b o e z
   ·have:=lR (show X.base.get? b=some o from e)
    have:=I2.ok.bsz
    omega
  ·intro hb';rcases List.mem_cons.mp (I2.n6 b hb')with z|z
   ·exact(f2 b hb).2.1 z
   ·exact(f2 b hb).2.2.1 z
 have nD:H2 D=none:=I2.hok.fresh (by rw[hDn];exact Nat.le_refl _)
 have hb0:=hb cl C s2 H2 fp
 generalize hXB:blk X N' sc cl C s2 H2 fp=XB at okB hb0
 have eP:XB.prog=X.prog:=by rw[<- hXB];rfl
 have eW:XB.w=X.w:=by rw[<- hXB];rfl
 have eK:XB.K=X.K:=by rw[<- hXB];rfl
 have eA:XB.A=X.A:=by rw[<- hXB];rfl
 have eE:XB.env=compEnvC sc cl C X.env:=by rw[<- hXB];rfl
 have eX:XB.xe=fun _ _=>False:=by rw[<- hXB];rfl
 have eFs:XB.fs=frs X.stack:=by rw[<- hXB];rfl
 have eEx:XB.ex=fp:=by rw[<- hXB];rfl
 have eS:XB.s₀=s2:=by rw[<- hXB];rfl
 have eH:XB.H₀=H2:=by rw[<- hXB];rfl
 have ePn:XB.pn = []:=by rw[<- hXB];rfl
 have eCa:XB.calm=true:=by rw[<- hXB];exact hc
 have eN:XB.N=N':=by rw[<- hXB];rfl
 have eL:XB.env.locals=C:=by rw[eE];rfl
 have eCl:XB.env.cells=cl:=by rw[eE];rfl
 have NJ:∀(x:Str)(c:Nat),cl.lookup x=some c->c<D:=fun x c e=>by
  obtain⟨v,z⟩:=I2.cell x c (sA x c e)
  have:=wY z
  omega
 have nfs:∀(b:Nat),D<=b->b ∉ XB.fs:=fun b hb z=>by
  rw[eFs]at z;obtain⟨_,o,ho,_⟩:=I2.stack.mem z
  have:=lR ho
  omega
 have fpD:∀(b:Nat),b∈fp->b<D:=fun b hb=>by
  obtain⟨o,ho,_⟩:=T.obj _ _ st2 b hb
  have:=lR ho
  omega
 have loop:∀ s3:Shared,s3 ={ s2 with heap:=h₁,toks:=s2.toks+([]:List (Str×Value)).length } ->
   codeAny (model X.prog X.w) X.A (.compLoop (.ListComp elt [⟨tg,iter,ifs,0⟩] sc pos) 0 (.ref it) (.ref D) (compEnvC sc cl C X.env)) (compPost (model X.prog X.w) X.A X.xe use Q' (.ref D) C) s3:=by
  rintro s3 rfl
  refine yG (fun n s'=>∃ i ys σ' H' its k,Inv XB [] σ' H' s'/\tn i s'.heap/\(∀ b∈fp,H' b=none)/\H' D=none/\s'.heap.get? D=some { cls:=.type "list",data:=.seq (its:List Value).toArray k }/\Vals ys its/\W i n ys σ' H') ?_ m0
   ⟨0,[],jm cap σ,H2,[],0,?_,T.keep _ _ _ st2 fun b hb o e=>old b o e,fun b hb=>(f2 b hb).1,nD,dG,.nil,w0⟩
  ·rintro n s4 ⟨i,ys,σ4,H4,its,k,I4,st4,fr4,d4,o4,v4,w4⟩
   have fpk:∀{H':Hp}{pl:List (Addr×Obj)},(∀ b∈fp,H' b=none) ->(∀ q∈pl,q.1 ∉ fp)->∀ b∈fp,mJ XB pl H' b:=fun{H' pl} hn hpl b hb=>by
    refine⟨hn b hb,?_,?_,.inl (by rw[eEx];exact hb),fun x c e=>?_,fun q hq=>?_⟩
    ·rw[eL];have:=fpD b hb;exact je (by omega)
    ·rw[eFs];intro z;rcases List.mem_cons.mp (I2.n6 b z)with z|z
     ·exact(f2 b hb).2.1 z
     ·exact(f2 b hb).2.2.1 z
    ·rw[eCl]at e;exact(f2 b hb).2.2.2.2.1 x c (sA x c e)
    ·rw[ePn]at hq;intro z;exact hpl q (by simpa using hq) (z▸hb)
   have pD:∀ q ∈ [(D,({ cls:=.type "list",data:=.seq its.toArray k }:Obj))],q.1 ∉ fp:=fun q hq=>by
    have e:q=_:=List.mem_singleton.mp hq;subst e;intro z
    have:=fpD _ z
    omega
   have I4':Inv XB [(D,{ cls:=.type "list",data:=.seq its.toArray k })] σ4 H4 s4:=I4.i6 fun q hq=>by
    have e:q=_:=List.mem_singleton.mp hq;subst e;refine⟨o4,d4,?_,nfs _ (Nat.le_refl _),fun v=>by simp⟩
    rw[eL];exact hDC
   have N5:=I4';rw[<- eA,<- eP,<- eW];rcases turn i n ys σ4 H4 w4 with⟨stop,hz,qn⟩ |⟨go,hz,N,hN,step⟩
   ·rw[<- eP,<- eW,<- eK]at T;refine wpAny_mono (T.done XB rfl rfl rfl eCa i _ s4 σ4 H4 (fun _ _=>False) I4' (fpk fr4 pD) st4 stop) (fun r s5 ⟨hr,I5⟩=>?_) fun _ _ z=>z
    subst hr;rw[eP,eW,eA];obtain⟨o5,n5,_⟩:=I5.pin (D,{ cls:=.type "list",data:=.seq its.toArray k }) (List.mem_append_right _ (List.mem_singleton.mpr rfl));have u5:Un (frs X.stack) fp H2 H4 s2.heap s5.heap:=by
     have z:=I5.base;rw[eFs,eEx,eH,eS]at z;exact z
    have lt2:∀ b o,s2.heap.get? b=some o -> @Ne Addr b D:=fun b o e=>je (by have:=lR e;omega)
    have ne5:∀ b u,H4 b=some u->b≠D:=fun b u e z=>by rw[z,d4]at e;cases e
    have hk5:HOk X.prog X.w H4 s5.heap:=by
     have z:=I5.hok;rw[eP,eW]at z;exact z
    have NB:=fin D C;obtain⟨mC,hNs,_⟩:=id I5.loc;rw[eL]at hNs;have IX:Inv X gV σ (upd H4 D (.lst ys)) s5:=by
     refine I2.Li (s':=s5) (ch:=fp) ?_ ⟨u5.keep,u5.slot,fun b o e n hx=>?_,u5.there,fun b xs e=>?_,fun b o u e=>?_,fun b ps e=>?_⟩ ?_ I5.bare fun b hb=>⟨(f2 b hb).2.2.2.1,(f2 b hb).2.1,(f2 b hb).2.2.2.2.1,(f2 b hb).2.2.2.2.2⟩
     ·have z:=I5.os;rw[eS]at z;exact z
     ·rw[aj (lt2 b o e)];exact u5.free b o e n hx
     ·have z:=u5.kX b xs e;rw[aj (ne5 b _ z)];exact z
     ·have z:=u5.iE b o u e;rw[aj (ne5 b _ z)];exact z
     ·obtain⟨more,z⟩:=u5.kY b ps e;exact⟨more,by rw[aj (ne5 b _ z)];exact z⟩
     ·intro a o e;by_cases ha:a=D
      ·subst ha;rw[aw]at e;cases e;exact⟨hz,its,k,v4,o5⟩
      ·rw[aj ha]at e;exact(hk5 a o e).cD (fun _ _ _ q=>q) (fun b q=>by rw[aj (ne5 b _ q)];exact q) fun b xs q=>by rw[aj (ne5 b _ q)];exact q
    refine NB mC _ s5 IX ?_ hNs (qn D d4);have hCN:H4 C=none:=by
     have z:=I5.free;rw[eL]at z;exact z
    refine⟨by rw[aj (Ne.symm hDC)];exact hCN,?_,?_,.inr ?_,fun x c e=>?_,fun q hq=>?_⟩
    ·have:@LT.lt Nat _ X.env.locals s2.heap.objs.size:=I2.lt
     exact Kb (by omega)
    ·exact I2.Ka (by rw[hDn];omega)
    ·have:=I2.sz;omega
    ·obtain⟨v,z⟩:=I2.cell x c e
     have:=wY z
     exact je (by omega)
    ·have:=lR (I2.pin q hq).1
     exact je (by omega)
   ·have T':=T;rw[<- eP,<- eW,<- eK]at T';refine wpAny_mono (T'.item XB rfl rfl rfl eCa i _ s4 σ4 H4 (fun _ _=>False) I4' (fpk fr4 pD) st4 go) (fun r s5 ⟨u,hr,h5⟩=>?_) fun _ _ z=>z
    subst hr;refine thn h5 fun _ s6 hPP=>?_
    obtain⟨x,H6,I6,r6,y6,st6,fr6⟩:=hPP;have I6':=I6.pinned (fpk fr6 pD) (T.obj _ _ st6);obtain⟨hg0,ht0,he0⟩:=hb0;rw[<- eE];have hgo:=hg0 _ s6 σ4 H6 x u _ I6' r6 (step x H6 y6);rw[eX]at hgo;refine thn hgo fun _ s7 hPP=>?_
    obtain⟨σ7,H7,I7,q7⟩:=hPP;have hto:=ht0 _ s7 σ7 H7 _ I7 q7;rw[eX]at hto;refine thn hto fun b s8 hPP=>?_
    obtain⟨H8,I8,q8⟩:=hPP;have back:∀{σ9:St}{H9:Hp}{s9:Shared},Inv XB ([(D,{ cls:=.type "list",data:=.seq its.toArray k })]++lH fp s6.heap) σ9 H9 s9->tn (i+1) s9.heap/\(∀ b∈fp,H9 b=none)/\H9 D=none/\s9.heap.get? D=some { cls:=.type "list",data:=.seq its.toArray k }:=fun{σ9 H9 s9} I9=>by
     have z:=I9.pin (D,{ cls:=.type "list",data:=.seq its.toArray k }) (List.mem_append_right _ (List.mem_append_left _ (List.mem_singleton.mpr rfl)));refine⟨T.keep _ _ _ st6 fun b hb o e=>(I9.pin (b,o) (List.mem_append_right _ (List.mem_append_right _ (dy hb e)))).1,fun b hb=>?_,z.2.1,z.1⟩
     obtain⟨o,e,_⟩:=T.obj _ _ st6 b hb;exact(I9.pin (b,o) (List.mem_append_right _ (List.mem_append_right _ (dy hb e)))).2.1
    cases b with
    | false =>
     rw[if_neg Bool.false_ne_true]at q8 ⊢;obtain⟨m',hm,w8⟩:=hN _ _ _ q8;obtain⟨t1,t2,t3,t4⟩:=back I8;exact⟨m',hm,i+1,ys,σ7,H8,its,k,I8.i6 (fun q hq=>nomatch hq),t1,t2,t3,t4,v4,w8⟩
    | true =>
     rw[if_pos rfl]at q8 ⊢;have heo:=he0 _ s8 σ7 H8 _ I8 q8;rw[eX]at heo;refine thn heo fun yv s9 hPP=>?_
     obtain⟨y,H9,I9,r9,n9⟩:=hPP;obtain⟨m',hm,w9⟩:=hN _ _ _ n9;obtain⟨t1,t2,t3,t4⟩:=back I9;have hsz:its.toArray.size<=sizeLine:=by
      have e:=v4.length;have e2:its.toArray.size=its.length:=by simp
      omega
     refine append_at (hsz:=hsz) t4 fun h' hs' hD'=>?_
     ·refine⟨m',hm,i+1,ys ++ [y],σ7,H9,its ++ [yv],k+1,?_,T.keep _ _ _ t1 fun b hb o e=>hs'.extBut b o (je (fpD b hb)) e,t2,t3,?_,v4.append (.cons r9 .nil),w9⟩
      ·refine(I9.i6 (pins':=[]) (fun q hq=>nomatch hq)).turned (t':=s9.toks) (it:=D) (fun b o hb e=>hs'.extBut b o hb e) t3 ?_ (.inr ?_) (fun x c e=>?_) fun q hq=>?_
       ·rw[eL];exact hDC
       ·rw[eS];omega
       ·rw[eCl]at e;exact je (NJ x c e)
       ·rw[ePn]at hq;exact nomatch hq
      ·rw[hD'];simp
  ·
   refine⟨okB,by rw[eS],I2.bare,by rw[eFs,eEx,eH,eS];exact Un.kept old,⟨_,by rw[eL];exact Ed,fun j x v h1 h2 h3=>?_⟩,fun x c e=>?_,?_,fun x c e=>?_,fun q hq=>?_,by rw[eP,eW];exact I2.hok.kept old,by rw[eN];exact mW.len⟩
   ·rw[eN]at h1;obtain⟨i,g1,g2,g3,g4⟩:=mW.at h1 h2;obtain⟨m,hn,hl⟩:=I2.loc;have hv:Vis X.env.scope x:=by
     rcases g4 with z|z
     ·exact .inr (.inl z)
     ·exact .inr (.inr z)
    obtain⟨u,r,l⟩:=hl i x v g1 g2 hv;refine⟨u,r,.inr ⟨?_,?_⟩⟩
    ·rw[eE];exact(i3 g3).symm
    ·rcases l with⟨hk,_⟩ |⟨_,c,e,z⟩
     ·rcases g4 with y|y
      ·rw[y]at hk;cases hk
      ·rw[y]at hk;cases hk
     ·obtain⟨c',e'⟩:=KG x (PySem.mem_of_lookup g3)
      have:=sA x c' e'
      rw[e]at this;cases this;obtain⟨o,ho,hd⟩:=z;exact⟨c,by rw[eCl];exact e',o,old c o ho,hd⟩
   ·rw[eCl]at e;obtain⟨v,o,ho,hd⟩:=I2.cell x c (sA x c e);exact⟨v,o,old c o ho,hd⟩
   ·rw[eL];exact I2.hok.fresh (by rw[hDn];omega)
   ·rw[eCl]at e;exact I2.dD x c (sA x c e)
   ·rw[ePn]at hq;exact nomatch hq
 exact codeAny_compStart_list (loop _ rfl) (T.self X.A 0 _ _ _ (T.keep _ _ _ st2 fun b hb o e=>old b o e) (loop _ rfl))
theorem wI(h:(sc.names.all fun y=>y.2 != .free ||(X.env.kindOf y.1==some .cell||X.env.kindOf y.1==some .free))=true) :
  ∀ y∈sc.names,y.2 = .free->X.env.kindOf y.1=some .cell\/X.env.kindOf y.1=some .free:=fun y hy e=>by
 have z:=List.all_eq_true.mp h y hy;rw[e]at z;simpa using z
theorem we{pos:Pos}{wi:TI}{g:TG}
  (hc:X.calm=true) (hi:PI X tg iter wi) (mW:jw X sc N' cap)
  (hb:∀ cl C s₂ H₂ fp,PG (blk X N' sc cl C s₂ H₂ fp) tg g/\PTs (blk X N' sc cl C s₂ H₂ fp) ifs tst/\PE (blk X N' sc cl C s₂ H₂ fp) elt te)
  (eT:sc.kind = .function:=by rfl) (eU:∀ y∈sc.names,y.2 ≠ .cell:=by decide) (fv:∀ y∈sc.names,y.2 = .local->sc.names.lookup y.1=some .local:=by decide)
  (fC:(sc.names.all fun y=>y.2 != .free ||(X.env.kindOf y.1==some .cell||X.env.kindOf y.1==some .free))=true:=by rfl)
  (hs:∀ x,foldedSetIterable iter X.env x=pure x:=by intro _;rfl):PE X (.ListComp elt [⟨tg,iter,ifs,0⟩] sc pos) (nc cap wi g tst te):=by
 intro gV s σ H Q I h;rw[eval_ListComp];refine sH (use:=none) hc hi eT eU fv (wI fC) mW hb I h (fun D C m H' s' I' f' hn q=>?_) hs
 refine⟨m,hn,fun h' hs'=>⟨.ref D,H',?_,rfl,q⟩⟩
 exact I'.turned (t':=s'.toks) (it:=C) (fun b o hb e=>hs'.extBut b o hb e) f'.1 f'.2.1.symm.symm f'.2.2.2.1 f'.2.2.2.2.1 f'.2.2.2.2.2
variable{dS:Pos}{py:Pos}
theorem wc{i:Nat}{y:Str}{pos:Pos}{wi:TI}{g:TG}
  (hN:X.N.Nodup) (hi':X.N[i]? = some y) (hy:Loc X.env.scope y)
  (hc:X.calm=true) (hi:PI X tg iter wi) (mW:jw X sc N' cap)
  (hb:∀ cl C s₂ H₂ fp,PG (blk X N' sc cl C s₂ H₂ fp) tg g/\PTs (blk X N' sc cl C s₂ H₂ fp) ifs tst/\PE (blk X N' sc cl C s₂ H₂ fp) elt te)
  (hsw:swapsWith (.ListComp elt [⟨tg,iter,ifs,0⟩] sc pos) (some (.Name y py)) dS.line X.env=pure true:=by rfl)
  (hf:X.fn y=true\/X.env.scope.names.lookup y=some .local:=by first|exact .inl rfl|exact .inr rfl|assumption)
  (eT:sc.kind = .function:=by rfl) (eU:∀ y∈sc.names,y.2 ≠ .cell:=by decide) (fv:∀ y∈sc.names,y.2 = .local->sc.names.lookup y.1=some .local:=by decide)
  (fC:(sc.names.all fun y=>y.2 != .free ||(X.env.kindOf y.1==some .cell||X.env.kindOf y.1==some .free))=true:=by rfl)
  (hs:∀ x,foldedSetIterable iter X.env x=pure x:=by intro _;rfl):PS X (.Assign [.Name y py] (.ListComp elt [⟨tg,iter,ifs,0⟩] sc pos) dS) (e7 (nc cap wi g tst te) (dO i)):=by
 intro gV s σ H Dn I h;rw[exec_Assign_Name_used _ _ _ _ hsw];refine wpAny_bind (wpAny_standAt (wpAny_bind ?_));show wpAny _ X.A (do let _ <- comprehension (.ListComp elt [⟨tg,iter,ifs,0⟩] sc pos) sc X.env _ (newList []) false (eval iter X.env) (some (assign (.Name y py) X.env))) _ _ s
 refine wpAny_bind (wpAny_mono (sH (use:=some (assign (.Name y py) X.env)) (Q:=fun x H1=>Dn.nx (σ.set i (some x)) H1) (Q':=fun _ s'=>SP X gV Dn .next s') hc hi eT eU fv (wI fC) mW hb I h (fun D C m H' s' I' f' hn q=>?_) hs)
  (fun _ s' hq=>wpAny_pure (wpAny_pure hq)) fun _ _ e=>e)
 obtain⟨o,es,ep,ho,hd,hr⟩:=id hn;have I2:=I'.pinned (fp:=[C]) (fun b hb=>by rw[List.mem_singleton.mp hb];exact f') fun b hb=>by
  rw[List.mem_singleton.mp hb];exact⟨o,ho,fun v=>by rw[hd];simp⟩
 refine wpAny_assign_Name (fP I2 hN hi' hy (v:=.ref D) rfl (fun s2 I3=>?_) hf)
 have z:=(I3.pin (C,o) (List.mem_append_right _ (List.mem_append_right _ (dy (List.mem_singleton.mpr rfl) ho)))).1;refine⟨m,⟨o,es,ep,z,hd,hr⟩,fun h' hs'=>⟨_,H',?_,q⟩⟩
 exact I3.iW.turned (t':=s2.toks) (it:=C) (fun b o hb e=>hs'.extBut b o hb e) f'.1 f'.2.1 f'.2.2.2.1 f'.2.2.2.2.1 f'.2.2.2.2.2
variable{a:Addr}
section
theorem nM{K:W.Frag}{xs:List V}{g:TG}{σ:St}{Q:VK}(Pv:Nat->List V->St->Hp->Prop)(h0:Pv 0 [] σ H)
  (hl:∀ i ys σ H,i<=xs.length->Pv i ys σ H->SqL K H a xs/\ys.length<sizeLine)
  (hs:∀ i x ys σ H,xs[i]? = some x->Pv i ys σ H->g x σ H fun σ2 H3=>tst σ2 H3 fun b H4=>if b=true then te σ2 H4 fun y H5=>Pv (i+1) (ys ++ [y]) σ2 H5 else Pv (i+1) ys σ2 H4)
  (hd:∀ ys σ H,Pv xs.length ys σ H->∀ D,H D=none->Q (.ref D) (upd H D (.lst ys))) :
  FY g tst te σ Q (Itl K a) H:=by
 refine⟨fun i m ys σ H=>m=xs.length - i/\i<=xs.length/\Pv i ys σ H,⟨xs.length,by simp,Nat.zero_le _,h0⟩,?_⟩
 rintro i m ys σ H ⟨rfl,hi,p⟩
 obtain⟨q,hz⟩:=hl i ys σ H hi p;by_cases hlt:i<xs.length
 ·refine .inr ⟨⟨xs,xs[i],q,by simp[hlt]⟩,hz,Pv (i+1),fun ys' σ' H' p'=>⟨xs.length - (i+1),by omega,rfl,hlt,p'⟩,fun x H' y=>?_⟩
  obtain⟨e,y⟩:=y;subst e;exact hs i x ys σ _ (y xs q) p
 ·have e:i=xs.length:=by omega
  subst e;exact .inl ⟨⟨xs,q,Nat.le_refl _⟩,Nat.le_of_lt hz,hd ys σ H p⟩
def Jb:V->Option Int->Option Int->Hp->VK->Prop:=fun x lo hi H Q=>∃ z,x = .str z/\z.length<=sizeLine/\Q (.str (Txt.slice z lo hi)) H
theorem Gh:SlR X Jb:=by
 intro gV s σ H x v vl vu lo hi sl Q I rx hs pl pu h;obtain⟨z,rfl,hz,q⟩:=h;obtain⟨t,rfl⟩:=rx;refine⟨"str",_,PySem.F.slot_str_getitem.lookup,typeIs_str s z t,?_⟩;obtain⟨o,h1,h2,h3⟩:=hs;have fin:∀(y:Str)(t' k:Nat),y=Txt.slice z lo hi->EP X gV σ Q (.str y t') { s with toks:=k }:=fun y t' k e=>by subst e;exact⟨.str _,H,I.tok k,⟨_,rfl⟩,q⟩
 cases pl with
 | none =>
  cases pu with
  | none=>exact wpAny_getItem_str_slice (l:=none) (u:=none) (st:=none) ⟨o,h1,h2,h3⟩ rfl (post_val_or_str ⟨Nat.le_trans (Txt.slice_le z _ _) hz,fun t' k=>fin _ t' k rfl⟩)
  | int j uj=>exact wpAny_getItem_str_slice (l:=none) (u:=some (j,uj)) (st:=none) ⟨o,h1,h2,h3⟩ rfl (post_val_or_str ⟨Nat.le_trans (Txt.slice_le z _ _) hz,fun t' k=>fin _ t' k rfl⟩)
 | int i ui =>
  cases pu with
  | none=>exact wpAny_getItem_str_slice (l:=some (i,ui)) (u:=none) (st:=none) ⟨o,h1,h2,h3⟩ rfl (post_val_or_str ⟨Nat.le_trans (Txt.slice_le z _ _) hz,fun t' k=>fin _ t' k rfl⟩)
  | int j uj=>exact wpAny_getItem_str_slice (l:=some (i,ui)) (u:=some (j,uj)) (st:=none) ⟨o,h1,h2,h3⟩ rfl (post_val_or_str ⟨Nat.le_trans (Txt.slice_le z _ _) hz,fun t' k=>fin _ t' k rfl⟩)
theorem tm{ys:List Str}:∀{us:List Value},Vals (ys.map V.str) us->StrsAre us ys:=by
 induction ys with
 | nil=>intro us r;rw[List.map_nil]at r;cases r;exact .nil
 | cons n ns ih =>
  intro us r;rw[List.map_cons]at r;cases r with
  | cons r1 r2 =>
   obtain⟨t,e⟩:=r1;subst e;exact .cons n t (ih r2)
def rJoin(K:W.Frag):V->List V->Hp->VK->Prop:=fun x xs H Q=>∃ sep l ys,x = .str sep/\xs = [.ref l]/\SqL K H l (ys.map V.str)/\(ys.map (·.length)).sum+ys.length*sep.length<=16777216/\Q (.str (Txt.join sep ys)) H
theorem DT:MtR X "str.join" (rJoin X.K):=by
 intro gV s σ H x xs v us Q I rx rs h;obtain⟨sep,l,ys,rfl,rfl,hl,hw,q⟩:=h;obtain⟨t,rfl⟩:=rx;obtain⟨u,rfl,ru⟩:=Vals.one rs;cases ru;obtain⟨its,r,pl,hz⟩:=I.list hl;exact join_list pl.isList (by simpa using tm r) hw fun t' k=>⟨.str _,H,I.tok k,⟨_,rfl⟩,q⟩
theorem Cg{bs:List Bool}:∀{us:List Value}{i:Nat}{v:Value},Vals (bs.map V.bl) us->us[i]? = some v->∃ b,bs[i]? = some b/\v = .bool b:=by
 induction bs with
 | nil=>intro us i v r h;rw[List.map_nil]at r;cases r;simp at h
 | cons b bs ih =>
  intro us i v r h;rw[List.map_cons]at r;cases r with
  | cons r1 r2 =>
   cases i with
   | zero =>
    simp only[List.getElem?_cons_zero,Option.some.injEq]at h;subst h;exact⟨b,by simp,r1⟩
   | succ i =>
    obtain⟨c,h1,h2⟩:=ih r2 (by simpa using h)
    exact⟨c,by simpa using h1,h2⟩
theorem all_range(bs:List Bool):(List.range bs.length).all (fun i=>bs.getD i false)=bs.all id:=by
 have e:(List.range bs.length).map (fun i=>bs.getD i false)=bs:=by
  apply List.ext_getElem
  ·simp
  ·intro i h1 h2;simp at h1;simp[h1]
 conv=>rhs;rw[<- e]
 rw[List.all_map];rfl
theorem BK(hc:X.calm=true):bW X (.builtin "all") (fun xs H Q=>∃(l:Addr)(bs:List Bool),xs = [.ref l]/\SqL X.K H l (bs.map V.bl)/\Q (.bl (bs.all id)) H):=by
 intro gV s σ H xs us Q I r h;obtain⟨l,bs,rfl,hl,q⟩:=h;obtain⟨u,rfl,ru⟩:=vals1 r;cases ru;obtain⟨its,rv,pl,hz⟩:=I.list hl;have hlt:l<s.heap.objs.size:=by obtain⟨_,e,_⟩:=pl.isList;exact Heap.lt_size e
 have hlen:its.toArray.size=bs.length:=by
  have e:=rv.length;rw[List.length_map]at e;simp[e]
 refine call_all_walk (wpAny_pyIter_list pl.isList ?_);refine⟨s.heap.objs.size,[s.heap.objs.size,l],[s.heap.objs.size],its.toArray.size,_,_,fun i=>bs.getD i false,rfl,Walks.list (show X.A.in1.handled=none from I.ok.hd hc) s.heap.objs.size l (Nat.ne_of_lt hlt) its.toArray,⟨⟨_,Heap.get?_push_size _ rfl,rfl,rfl⟩,pl.isList.push _⟩,?_,fun h' tk hk=>?_⟩
 ·intro i v s' Q' E' hP hq;obtain⟨b,h1,rfl⟩:=Cg rv (by simpa using hP)
  have e:bs.getD i false=b:=by simp[List.getD,h1]
  exact wpAny_truthy_bool (e▸hq)
 ·refine⟨.bl _,H,I.kept (t':=tk) (h':=h') fun b o e=>hk b o (by simpa using Nat.ne_of_lt (Heap.lt_size e)) (Heap.get?_push_of_some _ e),rfl,?_⟩
  rw[hlen,all_range];exact q
theorem BJ:bW X (.builtin "isinstance") (fun xs H Q=>∃ x T t b,xs = [x,.ty T]/\hJ X.K H x t/\W.kitOne X.K t (.type T)=some b/\Q (.bl b) H):=by
 intro gV s σ H xs us Q I r h;obtain⟨x,T,t,b,rfl,ty,e,q⟩:=h;obtain⟨u,w',rfl,ru,rw'⟩:=vals2 r;cases rw';exact yo I ru ty e fun tk=>⟨.bl b,H,I.tok tk,rfl,q⟩
end
variable{I:Addr}{fp:List Addr}{wr:List Addr}{n:Nat}
section
variable{w:World}{E:Value->Shared->Prop}{s:Shared}
theorem ye:typeLookup (.type "list_reverseiterator") "__len__" = pure none:=by rw[typeLookup_type,builtinLookup_eq_fast];kernel_rfl
theorem A8:typeLookup (.type "list_reverseiterator") "__length_hint__" = pure (some (.builtin "list_reverseiterator.__length_hint__")):=by rw[typeLookup_type,builtinLookup_eq_fast];kernel_rfl
theorem u6{R:Result->Shared->Prop}{P:Nat->Value->Prop}{St:Nat->Heap->Prop}(W:Walks prog w A.in1 I fp wr n P St)(hT:∀ i (s:Shared),St i s.heap->s.TypeIs (.ref I) "list_reverseiterator")(S:Addr)(res:Value)(c₀:Nat)(hst:St 0 s.heap)(hSf:S ∉ fp)(hI:I∈fp)
  (hS:s.heap.get? S=some { cls:=.type "list",data:=.seq #[] c₀ })
  (hR:∀ s' gy c',Moved (S::wr) (fun g g'=>g'=g) s s'->s'.heap.get? S=some { cls:=.type "list",dict:=none,data:=.seq gy c',slots:=#[] }->ItemsOf P gy n->R (.ok (.ret res)) s') (hn:n<=sizeLine) :
  wpAny (model prog w) A.in1 (Builtin.List.listExtendWith (.ref S) (.ref I) res)
   (fun fin s'=>match fin with | .done f=>R (.ok f) s' | .again c'=>c'.quiet=true/\codeAny (model prog w) A c' R s') (fun e s'=>R (.error e) s') s:=by
 have hSI:S≠I:=fun e=>hSf (e▸hI)
 have h1:Builtin.List.listSameRef (.ref S) (.ref I)=false:=by simp[Builtin.List.listSameRef,hSI]
 unfold Builtin.List.listExtendWith;refine wpAny_bind (wpAny_typeOf (hT 0 _ hst) ?_);rw[if_neg (by rw[h1];decide)]
 refine wpAny_bind (W.self 0 _ _ _ hst ?_);refine wpAny_bind (wpAny_holding ?_);unfold Builtin.List.listLengthHint;refine wpAny_bind (wpAny_specialOf (hT 0 _ hst) ye ?_);show wpAny _ A.in1 (specialOf (Value.ref I) (Str.ofString "__length_hint__") >>= _) _ _ _;refine wpAny_bind (wpAny_specialOf (hT 0 _ hst) A8 ?_)
 generalize hid:("list_reverseiterator.__length_hint__":String)=id0
 wp_delta
 rw[show splitId id0=some ("list_reverseiterator","__length_hint__")from by subst hid;decide +kernel]
 subst hid;refine wpAny_bind (wpAny_isInstance (b:=true) (hT 0 _ hst) (by rw[isSubtype_type];kernel_rfl) ?_)
 refine wpAny_pure ?_;rw[if_neg (by decide)]
 exact wpAny_pure ⟨plainId_quiet F.plain_extend_loop _,codeAny_extend_loopS W.toS hn _ hSf _ n 0 _ _ _ rfl (Nat.zero_le _) hst hS (ItemsOf.nil P) fun s' gy c' hm hS' dG=>hR s' gy c' hm hS' dG⟩
theorem A3{R:Result->Shared->Prop}{P:Nat->Value->Prop}{St:Nat->Heap->Prop}(W:Walks prog w A.in1 I fp wr n P St)(hT:∀ i (s:Shared),St i s.heap->s.TypeIs (.ref I) "list_reverseiterator")(S:Addr)(hst:St 0 s.heap)(hSf:S ∉ fp)(hI:I∈fp)
  (hS:s.heap.get? S=some { cls:=.type "list",data:=.seq #[] })
  (hR:∀ s' gy c',Moved (S::wr) (fun g g'=>g'=g) s s'->s'.heap.get? S=some { cls:=.type "list",dict:=none,data:=.seq gy c',slots:=#[] }->ItemsOf P gy n->R (.ok (.ret .none)) s') (hn:n<=sizeLine) :
  wpAny (model prog w) A.in1 (Builtin.«list.__init__» ⟨[.ref S,.ref I],[]⟩)
   (fun fin s'=>match fin with | .done f=>R (.ok f) s' | .again c'=>c'.quiet=true/\codeAny (model prog w) A c' R s') (fun e s'=>R (.error e) s') s:=by
 show wpAny _ A.in1 (do let old <- Builtin.List.listItems (.ref S);Builtin.List.listUpdate (.ref S) (fun _=>#[]);letGo old.toList.reverse;Builtin.List.listExtendWith (.ref S) (.ref I) .none) _ _ s
 refine wpAny_bind ?_;unfold Builtin.List.listItems;refine wpAny_bind (wpAny_seqItems hS rfl (wpAny_pure ?_));show wpAny _ A.in1 (updateSeq S (fun _=>#[]) >>= fun _=>letGo (#[]:Array Value).toList.reverse >>= fun _=>Builtin.List.listExtendWith (.ref S) (.ref I) .none) _ _ s
 refine wpAny_bind (wpAny_updateSeq hS rfl ?_);have hS₂:=Heap.get?_update_self (Obj.mapSeq (fun _=>(#[]:Array Value))) hS rfl
 have oth:∀ b o,b≠S->s.heap.get? b=some o ->(s.heap.update S (Obj.mapSeq (fun _=>(#[]:Array Value)))).get? b=some o :=
  fun b o hb e=>(Heap.get?_update_other _ _ (Ne.symm hb)).trans e
 refine wpAny_bind (wpAny_letGo ?_);refine u6 (hn:=hn) W hT S .none _ (W.frame 0 s.heap _ hst fun b hb o e=>oth b o (fun h=>hSf (h▸hb)) e) hSf hI hS₂ fun s' gy c' hm hS' dG=>?_
 exact hR s' gy c' (Moved.trans (fun _ _ _ h1 h2=>h2.trans h1) ((Moved.refl (wr:=S::wr) (G:=fun g g'=>g'=g) (fun _=>rfl)).then_heap (Nat.le_refl _) fun b o hb e=>oth b o (fun h=>hb (by rw[h];exact List.mem_cons_self)) e) hm) hS' dG
theorem mZ{Q:Value->Shared->Prop}{P:Nat->Value->Prop}{St:Nat->Heap->Prop}(W:Walks prog w A.in1.in1 I fp wr n P St)(hT:∀ i (s:Shared),St i s.heap->s.TypeIs (.ref I) "list_reverseiterator")(hst:St 0 s.heap)(hfp:∀ b∈fp,b<s.heap.objs.size)(hI:I∈fp)
  (hQ:∀ s' gy c',Moved (s.heap.objs.size::wr) (fun g g'=>g'=g) { s with heap:=s.heap.push { cls:=.type "list",data:=.seq #[] } } s' ->
   s'.heap.get? s.heap.objs.size=some { cls:=.type "list",dict:=none,data:=.seq gy c',slots:=#[] }->ItemsOf P gy n->Q (.ref s.heap.objs.size) s') (hn:n<=sizeLine) :
  wpAny (model prog w) A (call (.type "list") [.ref I]) Q E s:=by
 have hSf:s.heap.objs.size ∉ fp:=fun hm=>Nat.lt_irrefl _ (hfp _ hm)
 refine callType_codes (Q₁:=fun obj s₁=>obj = .ref s.heap.objs.size/\s₁ ={ s with heap:=s.heap.push { cls:=.type "list",data:=.seq #[] } }) F.called_list (F.typeCall_list_1 _) F.entry_list_init
  (code_list_new _ ⟨rfl,rfl⟩) fun obj s₁ h₁=>?_
 obtain⟨rfl,rfl⟩:=h₁;have hS:(s.heap.push { cls:=.type "list",data:=.seq #[] }).get? s.heap.objs.size=some { cls:=.type "list",data:=.seq #[] }:=Heap.get?_push_size _ rfl;refine⟨⟨_,hS,rfl⟩,F.args_list_init_2 _ _,A3 (hn:=hn) W hT _ (W.frame 0 s.heap _ hst fun b _ o e=>Heap.get?_push_of_some _ e) hSf hI hS fun s' gy c' hm hS' dG=>?_⟩
 exact⟨rfl,hQ s' gy c' hm hS' dG⟩
end
def k6(K:W.Frag)(te:TE):TE:=fun σ H Q=>te σ H fun x H1=>∃ l ys,x = .ref l/\SqL K H1 l ys/\∀ q,H1 q=none->Q (.ref q) (upd H1 q (.lst ys.reverse))
theorem yV{its:Array Value}{acc:Array Value}{ys:List V}(r:Vals ys its.toList)(h:ItemsOf (fun i v=>its[its.size - 1 - i]? = some v) acc its.size):Vals ys.reverse acc.toList:=by
 have e:acc.toList=its.toList.reverse:=by
  apply List.ext_getElem?
  intro i;by_cases hi:i<its.size
  ·have h1:i<acc.size:=by rw[h.1];exact hi
   have h2:=h.2 i acc[i] (by simp[h1])
   rw[List.getElem?_reverse (by simpa using hi)]
   simp only[Array.length_toList,Array.getElem?_toList];rw[h2];simp[h1]
  ·have h1:¬ i<acc.size:=by rw[h.1];exact hi
   rw[List.getElem?_eq_none (by simpa using h1),List.getElem?_eq_none (by simpa using hi)]
 rw[e];exact Vals.reverse r
variable{e:Expr}
theorem lI{p1 p2 dF pos:Pos}(hc:X.calm=true)(hg1:Gl X "list")(hm1:X.mg "list" = none)(hg2:Gl X "reversed")(hm2:X.mg "reversed" = none)(he:PE X e te)
  (hs1:starEach [e] X.env = [(false,eval e X.env)]:=by rfl) (hs2:starEach [.Call (.Name "reversed" p2) [e] [] dF] X.env = [(false,eval (.Call (.Name "reversed" p2) [e] [] dF) X.env)]:=by rfl) :
  PE X (.Call (.Name "list" p1) [.Call (.Name "reversed" p2) [e] [] dF] [] pos) (k6 X.K te):=by
 intro gV s σ H Q I h;refine wpAny_Call_Name_kw (dZ I hg1 hm1 boot_list ?_);refine PyProof.Rows.callWith_type1 ?_ hs2 rfl;rw[hs2];show wpAny _ _ (spliced ((false,eval (.Call (.Name "reversed" p2) [e] [] dF) X.env)::backTo pos (starEach [] X.env))) _ _ s;refine Calls.spliced_cons ?_;refine wpAny_Call_Name_kw (dZ I hg2 hm2 boot_reversed ?_);refine PyProof.Rows.callWith_type1 ?_ hs1 rfl;rw[hs1];show wpAny _ _ (spliced ((false,eval e X.env)::backTo dF (starEach [] X.env))) _ _ s;refine Calls.spliced_cons (thn (he gV s σ H _ I h) fun u s1 hPP=>?_)
 obtain⟨x,H1,I1,r1,l,ys,ex,hl,q⟩:=hPP;subst ex;cases r1;refine Calls.spliced_nil ?_;obtain⟨its,rv,pl,hz⟩:=I1.list hl;have hlt:l<s1.heap.objs.size:=by obtain⟨_,e,_⟩:=pl.isList;exact Heap.lt_size e
 refine call_reversed_list pl.isList (Calls.spliced_nil ?_);have W:=Walks.listRev (prog:=X.prog) (w:=X.w) (A:=X.A.in1.in1) (show X.A.in1.in1.handled=none from I.ok.hd hc) s1.heap.objs.size l (Nat.ne_of_lt hlt) its.toArray;refine mZ (s:={ s1 with heap:=s1.heap.push (revObj l ((its.toArray.size:Int) - 1)) }) W (fun i s' st=>st.2.1.typeIs) ⟨Nat.zero_le _,⟨_,Heap.get?_push_size _ rfl,rfl,by simp[revObj]⟩,pl.isList.push _⟩ (fun b hb=>?_) (by simp) (fun s' gy c' hm hS' dG=>?_) ?_
 ·show b<(s1.heap.push _).objs.size;rw[Heap.size_push];rcases List.mem_cons.mp hb with z|z
  ·rw[z];exact Nat.lt_succ_self _
  ·rw[List.mem_singleton.mp z];exact Nat.lt_succ_of_lt hlt
 ·rw[Moved.eq_with hm];have kp:∀ b o,s1.heap.get? b=some o->s'.heap.get? b=some o:=fun b o e=>hm.heap b o (fun z=>by
   have hb:@LT.lt Nat _ b s1.heap.objs.size:=Heap.lt_size e;rcases List.mem_cons.mp z with z|z
   ·rw[z]at hb;simp only[Heap.size_push]at hb;omega
   ·rw[List.mem_singleton.mp z]at hb;omega) (Heap.get?_push_of_some _ (Heap.get?_push_of_some _ e))
  have hv:Vals ys.reverse gy.toList:=yV (its:=its.toArray) (by simpa using rv) dG
  have hf:H1 ((s1.heap.push (revObj l ((its.toArray.size:Int) - 1))).objs.size)=none:=I1.hok.fresh (by rw[Heap.size_push];omega)
  refine⟨.ref _,_,I1.laid (t':=s'.toks) (h':=s'.heap) (o:=.lst ys.reverse) kp (by rw[Heap.size_push];omega) ⟨by rw[List.length_reverse];exact hz,gy.toList,c',hv,by simpa using hS'⟩,rfl,q _ hf⟩
 ·have e:=rv.length;rw[List.size_toArray];omega
section
def B7(_ j:Int):Prop:=0<j/\j<18446744073709551616
theorem rY:OpR X (binaryOp .FloorDiv) (rI B7 fun i j=>.int (i / j)):=opI fun i j _ _ _ _ _ hc q=>by
 obtain⟨h1,h2⟩:=hc;have e:i.fdiv j=i / j:=Int.fdiv_eq_ediv_of_nonneg _ (by omega)
 refine floordiv_int (by omega) (by rw[e];exact q) (.inl (PyProof.noPylong_of_log2 ?_))
 have h3:j.natAbs<2 ^ 64:=by omega
 have h4:j.natAbs≠0:=by omega
 exact Nat.lt_trans ((Nat.log2_lt h4).mpr h3) (by decide)
end
def dk(s n:Int)(l:Addr):List (Key×V):=[(.inr "seed",.int s),(.inr "number",.int n),(.inr "left",.ref l)]
variable{l:Addr}
theorem Em{s n:Int}:c7 (dk s n l) (.inr "seed":Key)=some (.int s):=by kernel_rfl
theorem yx{s n:Int}:c7 (dk s n l) (.inr "number":Key)=some (.int n):=by kernel_rfl
theorem wK{s n:Int}:c7 (dk s n l) (.inr "left":Key)=some (.ref l):=by kernel_rfl
variable{m:Int}
theorem ub{s n:Int}:putK (dk s n l) (.inr "number":Key) (.int m)=dk s m l:=by kernel_rfl
theorem Af{s n:Int}:putK (dk s n l) (.inr "seed":Key) (.int m)=dk m n l:=by kernel_rfl
structure b8(H:Hp)(d l:Addr)(s n:Int)(ls:List Int):Prop where
 hd:H d=some (.dK (dk s n l))
 hl:H l=some (.lst (ls.map V.int))
 s0:0<=s
 s1:s<2147483647
 n0:0<=n
 l0:∀ x∈ls,0<=x
def jv(H:Hp)(d l:Addr):Prop:=∃ s n ls,b8 H d l s n ls
def Kp(d l:Addr)(H H':Hp):Prop:=∀ b o,H b=some o->b≠d->b≠l->H' b=some o
variable{d:Addr}
theorem Kp.refl:Kp d l H H:=fun _ _ h _ _=>h
variable{ls:List Int}
theorem b8.ne{s n:Int}(D:b8 H d l s n ls):d≠l:=f9 D.hd D.hl (by intro z;cases z)
theorem b8.num{s n:Int}(D:b8 H d l s n ls)(h:0<=m):b8 (upd H d (.dK (putK (dk s n l) (.inr "number":Key) (.int m)))) d l s m ls :=
 ⟨by rw[aw,ub],by rw[aj D.ne.symm];exact D.hl,D.s0,D.s1,h,D.l0⟩
theorem b8.MM{s n:Int}(D:b8 H d l s n ls)(h:0<=m)(h2:m<2147483647):b8 (upd H d (.dK (putK (dk s n l) (.inr "seed":Key) (.int m)))) d l m n ls :=
 ⟨by rw[aw,Af],by rw[aj D.ne.symm];exact D.hl,h,h2,D.n0,D.l0⟩
theorem b8.list{s n:Int}{ls':List Int}(D:b8 H d l s n ls)(h:∀ x∈ls',0<=x):b8 (upd H l (.lst (ls'.map V.int))) d l s n ls' :=
 ⟨by rw[aj D.ne];exact D.hd,aw,D.s0,D.s1,D.n0,h⟩
variable{H1:Hp}
theorem Kp.F4{o:HO}(a:Kp d l H H1):Kp d l H (upd H1 d o):=fun c u h h1 h2=>by rw[aj h1];exact a c u h h1 h2
theorem Kp.MG{o:HO}(a:Kp d l H H1):Kp d l H (upd H1 l o):=fun c u h h1 h2=>by rw[aj h2];exact a c u h h1 h2
theorem iP.new{p:Addr}{o:HO}(a:iP H H1)(hp:H1 p=none):iP H (upd H1 p o):=fun c u h=>by
 have z:=a c u h;rw[aj (aP z hp)];exact z
theorem jv.new{p:Addr}{o:HO}(D:jv H d l)(hp:H p=none):jv (upd H p o) d l:=by
 obtain⟨s,n,ls,D⟩:=D;exact⟨s,n,ls,by rw[aj (aP D.hd hp)];exact D.hd,by rw[aj (aP D.hl hp)];exact D.hl,D.s0,D.s1,D.n0,D.l0⟩
def y8:Sp:=fun vs H Q _=>∃(d l:Addr)(m:Int),vs = [.ref d,.int m]/\jv H d l/\0<m/\m<18446744073709551616 /\
 ∀(r:Int)(H':Hp),0<=r->r<m->jv H' d l->Kp d l H H'->Q (.int r) H'
def Gf(K:W.Frag):Sp:=fun vs H Q _=>∃(a:Addr)(ns:List Int)(b:Int),vs = [.ref a,.int b]/\SqL K H a (ns.map V.int)/\ns.length<=63/\0<=b/\b<=63 /\
 ∀(d l:Addr)(H':Hp),H d=none->H l=none->jv H' d l->iP H H'->Q (.ref d) H'
variable{D:Ends}
theorem xA{c:TT}{tb:TS}{σ:St}(I:Nat->St->Hp->Prop){m:Nat}(h0:I m σ H)(md:∀ m σ H,I m σ H->D.nx σ H)
  (hs:∀ m σ H,I m σ H->D.nx σ H->c σ H fun b H1=>if b=true then ∃ N:St->Hp->Prop,(∀ σ' H',N σ' H'->∃ m',m'<m/\I m' σ' H')/\tb { D with nx:=N,ct:=N,bk:=D.nx } σ H1 else D.nx σ H1):sY c tb D σ H :=
 ⟨I,⟨m,h0⟩,fun m σ H h=>hs m σ H h (md m σ H h)⟩
theorem b8.Bc{s n:Int}(D:b8 H d l s n ls):hU H d (.str "seed") (some (.int s)):=by
 have z:=hU.k (k:=(Sum.inr "seed":Key)) D.hd;rw[Em]at z;exact z
theorem b8.KO{s n:Int}(D:b8 H d l s n ls):hU H d (.str "number") (some (.int n)):=by
 have z:=hU.k (k:=(Sum.inr "number":Key)) D.hd;rw[yx]at z;exact z
theorem b8.FH{s n:Int}(D:b8 H d l s n ls):hU H d (.str "left") (some (.ref l)):=by
 have z:=hU.k (k:=(Sum.inr "left":Key)) D.hd;rw[wK]at z;exact z
theorem b8.JB{s n:Int}(D:b8 H d l s n ls):sR H d (.str "number") (.int m) (upd H d (.dK (putK (dk s n l) (.inr "number":Key) (.int m)))) :=
 sR.k (k:=(Sum.inr "number":Key)) D.hd (aC (by show 3<=1000;decide))
theorem b8.Jz{s n:Int}(D:b8 H d l s n ls):sR H d (.str "seed") (.int m) (upd H d (.dK (putK (dk s n l) (.inr "seed":Key) (.int m)))) :=
 sR.k (k:=(Sum.inr "seed":Key)) D.hd (aC (by show 3<=1000;decide))
theorem mod_lt{x:Int}(h:0<m):0<=x % m/\x % m<m:=⟨Int.emod_nonneg _ (by omega),Int.emod_lt_of_pos _ h⟩
end L2
namespace L2
theorem Bw(ns:List Int)(lo hi:Option Int):∃ cs:List Int,g9 (ns.map V.int) lo hi=cs.map V.int/\cs.length<=ns.length:=by
 refine⟨(ns.drop (HT.sIx ns.length 0 lo)).take (HT.sIx ns.length ns.length hi - HT.sIx ns.length 0 lo),?_,?_⟩
 ·unfold g9;rw[List.length_map,<- List.map_drop,<- List.map_take]
 ·rw[List.length_take,List.length_drop];exact Nat.le_trans (Nat.min_le_right _ _) (Nat.sub_le _ _)
theorem int_at{ns:List Int}{i:Nat}{x:V}(h:(ns.map V.int)[i]? = some x):∃ z,x = .int z:=by
 rw[List.getElem?_map]at h;cases e:ns[i]? with
 | none=>rw[e]at h;cases h
 | some z=>rw[e]at h;exact⟨z,(Option.some.inj h).symm⟩
theorem Ea{ns:List Int}{i:Nat}{x:V}(h:(ns.map V.int)[i]? = some x):∃ z,x = .int z/\z∈ns:=by
 rw[List.getElem?_map]at h;cases e:ns[i]? with
 | none=>rw[e]at h;cases h
 | some z=>rw[e]at h;exact⟨z,(Option.some.inj h).symm,List.mem_of_getElem? e⟩
end L2
namespace L2
open PySem
theorem Ie{α:Type}{xs:List α}{i:Int}(h0:0<=i)(h1:i<xs.length):∃ v,atI xs i=some v/\v∈xs:=by
 obtain⟨n,rfl⟩:∃ n:Nat,i=n:=⟨i.toNat,by omega⟩
 have h2:n<xs.length:=by omega
 refine⟨xs[n],?_,List.getElem_mem h2⟩;unfold atI ixN;rw[if_pos h0,if_pos h1];simp[h2]
variable{n:Nat}
theorem bh(h:n<=10000):n<=sizeLine:=by
 have:(10000:Nat)<=sizeLine:=by decide
 omega
end L2
namespace L2
end L2
namespace L2
open PySem PySem.Spec PyProof.Rows
def strsOf:List Expr->Option (List Str)
 | []=>some []
 | .Constant (.str x) _ _::r=>(strsOf r).map (x :: ·)
 | _=>none
theorem wk{X:Cx}:∀{es:List Expr}{ws:List Str},strsOf es=some ws->PA X es (fun _ H Q=>Q (ws.map V.str) H)
 | [],ws,h=>by
  cases h;exact cH
 | e::es,ws,h=>by
  unfold strsOf at h
  split at h
  ·rename_i h1;cases h1
  ·rename_i x j pos r h1;cases h1;cases e1:strsOf es with
   | none=>rw[e1]at h;cases h
   | some ws' =>
    rw[e1]at h;cases h;exact a8 cx (wk e1)
  ·cases h
end L2
namespace L2
variable{H:Hp}
theorem Ei{i:Nat}{x:V}{σ:St}{A B:St->Hp->Prop}(h:A (σ.set i (some x)) H):dO i x σ H fun σ2 H3=>vG σ2 H3 fun b H4=>if b=true then A σ2 H4 else B σ2 H4:=by
 show if true=true then A (σ.set i (some x)) H else B (σ.set i (some x)) H
 rw[if_pos rfl];exact h
end L2
namespace L2
end L2
namespace L2
open PySem PySem.Spec PyProof.Rows
section
variable{X:Cx}
def fW(z:Str)(n:Nat):Str:=⟨(List.replicate n z.cps).foldl (· ++ ·) #[]⟩
theorem rE(c:Array Nat):∀(n:Nat)(acc:Array Nat),((List.replicate n c).foldl (· ++ ·) acc).size=acc.size+n*c.size
 | 0,acc=>by simp
 | n+1,acc=>by
  rw[List.replicate_succ,List.foldl_cons,rE c n,Array.size_append,Nat.add_mul];omega
theorem eR(z:Str)(n:Nat):(fW z n).length=n*z.length:=by
 have h:=rE z.cps n #[];simpa [fW,Str.length]using h
theorem uq:OpR X (binaryOp .Mult) (fun x y H Q=>∃ z n,x = .str z/\y = .int n/\0<=n/\n<=1000/\z.length<=1000/\Q (.str (fW z n.toNat)) H):=by
 intro gV s σ H x y v u Q I rx ry h;obtain⟨z,n,rfl,rfl,n0,n1,hz,q⟩:=h;obtain⟨t,rfl⟩:=rx;obtain⟨t',rfl⟩:=ry;have fin:∀(y:Str)(t' k:Nat),y=fW z n.toNat->EP X gV σ Q (.str y t') { s with toks:=k }:=fun y t' k e=>by subst e;exact⟨.str _,H,I.tok k,⟨_,rfl⟩,q⟩
 have hp:((z.length:Int)*n)<=1000000:=by
  have h1:(z.length:Int)*n<=1000*n:=Int.mul_le_mul_of_nonneg_right (by omega) n0
  omega
 refine P.mul_str ?_ (fun h1 _=>?_) (fun h1 _=>?_) ?_
 ·rw[decide_eq_false (by omega),decide_eq_false (by omega)];rfl
 ·have h2:(1000:Int) <=(2 ^ 63 - 1) / n:=by
   rw[Int.le_ediv_iff_mul_le (by omega)]
   omega
  omega
 ·unfold Builtin.Str.tooLong;have h2:z.length*n.toNat<=1000000:=by
   have e:((z.length*n.toNat:Nat):Int) =(z.length:Int)*n:=by rw[Int.natCast_mul,Int.toNat_of_nonneg n0]
   omega
  have:sizeLine=16777216:=sizeLine_eq
  exact decide_eq_false (by omega)
 ·by_cases h1:n<1
  ·rw[if_pos h1];have e:n.toNat=0:=by omega
   exact⟨by decide,fin _ _ _ (by rw[e];rfl)⟩
  ·rw[if_neg h1];by_cases h2:(n==1||z.length==0)=true
   ·rw[if_pos h2];refine fin z t s.toks ?_;have h3:n=1\/z.length=0:=by simpa using h2
    rcases h3 with h3|h3
    ·subst h3;show z =⟨#[]++z.cps⟩;simp
    ·have e1:z.cps = #[]:=by simpa [Str.length]using h3
     have e2:=eR z n.toNat;rw[h3]at e2;have e3:(fW z n.toNat).cps = #[]:=by simpa [Str.length]using e2
     exact Str.ext' (by rw[e1,e3])
   ·rw[if_neg h2];refine⟨?_,fin _ _ _ rfl⟩;have e:=eR z n.toNat;have h3:n.toNat*z.length<=1000000:=by
     have e:((n.toNat*z.length:Nat):Int) =(z.length:Int)*n:=by rw[Int.natCast_mul,Int.toNat_of_nonneg n0,Int.mul_comm]
     omega
    have:sizeLine=16777216:=sizeLine_eq
    show(fW z n.toNat).length<=sizeLine;omega
end
end L2
namespace L2
open PySem
def kq(n:Nat):Nat:=97+n % 26
def b7(c1 c2:Str)(turn k:Nat):Str:=c1++⟨#[kq (turn+7*k)]⟩++c2++fW "x" (k % 2)++fW "y" (k / 26)
theorem my(c1 c2:Str)(turn k:Nat):(b7 c1 c2 turn k).cps.toList=c1.cps.toList++kq (turn+7*k) ::(c2.cps.toList++(fW "x" (k % 2)).cps.toList++(fW "y" (k / 26)).cps.toList):=by
 simp[b7,Str.cps_append]
theorem gZ(c1 c2:Str)(turn k:Nat):(b7 c1 c2 turn k).length=c1.length+1+c2.length+k % 2+k / 26:=by
 unfold b7;rw[Str.length_append,Str.length_append,Str.length_append,Str.length_append,eR,eR,show(⟨#[kq (turn+7*k)]⟩:Str).length=1 from rfl,show(Str.ofString "x").length=1 from by decide +kernel,show(Str.ofString "y").length=1 from by decide +kernel]
 omega
theorem Lj{a:List Nat}{x y:Nat}{b c:List Nat}(h:a++x::b=a++y::c):x=y:=by
 have:=List.append_cancel_left h
 exact(List.cons.inj this).1
variable{turn:Nat}{j:Nat}
theorem yj{k:Nat}(hk:k<52)(hj:j<52)(h:kq (turn+7*k)=kq (turn+7*j)):k % 26=j % 26:=by
 unfold kq at h;omega
theorem vP:(fW "y" 1).cps.toList = [121]:=by decide +kernel
theorem rD(z:Str):(fW z 0).cps.toList = []:=by simp[fW]
variable{c1:Str}{c2:Str}
theorem nY{k:Nat}(hk:k<52)(hj:j<52)(hne:k≠j){e f:Str}(he:e=Str.empty\/e = "q")(hf:f=Str.empty\/f = "q"):b7 c1 c2 turn k++e≠b7 c1 c2 turn j++f:=by
 intro h;have hc:(b7 c1 c2 turn k).cps.toList++e.cps.toList =(b7 c1 c2 turn j).cps.toList++f.cps.toList:=by
  have:=congrArg (fun z:Str=>z.cps.toList) h
  simpa [Str.cps_append]using this
 have hl:(b7 c1 c2 turn k).length+e.length =(b7 c1 c2 turn j).length+f.length:=by
  rw[<- Str.length_append,h,Str.length_append]
 rw[my,my]at hc;simp only[List.append_assoc,List.cons_append]at hc;have hm:=yj hk hj (Lj hc);have h1:k % 2=j % 2:=by rw[<- Nat.mod_mod_of_dvd k (by decide:2∣26),hm,Nat.mod_mod_of_dvd j (by decide:2∣26)]
 have hd:(k / 26=0/\j / 26=1)\/(k / 26=1/\j / 26=0):=by omega
 rw[gZ,gZ]at hl;have l0:Str.empty.length=0:=rfl;have lq:(Str.ofString "q").length=1:=by decide +kernel
 have tail:=(List.cons.inj (List.append_cancel_left hc)).2;rw[h1]at tail;have hV:=List.append_cancel_left (List.append_cancel_left tail);have eq:(Str.ofString "q").cps.toList = [113]:=by decide +kernel
 have ee:Str.empty.cps.toList = []:=rfl;rcases hd with⟨d1,d2⟩ |⟨d1,d2⟩
 ·rw[d1,d2,rD,vP]at hV;rcases he with rfl|rfl
  ·rw[ee]at hV;simp at hV
  ·rw[eq]at hV
   have:=congrArg List.head? hV
   simp at this
 ·rw[d1,d2,rD,vP]at hV;rcases hf with rfl|rfl
  ·rw[ee]at hV;simp at hV
  ·rw[eq]at hV
   have:=congrArg List.head? hV
   simp at this
theorem nodup_range{f:Nat->Str}{n:Nat}(h:∀ i j,i<n->j<n->i≠j->f i≠f j):((List.range n).map f).Nodup:=by
 rw[List.nodup_iff_pairwise_ne,List.pairwise_map];refine List.Pairwise.imp_of_mem ?_ (List.nodup_iff_pairwise_ne.mp List.nodup_range);intro i j hi hj hne;exact h i j (List.mem_range.mp hi) (List.mem_range.mp hj) hne
variable{ws:List Str}
theorem yf{i:Nat}{w:Str}(h:ws.Nodup)(hw:w ∉ ws):(ws.set i w).Nodup:=by
 induction ws generalizing i with
 | nil=>simp
 | cons a r ih =>
  obtain⟨h1,h2⟩:=List.nodup_cons.mp h;have hw1:w≠a:=fun z=>hw (by simp[z])
  have hw2:w ∉ r:=fun z=>hw (List.mem_cons_of_mem _ z)
  cases i with
  | zero=>exact List.nodup_cons.mpr ⟨hw2,h2⟩
  | succ i =>
   refine List.nodup_cons.mpr ⟨fun z=>?_,ih h2 hw2⟩
   rcases List.mem_or_eq_of_mem_set z with z|z
   ·exact h1 z
   ·exact hw1 z.symm
end L2
namespace L2
open PySem
variable{ws:List Str}
theorem Eb{w:Str}(h:inV (.str w) (ws.map V.str)=false):w ∉ ws:=fun hm=>by
 unfold inV at h;rw[List.any_eq_false]at h;exact h (.str w) (List.mem_map.mpr ⟨w,hm,rfl⟩) (show(w==w)=true from beq_self_eq_true w)
def wordOf(kept:List Str)(c1 c2:Str)(turn k:Nat):Str:=b7 c1 c2 turn k++(if inV (.str (b7 c1 c2 turn k)) (kept.map V.str)=true then("q":Str)else Str.empty)
variable{c1:Str}{c2:Str}{turn:Nat}{j:Nat}
theorem xy{kept:List Str}{k:Nat}(hk:k<52)(hj:j<52)(hne:k≠j):wordOf kept c1 c2 turn k≠wordOf kept c1 c2 turn j:=by
 unfold wordOf;refine nY hk hj hne ?_ ?_
 ·split
  ·exact .inr rfl
  ·exact .inl rfl
 ·split
  ·exact .inr rfl
  ·exact .inl rfl
theorem sV{kept:List Str}{k:Nat}(h1:c1.length<=5)(h2:c2.length<=5)(hk:k<52):1 <=(wordOf kept c1 c2 turn k).length/\(wordOf kept c1 c2 turn k).length<=20:=by
 unfold wordOf;rw[Str.length_append,gZ];have l0:Str.empty.length=0:=rfl;have lq:(Str.ofString "q").length=1:=by decide +kernel
 split <;> omega
end L2
namespace L2
open PySem PySem.Spec PyProof.Rows
abbrev Mk1:=Str×List Str
abbrev Kd:=Str×List Mk1
def ko(ks:List Kd)(k:Str):List Mk1:=match ks.find? (fun x=>decide (x.1=k))with
 | some x=>x.2
 | none=>[]
theorem wu{ks:List Kd}{k:Str}{i:Nat}{x:Kd}(h:ks[i]? = some x)(hx:x.1=k)(hn:∀(j:Nat)(y:Kd),j<i->ks[j]? = some y->y.1≠k):ko ks k=x.2:=by
 induction ks generalizing i with
 | nil=>simp at h
 | cons a r ih =>
  cases i with
  | zero =>
   simp at h;subst h;simp[ko,hx]
  | succ i =>
   have h0:a.1≠k:=hn 0 a (by omega) (by simp)
   have z:=ih (i:=i) (by simpa using h) fun j y hj hy=>hn (j+1) y (by omega) (by simpa using hy)
   unfold ko at z ⊢;rw[List.find?_cons,decide_eq_false h0];exact z
theorem DU{ks:List Kd}{k:Str}(hn:∀(j:Nat)(y:Kd),ks[j]? = some y->y.1≠k):ko ks k = []:=by
 unfold ko;rw[List.find?_eq_none.mpr];intro x hx;obtain⟨j,hj,rfl⟩:=List.mem_iff_getElem.mp hx
 have:=hn j ks[j] (by simp)
 simpa using this
variable{it:Addr}{items:Array Value}{Q:Value->Shared->Prop}{h':Heap}{tp:Bool}{l:Addr}{z:Addr}{i1:Addr}{i2:Addr}{l1:Addr}{l2:Addr}{t1:Bool}{t2:Bool}{k1:Nat}{k2:Nat}{xs:Array Value}{ys:Array Value}
section
variable{prog:Program}{w:World}{A:Around}{E:Value->Shared->Prop}{s:Shared}
theorem mT{t:Addr}{i:Nat}{x:Value}(hit:s.heap.IsTupleIter it t i)(ht:s.heap.IsTuple t items)(hx:items[i]? = some x)
  (hQ:∀ h',h'.IsTupleIter it t (i+1)->Heap.SameBut it s.heap h'->Q x { s with heap:=h' }):wpAny (model prog w) A (Builtin.SmallTypes.nextOf (.ref it)) Q E s:=by
 obtain⟨o,ho,hc,hd⟩:=id hit;obtain⟨ol,hol,_,nl,hdl⟩:=ht;unfold Builtin.SmallTypes.nextOf;refine wpAny_bind (wpAny_callSpecial?_slot (name:=Str.ofString "__next__") hit.typeIs F.slot_tuple_iterator_next
  (wpAny_call_entry F.slot_tuple_iterator_next hit.typeIs F.entry_tuple_iterator_next ?_ (F.args_tuple_iterator_next_1 _)))
 show wpAny _ _ (field (.ref it) 0 >>= _) _ _ s;refine wpAny_bind (wpAny_field ho hd (x:=.ref t) rfl ?_);show wpAny _ _ (if(Value.ref t==Value.none)=true then _ else _) _ _ s
 rw[if_neg (show ¬((Value.ref t==Value.none)=true)from Bool.false_ne_true)];show wpAny _ _ (field (.ref it) 1 >>= _) _ _ s;refine wpAny_bind (wpAny_field ho hd (x:=.int i 0) rfl ?_);show wpAny _ _ (seqItems? (.ref t) >>= _) _ _ s;refine wpAny_bind (wpAny_seqItems hol hdl ?_);simp only[Int.toNat_natCast,hx];refine wpAny_bind (wpAny_setField ho hd (by simp) (wpAny_pure ⟨x,rfl,wpAny_pure (hQ _ ?_ (Heap.SameBut.update ..))⟩))
 exact⟨_,Heap.get?_update_self _ ho (Obj.isFreed_of_fields (Obj.data_mapFields hd _)),(Obj.cls_mapFields ..).trans hc,by
  rw[Obj.data_mapFields hd];simp[rawInt]⟩
theorem pF{t:Addr}{i:Nat}(hh:A.handled=none)(hit:s.heap.IsTupleIter it t i)(ht:s.heap.IsTuple t items)(hx:items[i]? = none)
  (hE:∀ h' e,Heap.ExtBut it s.heap h' ->(∃ o,h'.get? e=some o/\o.cls = .type "StopIteration")->E (.ref e) { s with heap:=h' }):wpAny (model prog w) A (Builtin.SmallTypes.nextOf (.ref it)) Q E s:=by
 obtain⟨o,ho,hc,hd⟩:=id hit;obtain⟨ol,hol,_,nl,hdl⟩:=ht;unfold Builtin.SmallTypes.nextOf;refine wpAny_bind (wpAny_callSpecial?_slot (name:=Str.ofString "__next__") hit.typeIs F.slot_tuple_iterator_next
  (wpAny_call_entry F.slot_tuple_iterator_next hit.typeIs F.entry_tuple_iterator_next ?_ (F.args_tuple_iterator_next_1 _)))
 show wpAny _ _ (field (.ref it) 0 >>= _) _ _ s;refine wpAny_bind (wpAny_field ho hd (x:=.ref t) rfl ?_);show wpAny _ _ (if(Value.ref t==Value.none)=true then _ else _) _ _ s
 rw[if_neg (show ¬((Value.ref t==Value.none)=true)from Bool.false_ne_true)];show wpAny _ _ (field (.ref it) 1 >>= _) _ _ s;refine wpAny_bind (wpAny_field ho hd (x:=.int i 0) rfl ?_);show wpAny _ _ (seqItems? (.ref t) >>= _) _ _ s;refine wpAny_bind (wpAny_seqItems hol hdl ?_);simp only[Int.toNat_natCast,hx];refine wpAny_bind (wpAny_rule (wpAny_bind (wpAny_setField ho hd (by simp) ?_)))
 show wpAny _ _ (newExc (.type "StopIteration") [] >>= _) _ _ _;refine wpAny_bind ?_;simp only[newExc,newTuple];refine wpAny_bind (wpAny_newObj_type ?_ (by size_fits))
 refine wpAny_bind (m:=firstArgMember _ _) (wpAny_of_eq (a:=Value.none) (by first|rfl |(simp only[firstArgMember];rfl)) ?_)
 refine wpAny_newObj_type ?_ (by size_fits)
 simp only[raiseNew];refine wpAny_bind (wpAny_handled ?_)
 first|rw[show A.in1.handled=none from hh]|rw[hh]
 refine wpAny_bind (wpAny_pure (wpAny_throw ?_));exact hE _ _ (((Heap.SameBut.update ..).extBut.push _).push _) ⟨_,Heap.get?_push_size _ rfl,rfl⟩
def aB(h:Heap)(tp:Bool)(it l:Addr)(k:Nat):Prop:=if tp=true then h.IsTupleIter it l k else h.IsListIter it l k
def aN(h:Heap)(tp:Bool)(l:Addr)(items:Array Value):Prop:=if tp=true then h.IsTuple l items else h.IsList l items
theorem aB.at{h:Heap}{k:Nat}(x:aB h tp it l k)(e:∀ o,h.get? it=some o->h'.get? it=some o):aB h' tp it l k:=by
 cases tp with
 | true=>obtain⟨o,ho,r⟩:=(show h.IsTupleIter it l k from x);exact(show h'.IsTupleIter it l k from⟨o,e o ho,r⟩)
 | false=>obtain⟨o,ho,r⟩:=(show h.IsListIter it l k from x);exact(show h'.IsListIter it l k from⟨o,e o ho,r⟩)
theorem aN.at{h:Heap}(x:aN h tp l items)(e:∀ o,h.get? l=some o->h'.get? l=some o):aN h' tp l items:=by
 cases tp with
 | true=>obtain⟨o,ho,r⟩:=(show h.IsTuple l items from x);exact(show h'.IsTuple l items from⟨o,e o ho,r⟩)
 | false=>obtain⟨o,ho,r⟩:=(show h.IsList l items from x);exact(show h'.IsList l items from⟨o,e o ho,r⟩)
theorem aB.obj{h:Heap}{k:Nat}(x:aB h tp it l k):∃ o,h.get? it=some o/\∀ v,o.data ≠ .cell v:=by
 cases tp with
 | true=>obtain⟨o,ho,_,hd⟩:=(show h.IsTupleIter it l k from x);exact⟨o,ho,fun v=>by rw[hd];simp⟩
 | false=>obtain⟨o,ho,_,hd⟩:=(show h.IsListIter it l k from x);exact⟨o,ho,fun v=>by rw[hd];simp⟩
theorem next_item{i:Nat}{x:Value}(hit:aB s.heap tp it l i)(hl:aN s.heap tp l items)(hx:items[i]? = some x)
  (hQ:∀ h',aB h' tp it l (i+1)->Heap.SameBut it s.heap h'->Q x { s with heap:=h' }):wpAny (model prog w) A (Builtin.SmallTypes.nextOf (.ref it)) Q E s:=by
 cases tp with
 | true=>exact mT hit hl hx hQ
 | false=>exact wpAny_nextOf_list_item hit hl hx hQ
theorem next_end{i:Nat}(hh:A.handled=none)(hit:aB s.heap tp it l i)(hl:aN s.heap tp l items)(hx:items[i]? = none)
  (hE:∀ h' e,Heap.ExtBut it s.heap h' ->(∃ o,h'.get? e=some o/\o.cls = .type "StopIteration")->E (.ref e) { s with heap:=h' }):wpAny (model prog w) A (Builtin.SmallTypes.nextOf (.ref it)) Q E s:=by
 cases tp with
 | true=>exact pF hh hit hl hx hE
 | false=>exact wpAny_nextOf_list_end hh hit hl hx hE
theorem rh{TI TO:Addr}{x y a b:Value}{Q:Option Value->Shared->Prop}(D:ZipApart z TI TO i1 i2 l1 l2)
  (hz:IsZip s.heap z TI TO .none) (hTI:IsPair s.heap TI (.ref i1) (.ref i2)) (hTO:IsPair s.heap TO a b)
  (h1:aB s.heap t1 i1 l1 k1) (h2:aB s.heap t2 i2 l2 k2) (hl1:aN s.heap t1 l1 xs) (hl2:aN s.heap t2 l2 ys) (hx:xs[k1]? = some x) (hy:ys[k2]? = some y)
  (hQ:∀ h',IsZip h' z TI TO (rawInt s.heap.objs.size)->IsPair h' TO x y->aB h' t1 i1 l1 (k1+1)->aB h' t2 i2 l2 (k2+1)->IsPair h' s.heap.objs.size x y->h'.objs.size=s.heap.objs.size+1 ->
   (∀ c o,c≠z->c≠TO->c≠i1->c≠i2->s.heap.get? c=some o->h'.get? c=some o)->Q (some (.ref s.heap.objs.size)) { s with heap:=h' }) :
  wpAny (model prog w) A (pyNext (.ref z)) Q E s:=by
 have hT:s.TypeIs (.ref z) "zip":=⟨_,hz,rfl⟩;unfold pyNext;refine wpAny_bind (wpAny_attempt (wpAny_callSpecial?_slot (name:=Str.ofString "__next__") hT F.slot_zip_next
  (wpAny_call_entry F.slot_zip_next hT F.entry_zip_next ?_ (F.args_zip_next_1 _))))
 show wpAny _ _ (field (.ref z) 2 >>= _) _ _ _;refine wpAny_bind (wpAny_field hz rfl (x:=.bool false) rfl ?_);show wpAny _ _ (field (.ref z) 3 >>= _) _ _ _;refine wpAny_bind (wpAny_field hz rfl (x:=.ref TI) rfl ?_);refine wpAny_bind (wpAny_seqItems hTI rfl ?_);show wpAny _ _ (Builtin.SmallTypes.ownedTupleIsFree (.ref z) >>= _) _ _ _;refine wpAny_bind ?_;unfold Builtin.SmallTypes.ownedTupleIsFree;refine wpAny_bind (wpAny_field hz rfl (x:=.none) rfl (wpAny_pure ?_));simp only[if_true];refine wpAny_bind (wpAny_rule ?_);refine wpAny_bind (wpAny_field hz rfl (x:=.ref TO) rfl ?_);refine wpAny_bind (wpAny_setField_rec hz (by simp) fun h₁ hz₁ hs₁=>?_)
 replace hz₁:IsZip h₁ z TI TO .ellipsis:=hz₁
 refine wpAny_bind ?_;simp only[List.zipIdx_cons,List.zipIdx_nil,List.forIn_cons,List.forIn_nil];refine wpAny_bind (wpAny_bind (wpAny_onRaise ?_));show wpAny _ _ (Builtin.SmallTypes.nextOf (.ref i1) >>= _) _ _ _;refine wpAny_bind (next_item (h1.at fun o e=>hs₁.extBut _ o D.i1z e) (hl1.at fun o e=>hs₁.extBut _ o D.l1z e) hx fun h₂ h1₂ hs₂=>wpAny_pure ?_)
 have Bb:IsPair h₂ TO a b:=hs₂.extBut _ _ D.TOi1 (hs₁.extBut _ _ D.TOz hTO);refine wpAny_bind (wpAny_seqItems Bb rfl ?_);refine wpAny_bind (wpAny_updateSeq_pair Bb fun h₃ Eh hs₃=>?_)
 replace Eh:IsPair h₃ TO x b:=Eh
 refine wpAny_bind (wpAny_letGo (wpAny_pure ?_));refine wpAny_bind (wpAny_bind (wpAny_onRaise ?_));show wpAny _ _ (Builtin.SmallTypes.nextOf (.ref i2) >>= _) _ _ _;refine wpAny_bind (next_item (h2.at fun o e=>hs₃.extBut _ o D.TOi2.symm (hs₂.extBut _ o D.i12.symm (hs₁.extBut _ o D.i2z e)))
  (hl2.at fun o e=>hs₃.extBut _ o D.l2TO (hs₂.extBut _ o D.l2i1 (hs₁.extBut _ o D.l2z e))) hy fun h₄ h2₄ hs₄=>wpAny_pure ?_)
 have KJ:IsPair h₄ TO x b:=hs₄.extBut _ _ D.TOi2 Eh;refine wpAny_bind (wpAny_seqItems KJ rfl ?_);refine wpAny_bind (wpAny_updateSeq_pair KJ fun h₅ Eg hs₅=>?_)
 replace Eg:IsPair h₅ TO x y:=Eg
 refine wpAny_bind (wpAny_letGo (wpAny_pure (wpAny_pure ?_)));refine wpAny_bind (wpAny_seqItems Eg rfl ?_);refine wpAny_bind (wpAny_newTuple ?_);have hsz:h₅.objs.size=s.heap.objs.size:=by rw[hs₅.1,hs₄.1,hs₃.1,hs₂.1,hs₁.1]
 have hz₅:IsZip h₅ z TI TO .ellipsis:=hs₅.extBut _ _ D.TOz.symm (hs₄.extBut _ _ D.i2z.symm (hs₃.extBut _ _ D.TOz.symm (hs₂.extBut _ _ D.i1z.symm hz₁)));have hk₅:∀ c o,c≠z->c≠TO->c≠i1->c≠i2->s.heap.get? c=some o->h₅.get? c=some o:=fun c o c1 c2 c3 c4 e =>
  hs₅.extBut _ _ c2 (hs₄.extBut _ _ c4 (hs₃.extBut _ _ c2 (hs₂.extBut _ _ c3 (hs₁.extBut _ _ c1 e))))
 have h1₅:aB h₅ t1 i1 l1 (k1+1):=h1₂.at fun o e=>hs₅.extBut _ o D.TOi1.symm (hs₄.extBut _ o D.i12 (hs₃.extBut _ o D.TOi1.symm e))
 have h2₅:aB h₅ t2 i2 l2 (k2+1):=h2₄.at fun o e=>hs₅.extBut _ o D.TOi2.symm e
 have Ky:z<h₅.objs.size:=Heap.lt_size hz₅;show wpAny _ _ (Builtin.SmallTypes.ownedTupleHandOut (.ref z) (.ref h₅.objs.size) >>= _) _ _ _;refine wpAny_bind ?_;unfold Builtin.SmallTypes.ownedTupleHandOut;have hz₆:IsZip (h₅.push { cls:=.type "tuple",data:=.seq #[x,y] }) z TI TO .ellipsis:=Heap.get?_push_of_some _ hz₅;refine wpAny_bind (wpAny_setField_rec hz₆ (by simp) fun h₇ hz₇ hs₇=>?_)
 replace hz₇:IsZip h₇ z TI TO (rawInt h₅.objs.size):=hz₇
 refine wpAny_setField_rec hz₇ (by simp) fun h₈ hz₈ hs₈=>?_
 replace hz₈:IsZip h₈ z TI TO (rawInt h₅.objs.size):=hz₈
 have up:∀ c o,c≠z->h₅.get? c=some o->h₈.get? c=some o:=fun c o c1 e=>hs₈.extBut _ _ c1 (hs₇.extBut _ _ c1 (Heap.get?_push_of_some _ e))
 have hT₈:IsPair h₈ h₅.objs.size x y:=hs₈.extBut _ _ (Nat.ne_of_gt Ky) (hs₇.extBut _ _ (Nat.ne_of_gt Ky) (Heap.get?_push_size _ rfl));have hz8:h₈.objs.size=h₅.objs.size+1:=by rw[hs₈.1,hs₇.1,Heap.size_push]
 rw[hsz]at hz₈ hT₈ hz8;refine wpAny_pure ⟨_,rfl,wpAny_pure ?_⟩;show Q (some (.ref h₅.objs.size)) _;rw[hsz];exact hQ h₈ hz₈ (up _ _ D.TOz Eg) (h1₅.at fun o e=>up _ o D.i1z e) (h2₅.at fun o e=>up _ o D.i2z e) hT₈ hz8 fun c o c1 c2 c3 c4 e=>up c o c1 (hk₅ c o c1 c2 c3 c4 e)
theorem vE{TI TO:Addr}{a b:Value}{Q:Option Value->Shared->Prop}(hh:A.handled=none)(D:ZipApart z TI TO i1 i2 l1 l2)
  (hz:IsZip s.heap z TI TO .none) (hTI:IsPair s.heap TI (.ref i1) (.ref i2)) (hTO:IsPair s.heap TO a b)
  (h1:aB s.heap t1 i1 l1 k1) (h2:aB s.heap t2 i2 l2 k2) (hl1:aN s.heap t1 l1 xs) (hl2:aN s.heap t2 l2 ys) (md:xs[k1]? = none\/ys[k2]? = none)
  (hQ:∀ h',(∀ c o,c≠z->c≠TO->c≠i1->c≠i2->s.heap.get? c=some o->h'.get? c=some o)->Q none { s with heap:=h' }):wpAny (model prog w) A (pyNext (.ref z)) Q E s:=by
 have hT:s.TypeIs (.ref z) "zip":=⟨_,hz,rfl⟩;have fin:∀ h' e,(∀ c o,c≠z->c≠TO->c≠i1->c≠i2->s.heap.get? c=some o->h'.get? c=some o) ->(∃ o,h'.get? e=some o/\o.cls = .type "StopIteration") ->
   wpAny (model prog w) A (do if <- isInstance (.ref e) (.type "StopIteration")then pure none else throw (.ref e)) Q E { s with heap:=h' }:=fun h' e hk he=>by
  obtain⟨o,ho,hc⟩:=he;refine wpAny_bind (wpAny_isInstance (T:="StopIteration") (b:=true) ⟨o,ho,hc⟩ isSubtype_stop ?_);exact wpAny_pure (hQ _ hk)
 unfold pyNext;refine wpAny_bind (wpAny_attempt (wpAny_callSpecial?_slot (name:=Str.ofString "__next__") hT F.slot_zip_next
  (wpAny_call_entry F.slot_zip_next hT F.entry_zip_next ?_ (F.args_zip_next_1 _))))
 show wpAny _ _ (field (.ref z) 2 >>= _) _ _ _;refine wpAny_bind (wpAny_field hz rfl (x:=.bool false) rfl ?_);show wpAny _ _ (field (.ref z) 3 >>= _) _ _ _;refine wpAny_bind (wpAny_field hz rfl (x:=.ref TI) rfl ?_);refine wpAny_bind (wpAny_seqItems hTI rfl ?_);show wpAny _ _ (Builtin.SmallTypes.ownedTupleIsFree (.ref z) >>= _) _ _ _;refine wpAny_bind ?_;unfold Builtin.SmallTypes.ownedTupleIsFree;refine wpAny_bind (wpAny_field hz rfl (x:=.none) rfl (wpAny_pure ?_));simp only[if_true];refine wpAny_bind (wpAny_rule ?_);refine wpAny_bind (wpAny_field hz rfl (x:=.ref TO) rfl ?_);refine wpAny_bind (wpAny_setField_rec hz (by simp) fun h₁ hz₁ hs₁=>?_)
 replace hz₁:IsZip h₁ z TI TO .ellipsis:=hz₁
 refine wpAny_bind ?_;simp only[List.zipIdx_cons,List.zipIdx_nil,List.forIn_cons,List.forIn_nil];refine wpAny_bind (wpAny_bind (wpAny_onRaise ?_));show wpAny _ _ (Builtin.SmallTypes.nextOf (.ref i1) >>= _) _ _ _;cases hx:xs[k1]? with
 | none =>
  refine wpAny_bind (next_end hh (h1.at fun o e=>hs₁.extBut _ o D.i1z e) (hl1.at fun o e=>hs₁.extBut _ o D.l1z e) hx fun h₂ e hs₂ he=>?_)
  obtain⟨oe,hoe,hce⟩:=he;have hz₂:IsZip h₂ z TI TO .ellipsis:=hs₂ _ _ D.i1z.symm hz₁;have hez:e≠z:=fun x=>by subst x;rw[hz₂]at hoe;cases hoe;simp at hce
  refine wpAny_setField_rec hz₂ (by simp) fun h₃ _ hs₃=>fin h₃ e (fun c o c1 _ c3 _ x=>hs₃.extBut _ _ c1 (hs₂ _ _ c3 (hs₁.extBut _ _ c1 x))) ⟨oe,hs₃.extBut _ _ hez hoe,hce⟩
 | some x =>
  have hy:ys[k2]? = none:=by rcases md with h|h;rw[hx]at h;cases h;exact h
  refine wpAny_bind (next_item (h1.at fun o e=>hs₁.extBut _ o D.i1z e) (hl1.at fun o e=>hs₁.extBut _ o D.l1z e) hx fun h₂ h1₂ hs₂=>wpAny_pure ?_)
  have Bb:IsPair h₂ TO a b:=hs₂.extBut _ _ D.TOi1 (hs₁.extBut _ _ D.TOz hTO);refine wpAny_bind (wpAny_seqItems Bb rfl ?_);refine wpAny_bind (wpAny_updateSeq_pair Bb fun h₃ Eh hs₃=>?_)
  refine wpAny_bind (wpAny_letGo (wpAny_pure ?_));refine wpAny_bind (wpAny_bind (wpAny_onRaise ?_));show wpAny _ _ (Builtin.SmallTypes.nextOf (.ref i2) >>= _) _ _ _;refine wpAny_bind (next_end hh (h2.at fun o e=>hs₃.extBut _ o D.TOi2.symm (hs₂.extBut _ o D.i12.symm (hs₁.extBut _ o D.i2z e)))
   (hl2.at fun o e=>hs₃.extBut _ o D.l2TO (hs₂.extBut _ o D.l2i1 (hs₁.extBut _ o D.l2z e))) hy fun h₄ e hs₄ he=>?_)
  obtain⟨oe,hoe,hce⟩:=he;have hz₄:IsZip h₄ z TI TO .ellipsis:=hs₄ _ _ D.i2z.symm (hs₃.extBut _ _ D.TOz.symm (hs₂.extBut _ _ D.i1z.symm hz₁));have hez:e≠z:=fun x=>by subst x;rw[hz₄]at hoe;cases hoe;simp at hce
  refine wpAny_setField_rec hz₄ (by simp) fun h₅ _ hs₅=>fin h₅ e (fun c o c1 c2 c3 c4 x=>hs₅.extBut _ _ c1 (hs₄ _ _ c4 (hs₃.extBut _ _ c2 (hs₂.extBut _ _ c3 (hs₁.extBut _ _ c1 x))))) ⟨oe,hs₅.extBut _ _ hez hoe,hce⟩
end
def kindOf(ks:List Kd)(m:Str):V:=match ks.find? (fun x=>decide (m∈x.2.map (·.1)))with
 | some x=>.str x.1
 | none=>.non
variable{ws:List Str}
theorem wC{w:Str}:inV (.str w) (ws.map V.str)=true ↔ w∈ws:=by
 constructor
 ·intro h;by_cases hm:w∈ws
  ·exact hm
  ·exfalso
   unfold inV at h;rw[List.any_eq_true]at h;obtain⟨x,hx,e⟩:=h;obtain⟨z,hz,rfl⟩:=List.mem_map.mp hx
   have:z=w:=eq_of_beq (show(z==w)=true from e)
   exact hm (this▸hz)
 ·intro h;unfold inV;rw[List.any_eq_true];exact⟨.str w,List.mem_map.mpr ⟨w,h,rfl⟩,show(w==w)=true from beq_self_eq_true w⟩
def marks(rs:List Str):List (Key×V):=rs.map fun s=>(.inr s,.bl true)
variable{X:Cx}{gV:List (Addr×Obj)}{H:Hp}{t':Nat}{fp:List Addr}
theorem Inv.kE{σ:St}{s:Shared}(I:Inv X gV σ H s)(k:∀ b o,b ∉ fp->s.heap.get? b=some o->h'.get? b=some o)(hf:∀ b∈fp,mJ X gV H b) :
  Inv X gV σ H { s with heap:=h',toks:=t' }:=by
 have nit:∀ b u,H b=some u->b ∉ fp:=fun b u e z=>by
  have:=(hf b z).1
  rw[e]at this;cases this
 refine I.step (g':=s.gens) (d':=s.drawn) (ch:=fp) (fun b hb=>?_) (fun b o _ _ hc e _=>k b o hc e) (fun b o _ _ hc e _=>⟨o.slots,k b o hc e⟩) (fun _ _ _ _ n=>n)
  (fun b o hc e=>⟨o,k b o hc e⟩) (fun _ _ e=>e) (fun _ _ _ e=>e) (fun b ps e=>⟨#[],by rw[e];simp⟩) (fun m hm=>?_) (fun b u e=>?_) I.bare
 ·obtain⟨f0,f1,f2,f3,f4,f5⟩:=hf b hb;exact⟨f3,f1,f4,f5⟩
 ·obtain⟨o,es,ep,ho,r⟩:=hm;exact⟨o,es,ep,k _ o (fun z=>(hf _ z).2.1 rfl) ho,r⟩
 ·refine(I.hok b u e).cD (fun c v hc q=>k c v ?_ q) (fun _ q=>q) fun _ _ q=>q
  rcases hc with z|z
  ·rw[z];exact nit b u e
  ·exact nit c _ z
def SqB(K:W.Frag)(tp:Bool)(H:Hp)(a:Addr)(xs:List V):Prop:=if tp=true then SqT K H a xs else SqL K H a xs
variable{a:Addr}
theorem Inv.la{σ:St}{s:Shared}{xs:List V}(I:Inv X gV σ H s)(h:SqB X.K tp H a xs):∃ its:List Value,Vals xs its/\aN s.heap tp a its.toArray/\xs.length<=sizeLine:=by
 cases tp with
 | true =>
  obtain⟨its,r,p,z⟩:=I.tuple (show SqT X.K H a xs from h);exact⟨its,r,(show s.heap.IsTuple a its.toArray from p),z⟩
 | false =>
  obtain⟨its,r,p,z⟩:=I.list (show SqL X.K H a xs from h);exact⟨its,r,p.isList,z⟩
theorem Inv.k9{σ:St}{s:Shared}{xs ys:List V}(I:Inv X gV σ H s)(h:SqB X.K tp H a xs)(h2:SqB X.K tp H a ys):xs=ys:=by
 cases tp with
 | true=>exact I.m9 (show SqT X.K H a xs from h) (show SqT X.K H a ys from h2)
 | false=>exact I.sr (show SqL X.K H a xs from h) (show SqL X.K H a ys from h2)
def Itz(K:W.Frag)(t1 t2:Bool)(l1 l2:Addr):It :=
 ⟨fun i H=>∃ xs ys x y,SqB K t1 H l1 xs/\SqB K t2 H l2 ys/\xs[i]? = some x/\ys[i]? = some y,
   fun i H v H'=>∃(p:Addr)(x y:V),H p=none/\v = .ref p/\H'=upd H p (.tup [x,y])/\(∀ xs,SqB K t1 H l1 xs->xs[i]? = some x)/\∀ ys,SqB K t2 H l2 ys->ys[i]? = some y,
   fun i H=>∃ xs ys,SqB K t1 H l1 xs/\SqB K t2 H l2 ys/\(xs.length<=i\/ys.length<=i)⟩
variable{P:Program}{elts:List Expr}
theorem yX{w:World}{K:W.Frag}{x1}{pos:Pos}(z TI TO i1 i2 l1 l2:Addr)(D:ZipApart z TI TO i1 i2 l1 l2) :
  Turn P w K (.Tuple elts x1 pos) (Itz K t1 t2 l1 l2) [z,TI,TO,i1,i2] z (fun i h=>IsZip h z TI TO .none/\IsPair h TI (.ref i1) (.ref i2)/\(∃ a b,IsPair h TO a b)/\aB h t1 i1 l1 i/\aB h t2 i2 l2 i) where
 mem:=by simp
 obj:=by
  rintro i h ⟨h1,h2,⟨a,b,h3⟩,h4,h5⟩ c hc
  simp only[List.mem_cons,List.not_mem_nil,or_false]at hc;rcases hc with rfl|rfl|rfl|rfl|rfl
  ·exact⟨_,h1,fun v e=>by cases e⟩
  ·exact⟨_,h2,fun v e=>by cases e⟩
  ·exact⟨_,h3,fun v e=>by cases e⟩
  ·exact h4.obj
  ·exact h5.obj
 keep:=by
  rintro i h h' ⟨h1,h2,⟨a,b,h3⟩,h4,h5⟩ k
  exact⟨k z (by simp) _ h1,k TI (by simp) _ h2,⟨a,b,k TO (by simp) _ h3⟩,h4.at fun o e=>k i1 (by simp) o e,h5.at fun o e=>k i2 (by simp) o e⟩
 item:=by
  intro X hP hw hK hc i gV s σ H E I hf st hg;subst hP hw hK;obtain⟨h1,h2,⟨a,b,h3⟩,h4,h5⟩:=st;obtain⟨xs,ys,x,y,q1,q2,e1,e2⟩:=hg;obtain⟨D9,rv1,o1,z1⟩:=I.la q1;obtain⟨bu,rv2,o2,z2⟩:=I.la q2;obtain⟨u1,hu1,ru1⟩:=rv1.get e1;obtain⟨u2,hu2,ru2⟩:=rv2.get e2;refine rh D h1 h2 h3 h4 h5 o1 o2 (x:=u1) (y:=u2) (by simpa using hu1) (by simpa using hu2) fun h' hz' KL Nu Nt hp' Nk hk'=>⟨_,rfl,?_⟩
  refine wpAny_letOwnedTupleGo_zip hz' fun h'' Nj HI=>?_
  have hn:=I.hok.fresh (Nat.le_refl s.heap.objs.size);have lz:z<s.heap.objs.size:=Heap.lt_size h1;have lTI:TI<s.heap.objs.size:=Heap.lt_size h2;have lTO:TO<s.heap.objs.size:=Heap.lt_size h3;obtain⟨oi1,NA,_⟩:=h4.obj;obtain⟨oi2,Nz,_⟩:=h5.obj;have li1:i1<s.heap.objs.size:=Heap.lt_size NA;have li2:i2<s.heap.objs.size:=Heap.lt_size Nz;have Hr:∀ b ∈ [z,TI,TO,i1,i2],b≠s.heap.objs.size:=fun b hb=>by
   simp only[List.mem_cons,List.not_mem_nil,or_false]at hb;rcases hb with rfl|rfl|rfl|rfl|rfl
   ·exact Nat.ne_of_lt lz
   ·exact Nat.ne_of_lt lTI
   ·exact Nat.ne_of_lt lTO
   ·exact Nat.ne_of_lt li1
   ·exact Nat.ne_of_lt li2
  have up:∀ c o,c≠z->h'.get? c=some o->h''.get? c=some o:=fun c o hc e=>HI.extBut _ _ hc e
  have I1:Inv X gV σ (upd H s.heap.objs.size (.tup [x,y])) { s with heap:=s.heap.push { cls:=.type "tuple",data:=.seq #[u1,u2] } } :=
   I.laid (t':=s.toks) (fun b u e=>Heap.get?_push_of_some _ e) (Nat.le_refl _) ⟨by show 2<=sizeLine;decide,[u1,u2],.cons ru1 (.cons ru2 .nil),⟨⟨_,Heap.get?_push_size _ rfl,rfl,_,rfl⟩,_,Heap.get?_push_size _ rfl,rfl⟩⟩
  have hf':∀ b ∈ [z,TI,TO,i1,i2],mJ X gV (upd H s.heap.objs.size (.tup [x,y])) b:=fun b hb=>by
   obtain⟨f0,r⟩:=hf b hb;exact⟨by rw[aj (Hr b hb)];exact f0,r⟩
  have I2:Inv X gV σ (upd H s.heap.objs.size (.tup [x,y])) { s with heap:=h'' }:=by
   refine I1.kE (h':=h'') (t':=s.toks) (fun b o hb e=>?_) hf'
   simp only[List.mem_cons,List.not_mem_nil,or_false,not_or]at hb;obtain⟨b1,b2,b3,b4,b5⟩:=hb;rcases Heap.get?_push_cases e with⟨rfl,rfl⟩|e'
   ·exact up _ _ b1 hp'
   ·exact up _ _ b1 (hk' b o b1 b3 b4 b5 e')
  refine⟨.ref s.heap.objs.size,upd H s.heap.objs.size (.tup [x,y]),I2,rfl,⟨_,x,y,hn,rfl,rfl,fun zs hz=>by rw[I.k9 hz q1];exact e1,fun zs hz=>by rw[I.k9 hz q2];exact e2⟩,?_,fun b hb=>(hf' b hb).1⟩
  exact⟨Nj,up _ _ D.TIz (hk' TI _ D.TIz D.TITO D.TIi1 D.TIi2 h2),⟨_,_,up _ _ D.TOz KL⟩,Nu.at fun o e=>up _ _ D.i1z e,Nt.at fun o e=>up _ _ D.i2z e⟩
 done:=by
  intro X hP hw hK hc i gV s σ H E I hf st hg;subst hP hw hK;obtain⟨h1,h2,⟨a,b,h3⟩,h4,h5⟩:=st;obtain⟨xs,ys,q1,q2,md⟩:=hg;obtain⟨D9,rv1,o1,z1⟩:=I.la q1;obtain⟨bu,rv2,o2,z2⟩:=I.la q2;have g1:=rv1.length;have g2:=rv2.length;refine vE (I.ok.hd hc) D h1 h2 h3 h4 h5 o1 o2 ?_ fun h' k=>⟨rfl,I.kE (t':=s.toks) (fun b o hb e=>?_) hf⟩
  ·rcases md with e|e
   ·left;simp;omega
   ·right;simp;omega
  ·simp only[List.mem_cons,List.not_mem_nil,or_false,not_or]at hb;exact k b o hb.1 hb.2.2.1 hb.2.2.2.1 hb.2.2.2.2 e
 self:=fun _ _ _ _ _ st h=>wpAny_pyIter_zip st.1 h
def itc(tp:Bool):String:=if tp=true then "tuple_iterator" else "list_iterator"
variable{prog:Program}{A:Around}{E:Value->Shared->Prop}
theorem gj{w:World}{s:Shared}(h:aN s.heap tp l xs)
  (hQ:Q (.ref s.heap.objs.size) { s with heap:=s.heap.push { cls:=.type (itc tp),data:=.fields #[.ref l,.int 0 0] } }):wpAny (model prog w) A (pyIter (.ref l)) Q E s:=by
 cases tp with
 | true=>exact wpAny_pyIter_tuple (show s.heap.IsTuple l xs from h) hQ
 | false=>exact wpAny_pyIter_list (show s.heap.IsList l xs from h) hQ
abbrev zH1(t1:Bool)(h:Heap)(l1:Addr):Heap:=h.push { cls:=.type (itc t1),data:=.fields #[.ref l1,.int 0 0] }
abbrev zH2(t1 t2:Bool)(h:Heap)(l1 l2:Addr):Heap:=(zH1 t1 h l1).push { cls:=.type (itc t2),data:=.fields #[.ref l2,.int 0 0] }
abbrev zH3(t1 t2:Bool)(h:Heap)(l1 l2:Addr):Heap:=(zH2 t1 t2 h l1 l2).push { cls:=.type "tuple",data:=.seq #[.ref h.objs.size,.ref (zH1 t1 h l1).objs.size] }
abbrev zH4(t1 t2:Bool)(h:Heap)(l1 l2:Addr):Heap:=(zH3 t1 t2 h l1 l2).push { cls:=.type "tuple",data:=.seq #[.none,.none] }
abbrev zH5(t1 t2:Bool)(h:Heap)(l1 l2:Addr):Heap:=(zH4 t1 t2 h l1 l2).push { cls:=.type "zip",data:=.fields #[.none,.bool false,.bool false,.ref (zH2 t1 t2 h l1 l2).objs.size,.ref (zH3 t1 t2 h l1 l2).objs.size] }
theorem mV(t1 t2:Bool)(l1 l2:Addr)(xs ys:Array Value) :
  Meets (Builtin.«zip.__new__» ⟨[.type "zip",.ref l1,.ref l2],[]⟩) (fun _ R s=>aN s.heap t1 l1 xs/\aN s.heap t2 l2 ys /\
   R (.ok (.ret (.ref (zH4 t1 t2 s.heap l1 l2).objs.size))) { s with heap:=zH5 t1 t2 s.heap l1 l2 }) :=
 .of_wp fun prog w A R s h=>by
  obtain⟨hp,g,d,tk,os⟩:=s;obtain⟨hl1,hl2,h⟩:=h;have Nl:=sub_zip;have hL1:aN (Shared.heap ⟨hp,g,d,tk,os⟩) t1 l1 xs:=hl1;have hL2:aN (Shared.heap ⟨hp.push { cls:=.type (itc t1),data:=.fields #[.ref l1,.int 0 0] },g,d,tk,os⟩) t2 l2 ys:=hl2.at fun o e=>Heap.get?_push_of_some _ e
  wp_walk using gj hL1,gj hL2
  exact⟨_,rfl,h⟩
theorem fQ{h:Heap}(e:h.get? it=some { cls:=.type (itc tp),data:=.fields #[.ref l,.int 0 0] }):aB h tp it l 0:=by
 cases tp with
 | true=>exact(show h.IsTupleIter it l 0 from⟨_,e,rfl,rfl⟩)
 | false=>exact(show h.IsListIter it l 0 from⟨_,e,rfl,rfl⟩)
theorem jn{prog:Program}{w:World}{A:Around}{E:Value->Shared->Prop}{s:Shared}(hl1:aN s.heap t1 l1 xs)(hl2:aN s.heap t2 l2 ys)
  (h:∀ h',IsZip h' (s.heap.objs.size+4) (s.heap.objs.size+2) (s.heap.objs.size+3) .none->IsPair h' (s.heap.objs.size+2) (.ref s.heap.objs.size) (.ref (s.heap.objs.size+1)) ->
   IsPair h' (s.heap.objs.size+3) .none .none->aB h' t1 s.heap.objs.size l1 0->aB h' t2 (s.heap.objs.size+1) l2 0 ->
   (∀ c o,s.heap.get? c=some o->h'.get? c=some o)->Q (.ref (s.heap.objs.size+4)) { s with heap:=h' }) :
  wpAny (model prog w) A (call (.type "zip") [.ref l1,.ref l2]) Q E s:=by
 refine callType_new F.called_zip (by decide) (F.typeCall_zip_2 _ _) (F.newCall_zip_2 _ _) (fun obj=>F.args_object_init_3 obj _ _) F.entry_zip_new
  (mV t1 t2 l1 l2 xs ys) ⟨hl1,hl2,?_⟩
 have z1:(zH1 t1 s.heap l1).objs.size=s.heap.objs.size+1:=Heap.size_push ..;have z2:(zH2 t1 t2 s.heap l1 l2).objs.size=s.heap.objs.size+2:=by rw[Heap.size_push,z1]
 have z3:(zH3 t1 t2 s.heap l1 l2).objs.size=s.heap.objs.size+3:=by rw[Heap.size_push,z2]
 have z4:(zH4 t1 t2 s.heap l1 l2).objs.size=s.heap.objs.size+4:=by rw[Heap.size_push,z3]
 have g5:(zH5 t1 t2 s.heap l1 l2).get? (zH4 t1 t2 s.heap l1 l2).objs.size=some _:=Heap.get?_push_size _ rfl;have g4:(zH5 t1 t2 s.heap l1 l2).get? (zH3 t1 t2 s.heap l1 l2).objs.size=some _:=Heap.get?_push_of_some _ (Heap.get?_push_size _ rfl);have g3:(zH5 t1 t2 s.heap l1 l2).get? (zH2 t1 t2 s.heap l1 l2).objs.size=some _:=Heap.get?_push_of_some _ (Heap.get?_push_of_some _ (Heap.get?_push_size _ rfl));have g2:(zH5 t1 t2 s.heap l1 l2).get? (zH1 t1 s.heap l1).objs.size=some _:=Heap.get?_push_of_some _ (Heap.get?_push_of_some _ (Heap.get?_push_of_some _ (Heap.get?_push_size _ rfl)));have g1:(zH5 t1 t2 s.heap l1 l2).get? s.heap.objs.size=some _:=Heap.get?_push_of_some _ (Heap.get?_push_of_some _ (Heap.get?_push_of_some _ (Heap.get?_push_of_some _ (Heap.get?_push_size _ rfl))));show _/\_;rw[z2,z3,z4]at g5;rw[z1,z2]at g3;rw[z3]at g4;rw[z1]at g2;rw[z4];exact⟨⟨_,g5,rfl⟩,h _ g5 g3 g4 (fQ g1) (fQ g2) fun c o x =>
  Heap.get?_push_of_some _ (Heap.get?_push_of_some _ (Heap.get?_push_of_some _ (Heap.get?_push_of_some _ (Heap.get?_push_of_some _ x))))⟩
def HF(K:W.Frag)(t1 t2:Bool)(ta:TA):TI:=fun σ H R=>ta σ H fun vs H1=>∃ l1 l2,vs = [.ref l1,.ref l2]/\(∃ xs,SqB K t1 H1 l1 xs)/\(∃ ys,SqB K t2 H1 l2 ys)/\R (Itz K t1 t2 l1 l2) H1
theorem aN.obj{h:Heap}(x:aN h tp l xs):∃ o,h.get? l=some o:=by
 cases tp with
 | true=>obtain⟨o,ho,_⟩:=(show h.IsTuple l xs from x);exact⟨o,ho⟩
 | false=>obtain⟨o,ho,_⟩:=(show h.IsList l xs from x);exact⟨o,ho⟩
variable{n:Nat}
theorem j6{l1 l2:Nat}(h1:l1<n)(h2:l2<n):ZipApart (n+4) (n+2) (n+3) n (n+1) l1 l2:=by
 constructor <;>(intro z;refine absurd (show @Eq Nat _ _ from z) ?_;omega)
variable{pos':Pos}{b:Expr}
theorem GY{x1}{a:Expr}{ta:TA}{p pos:Pos}(hg:Gl X "zip")(hm:X.mg "zip" = none)(dC:bootBuiltins "zip" = some (.type "zip"))(ha:PA X [a,b] ta)(hs:starEach [a,b] X.env = [(false,eval a X.env),(false,eval b X.env)]:=by rfl)(hs2:starEach [b] X.env = [(false,eval b X.env)]:=by rfl) :
  PI X (.Tuple elts x1 pos') (.Call (.Name "zip" p) [a,b] [] pos) (HF X.K t1 t2 ta):=by
 intro gV s σ H R I h;refine Call_ (dZ I hg hm dC (PyProof.Rows.callWith_type1 (thn (ha pos gV s σ H _ I h) fun us s1 ⟨vs,H1,I1,r1,q1⟩=>?_) (by rw[hs,hs2]) (by rw[hs2];rfl)))
 obtain⟨l1,l2,e,⟨xs,q2⟩,⟨ys,q3⟩,q⟩:=q1;subst e;obtain⟨u1,u2,rfl,ru1,ru2⟩:=vals2 r1;cases ru1;cases ru2;obtain⟨D9,rv1,o1,z1⟩:=I1.la q2;obtain⟨bu,rv2,o2,z2⟩:=I1.la q3;obtain⟨ob1,e1⟩:=o1.obj;obtain⟨ob2,e2⟩:=o2.obj;have g1:l1<s1.heap.objs.size:=Heap.lt_size e1;have g2:l2<s1.heap.objs.size:=Heap.lt_size e2;refine jn o1 o2 fun h' hz hTI hTO hi1 hi2 hk=>wpAny_pyIter_zip hz ?_
 refine⟨_,[s1.heap.objs.size+4,s1.heap.objs.size+2,s1.heap.objs.size+3,s1.heap.objs.size,s1.heap.objs.size+1],_,_,H1,rfl,I1.kept (t':=s1.toks) hk,yX _ _ _ _ _ l1 l2 ?_,⟨hz,hTI,⟨_,_,hTO⟩,hi1,hi2⟩,fun c hc=>?_,q⟩
 ·exact j6 g1 g2
 ·have hc':s1.heap.objs.size<=c:=by
   simp only[List.mem_cons,List.not_mem_nil,or_false]at hc;rcases hc with rfl|rfl|rfl|rfl|rfl <;> first|exact Nat.le_add_right _ _|exact Nat.le_refl _
  exact I1.Be hc' (I1.hok.fresh hc')
theorem xP{t:Nat}(h:ws.Nodup):(ws.drop t++ws.take t).Nodup :=
 (List.perm_append_comm (l₁:=ws.take t) (l₂:=ws.drop t)).nodup_iff.mp (by rw[List.take_append_drop];exact h)
variable{d:Addr}
theorem jv.other{q:Addr}{o:HO}(D:jv H d l)(h1:q≠d)(h2:q≠l):jv (upd H q o) d l:=by
 obtain⟨s,n,ls,D⟩:=D;exact⟨s,n,ls,by rw[aj h1.symm];exact D.hd,by rw[aj h2.symm];exact D.hl,D.s0,D.s1,D.n0,D.l0⟩
def names(ks:List Kd):List Str:=ks.flatMap fun k=>k.2.map (·.1)
variable{x:Str}
theorem take_one{xs:List Str}{i:Nat}(h:xs[i]? = some x):xs.take i ++ [x]=xs.take (i+1):=by rw[List.take_add_one,h];rfl
variable{es:List Expr}
theorem ja{K:W.Frag}{k:Nat}{pos:Pos}{t:TGs}(hK:X.K=K)(hc:X.calm=true)(h:PGs X es t)
  (hn:(assignEach es X.env).length=n:=by rfl) (hst:(assignEach es X.env).findIdx? (·.1)=none:=by rfl):PG X (.Tuple es k pos) (Ej K n t):=hK▸G0 hc h hn hst
abbrev j4(h:Heap)(z TI TO:Addr)(a:Addr)(f:Bool):Prop :=
 h.get? z=some { cls:=.type "zip",dict:=none,data:=.fields #[rawInt a,.bool f,.bool false,.ref TI,.ref TO],slots:=#[] }
variable{oa:Obj}
section
variable{w:World}{s:Shared}
theorem se{TI TO:Addr}{f:Bool}{Q:Bool->Shared->Prop}(hz:j4 s.heap z TI TO a f)(ha:s.heap.get? a=some oa)
  (hQ:∀ h',j4 h' z TI TO a true->Heap.SameBut z s.heap h'->Q false { s with heap:=h' }):wpAny (model prog w) A (Builtin.SmallTypes.ownedTupleIsFree (.ref z)) Q E s:=by
 unfold Builtin.SmallTypes.ownedTupleIsFree;refine wpAny_bind (wpAny_field hz rfl (x:=rawInt a) rfl ?_);show wpAny _ _ (loadIfAlive ((a:Int).toNat) >>= _) _ _ _;rw[Int.toNat_natCast];refine wpAny_bind (W.kdx_alive ha ?_);simp only[Option.isNone_some,Bool.false_eq_true,if_false];refine wpAny_bind (wpAny_field hz rfl (x:=.bool f) rfl ?_);cases f with
 | true =>
  rw[if_neg (show ¬((Value.bool true != Value.bool true)=true)from Bool.false_ne_true)];exact wpAny_pure (hQ _ hz (Heap.SameBut.refl _ _))
 | false =>
  rw[if_pos (show(Value.bool false != Value.bool true)=true from rfl)];refine wpAny_bind (wpAny_setField_rec hz (by simp) fun h₃ he₃ hs₃=>?_)
  exact wpAny_pure (hQ _ he₃ hs₃)
theorem Cd{TI TO:Addr}{f:Bool}{x y:Value}{Q:Option Value->Shared->Prop}(D:ZipApart z TI TO i1 i2 l1 l2)
  (hz:j4 s.heap z TI TO a f) (ha:s.heap.get? a=some oa) (hTI:IsPair s.heap TI (.ref i1) (.ref i2))
  (h1:aB s.heap t1 i1 l1 k1) (h2:aB s.heap t2 i2 l2 k2) (hl1:aN s.heap t1 l1 xs) (hl2:aN s.heap t2 l2 ys) (hx:xs[k1]? = some x) (hy:ys[k2]? = some y)
  (hQ:∀ h',j4 h' z TI TO a true->aB h' t1 i1 l1 (k1+1)->aB h' t2 i2 l2 (k2+1)->IsPair h' s.heap.objs.size x y->h'.objs.size=s.heap.objs.size+1 ->
   (∀ c o,c≠z->c≠i1->c≠i2->s.heap.get? c=some o->h'.get? c=some o)->Q (some (.ref s.heap.objs.size)) { s with heap:=h' }) :
  wpAny (model prog w) A (pyNext (.ref z)) Q E s:=by
 have hT:s.TypeIs (.ref z) "zip":=⟨_,hz,rfl⟩;unfold pyNext;refine wpAny_bind (wpAny_attempt (wpAny_callSpecial?_slot (name:=Str.ofString "__next__") hT F.slot_zip_next
  (wpAny_call_entry F.slot_zip_next hT F.entry_zip_next ?_ (F.args_zip_next_1 _))))
 show wpAny _ _ (field (.ref z) 2 >>= _) _ _ _;refine wpAny_bind (wpAny_field hz rfl (x:=.bool false) rfl ?_);show wpAny _ _ (field (.ref z) 3 >>= _) _ _ _;refine wpAny_bind (wpAny_field hz rfl (x:=.ref TI) rfl ?_);refine wpAny_bind (wpAny_seqItems hTI rfl ?_);show wpAny _ _ (Builtin.SmallTypes.ownedTupleIsFree (.ref z) >>= _) _ _ _;refine wpAny_bind (se hz ha fun h₁ hz₁ hs₁=>?_)
 simp only[Bool.false_eq_true,if_false];rw[<- Array.forIn_toList];simp only[List.forIn_cons,List.forIn_nil];refine wpAny_bind (wpAny_bind (wpAny_bind (wpAny_holding ?_)));show wpAny _ _ (Builtin.SmallTypes.nextOf (.ref i1) >>= _) _ _ _;refine wpAny_bind (next_item (h1.at fun o e=>hs₁.extBut _ o D.i1z e) (hl1.at fun o e=>hs₁.extBut _ o D.l1z e) hx fun h₂ h1₂ hs₂=>wpAny_pure (wpAny_pure ?_))
 refine wpAny_bind (wpAny_bind (wpAny_holding ?_));show wpAny _ _ (Builtin.SmallTypes.nextOf (.ref i2) >>= _) _ _ _;refine wpAny_bind (next_item (h2.at fun o e=>hs₂.extBut _ o D.i12.symm (hs₁.extBut _ o D.i2z e)) (hl2.at fun o e=>hs₂.extBut _ o D.l2i1 (hs₁.extBut _ o D.l2z e)) hy fun h₃ h2₃ hs₃=>wpAny_pure (wpAny_pure ?_))
 refine wpAny_pure ?_;show wpAny _ _ (newTuple [x,y] >>= _) _ _ _;refine wpAny_bind (wpAny_newTuple ?_);have hsz:h₃.objs.size=s.heap.objs.size:=by rw[hs₃.1,hs₂.1,hs₁.1]
 have up:∀ c o,c≠z->c≠i1->c≠i2->s.heap.get? c=some o ->(h₃.push { cls:=.type "tuple",data:=.seq #[x,y] }).get? c=some o:=fun c o c1 c2 c3 e =>
  Heap.get?_push_of_some _ (hs₃.extBut _ _ c3 (hs₂.extBut _ _ c2 (hs₁.extBut _ _ c1 e)))
 refine wpAny_pure ⟨_,rfl,wpAny_pure ?_⟩;show Q (some (.ref h₃.objs.size)) _;rw[hsz];refine hQ _ (Heap.get?_push_of_some _ (hs₃.extBut _ _ D.i2z.symm (hs₂.extBut _ _ D.i1z.symm hz₁))) ?_ ?_ ?_ ?_ up
 ·exact h1₂.at fun o e=>Heap.get?_push_of_some _ (hs₃.extBut _ o D.i12 e)
 ·exact h2₃.at fun o e=>Heap.get?_push_of_some _ e
 ·rw[<- hsz];exact Heap.get?_push_size _ rfl
 ·rw[Heap.size_push,hsz]
theorem rf{TI TO:Addr}{f:Bool}{Q:Option Value->Shared->Prop}(hh:A.handled=none)(D:ZipApart z TI TO i1 i2 l1 l2)
  (hz:j4 s.heap z TI TO a f) (ha:s.heap.get? a=some oa) (hTI:IsPair s.heap TI (.ref i1) (.ref i2))
  (h1:aB s.heap t1 i1 l1 k1) (h2:aB s.heap t2 i2 l2 k2) (hl1:aN s.heap t1 l1 xs) (hl2:aN s.heap t2 l2 ys) (md:xs[k1]? = none\/ys[k2]? = none)
  (hQ:∀ h',(∀ c o,c≠z->c≠i1->c≠i2->s.heap.get? c=some o->h'.get? c=some o)->Q none { s with heap:=h' }) :
  wpAny (model prog w) A (pyNext (.ref z)) Q E s:=by
 have hT:s.TypeIs (.ref z) "zip":=⟨_,hz,rfl⟩;have fin:∀ h' e,(∀ c o,c≠z->c≠i1->c≠i2->s.heap.get? c=some o->h'.get? c=some o) ->(∃ o,h'.get? e=some o/\o.cls = .type "StopIteration") ->
   wpAny (model prog w) A (do if <- isInstance (.ref e) (.type "StopIteration")then pure none else throw (.ref e)) Q E { s with heap:=h' }:=fun h' e hk he=>by
  obtain⟨o,ho,hc⟩:=he;refine wpAny_bind (wpAny_isInstance (T:="StopIteration") (b:=true) ⟨o,ho,hc⟩ isSubtype_stop ?_);exact wpAny_pure (hQ _ hk)
 unfold pyNext;refine wpAny_bind (wpAny_attempt (wpAny_callSpecial?_slot (name:=Str.ofString "__next__") hT F.slot_zip_next
  (wpAny_call_entry F.slot_zip_next hT F.entry_zip_next ?_ (F.args_zip_next_1 _))))
 show wpAny _ _ (field (.ref z) 2 >>= _) _ _ _;refine wpAny_bind (wpAny_field hz rfl (x:=.bool false) rfl ?_);show wpAny _ _ (field (.ref z) 3 >>= _) _ _ _;refine wpAny_bind (wpAny_field hz rfl (x:=.ref TI) rfl ?_);refine wpAny_bind (wpAny_seqItems hTI rfl ?_);show wpAny _ _ (Builtin.SmallTypes.ownedTupleIsFree (.ref z) >>= _) _ _ _;refine wpAny_bind (se hz ha fun h₁ hz₁ hs₁=>?_)
 simp only[Bool.false_eq_true,if_false];rw[<- Array.forIn_toList];simp only[List.forIn_cons,List.forIn_nil];refine wpAny_bind (wpAny_bind (wpAny_bind (wpAny_holding ?_)));show wpAny _ _ (Builtin.SmallTypes.nextOf (.ref i1) >>= _) _ _ _;cases hx:xs[k1]? with
 | none =>
  refine wpAny_bind (next_end hh (h1.at fun o e=>hs₁.extBut _ o D.i1z e) (hl1.at fun o e=>hs₁.extBut _ o D.l1z e) hx fun h₂ e hs₂ he=>?_)
  exact fin h₂ e (fun c o c1 c2 _ x=>hs₂ _ _ c2 (hs₁.extBut _ _ c1 x)) he
 | some x =>
  have hy:ys[k2]? = none:=by rcases md with h|h;rw[hx]at h;cases h;exact h
  refine wpAny_bind (next_item (h1.at fun o e=>hs₁.extBut _ o D.i1z e) (hl1.at fun o e=>hs₁.extBut _ o D.l1z e) hx fun h₂ h1₂ hs₂=>wpAny_pure (wpAny_pure ?_))
  refine wpAny_bind (wpAny_bind (wpAny_holding ?_));show wpAny _ _ (Builtin.SmallTypes.nextOf (.ref i2) >>= _) _ _ _;refine wpAny_bind (next_end hh (h2.at fun o e=>hs₂.extBut _ o D.i12.symm (hs₁.extBut _ o D.i2z e)) (hl2.at fun o e=>hs₂.extBut _ o D.l2i1 (hs₁.extBut _ o D.l2z e)) hy fun h₃ e hs₃ he=>?_)
  exact fin h₃ e (fun c o c1 c2 c3 x=>hs₃ _ _ c3 (hs₂.extBut _ _ c2 (hs₁.extBut _ _ c1 x))) he
end
structure ZSt(h:Heap)(z TI TO i1 i2 l1 l2 S:Addr)(t1 t2:Bool)(i:Nat):Prop where
 ti:IsPair h TI (.ref i1) (.ref i2)
 s1:aB h t1 i1 l1 i
 s2:aB h t2 i2 l2 i
 st:(IsZip h z TI TO .none/\∃ a b,IsPair h TO a b)\/∃(a:Addr)(f:Bool)(oa:Obj),j4 h z TI TO a f/\h.get? a=some oa/\a≠z/\a≠S/\a≠i1/\a≠i2
variable{S:Addr}
theorem ZSt.keep{h:Heap}{TI TO:Addr}{i:Nat}(x:ZSt h z TI TO i1 i2 l1 l2 S t1 t2 i)(k:∀ b o,b≠S->h.get? b=some o->h'.get? b=some o)(hz:z≠S)(hTI:TI≠S)(hTO:TO≠S)(h1:i1≠S)(h2:i2≠S):ZSt h' z TI TO i1 i2 l1 l2 S t1 t2 i :=
 ⟨k _ _ hTI x.ti,x.s1.at fun o e=>k _ o h1 e,x.s2.at fun o e=>k _ o h2 e,by
  rcases x.st with⟨e,a,b,e2⟩ |⟨a,f,oa,e,e2,n1,n2,n3⟩
  ·exact .inl ⟨k _ _ hz e,a,b,k _ _ hTO e2⟩
  ·exact .inr ⟨a,f,oa,k _ _ hz e,k _ _ n2 e2,n1,n2,n3⟩⟩
structure ZG(xs ys:Array Value)(lo:Nat)(h:Heap)(as:List Addr):Prop where
 rise:as.Pairwise (· < ·)
 above:∀ a∈as,lo<=a
 pairs:∀(j:Nat)(a:Addr),as[j]? = some a->∃ x y,xs[j]? = some x/\ys[j]? = some y/\IsPair h a x y
theorem ZG.there{lo:Nat}{h:Heap}{as:List Addr}(g:ZG xs ys lo h as)(ha:a∈as):a<h.objs.size:=by
 obtain⟨j,hj⟩:=List.mem_iff_getElem?.mp ha;obtain⟨_,_,_,_,e⟩:=g.pairs j a hj;exact Heap.lt_size e
section
variable{w:World}{s:Shared}
theorem B8{E:Value->Shared->Prop}{TI TO:Addr}{k:Nat}{x y:Value}{Q:Option Value->Shared->Prop}(D:ZipApart z TI TO i1 i2 l1 l2)
  (st:ZSt s.heap z TI TO i1 i2 l1 l2 S t1 t2 k) (hS:S<s.heap.objs.size) (hl1:aN s.heap t1 l1 xs) (hl2:aN s.heap t2 l2 ys) (hx:xs[k]? = some x) (hy:ys[k]? = some y)
  (hQ:∀ h',ZSt h' z TI TO i1 i2 l1 l2 S t1 t2 (k+1)->IsPair h' s.heap.objs.size x y->h'.objs.size=s.heap.objs.size+1 ->
   (∀ c o,c≠z->c≠TO->c≠i1->c≠i2->s.heap.get? c=some o->h'.get? c=some o)->Q (some (.ref s.heap.objs.size)) { s with heap:=h' }) :
  wpAny (model prog w) A (pyNext (.ref z)) Q E s:=by
 obtain⟨o1,g1,_⟩:=st.s1.obj;obtain⟨o2,g2,_⟩:=st.s2.obj;rcases st.st with⟨hz,a,b,hTO⟩ |⟨a,f,oa,hz,ha,n1,n2,n3,n4⟩
 ·refine rh D hz st.ti hTO st.s1 st.s2 hl1 hl2 hx hy fun h' hz' KL e1 e2 hp hsz hk=>hQ h' ⟨hk _ _ D.TIz D.TITO D.TIi1 D.TIi2 st.ti,e1,e2,.inr ⟨s.heap.objs.size,false,_,hz',hp,?_,?_,?_,?_⟩⟩ hp hsz hk
  ·exact Nat.ne_of_gt (Heap.lt_size hz)
  ·exact Nat.ne_of_gt hS
  ·exact Nat.ne_of_gt (Heap.lt_size g1)
  ·exact Nat.ne_of_gt (Heap.lt_size g2)
 ·exact Cd D hz ha st.ti st.s1 st.s2 hl1 hl2 hx hy fun h' hz' e1 e2 hp hsz hk=>hQ h' ⟨hk _ _ D.TIz D.TIi1 D.TIi2 st.ti,e1,e2,.inr ⟨a,true,oa,hz',hk a oa n1 n3 n4 ha,n1,n2,n3,n4⟩⟩ hp hsz fun c o c1 _ c3 c4 e=>hk c o c1 c3 c4 e
theorem B9{TI TO:Addr}{k:Nat}{Q:Option Value->Shared->Prop}(hh:A.handled=none)(D:ZipApart z TI TO i1 i2 l1 l2)
  (st:ZSt s.heap z TI TO i1 i2 l1 l2 S t1 t2 k) (hl1:aN s.heap t1 l1 xs) (hl2:aN s.heap t2 l2 ys) (md:xs[k]? = none\/ys[k]? = none)
  (hQ:∀ h',(∀ c o,c≠z->c≠TO->c≠i1->c≠i2->s.heap.get? c=some o->h'.get? c=some o)->Q none { s with heap:=h' }):wpAny (model prog w) A (pyNext (.ref z)) Q E s:=by
 rcases st.st with⟨hz,a,b,hTO⟩ |⟨a,f,oa,hz,ha,n1,n2,n3,n4⟩
 ·exact vE hh D hz st.ti hTO st.s1 st.s2 hl1 hl2 md hQ
 ·exact rf hh D hz ha st.ti st.s1 st.s2 hl1 hl2 md fun h' hk=>hQ h' fun c o c1 _ c3 c4 e=>hk c o c1 c3 c4 e
theorem Ca{R:Result->Shared->Prop}{TI TO:Addr}{t1 t2:Bool}{lo:Nat}(hh:A.handled=none)(D:ZipApart z TI TO i1 i2 l1 l2)(hzS:z≠S)(uX:TI≠S)(qh:TO≠S)(h1S:i1≠S)(h2S:i2≠S)(uW:l1≠S)(uV:l2≠S)
  (oS:S<lo) (oz:z<lo) (oTO:TO<lo) (o1:i1<lo) (o2:i2<lo) (en:n=min xs.size ys.size) (hn:n<=sizeLine) (res:Value) {h₁:Heap}
  (hR:∀ h' tk acc c as,(∀ b o,b≠S->b≠z->b≠TO->b≠i1->b≠i2->h₁.get? b=some o->h'.get? b=some o)->h'.get? S=some { cls:=.type "list",dict:=none,data:=.seq acc c,slots:=#[] }->as.length=n->ZG xs ys lo h' as ->
   acc.toList=as.map Value.ref->R (.ok (.ret res)) { s with heap:=h',toks:=tk }) :
  ∀(k i:Nat)(h:Heap)(tk c:Nat)(acc:Array Value)(as:List Addr),n - i=k->i<=n->ZSt h z TI TO i1 i2 l1 l2 S t1 t2 i->aN h t1 l1 xs->aN h t2 l2 ys ->(∀ b o,b≠S->b≠z->b≠TO->b≠i1->b≠i2->h₁.get? b=some o->h.get? b=some o) ->
   h.get? S=some { cls:=.type "list",dict:=none,data:=.seq acc c,slots:=#[] }->acc.toList=as.map Value.ref->as.length=i->ZG xs ys lo h as->lo<=h.objs.size ->
   codeAny (model prog w) A (.builtin "list.extend.loop" ⟨[.ref S,.ref z,res],[]⟩) R { s with heap:=h,toks:=tk }:=by
 have ne:∀{a b:Nat},a<lo->lo<=b->b≠a:=fun h1 h2=>by omega
 intro k
 induction k with
 | zero =>
  intro i h tk c acc as hk hi hst hL1 hL2 A7 hS dG hal hG hIs;have hin:i=n:=by omega
  refine codeAny_builtin PySem.F.entry_extend_loop ?_;rw[Around.under_plainId PySem.F.plain_extend_loop _];show wpAny _ A.in1 (pyNext (.ref z) >>= _) _ _ _;refine wpAny_bind (B9 (s:={ s with heap:=h,toks:=tk }) (A:=A.in1) hh D hst hL1 hL2 ?_ fun h' he=>?_)
  ·by_cases q:xs.size<=i
   ·exact .inl (Array.getElem?_eq_none q)
   ·exact .inr (Array.getElem?_eq_none (by omega))
  refine wpAny_pure (hR h' tk acc c as (fun b o b1 b2 b3 b4 b5 e=>he b o b2 b3 b4 b5 (A7 b o b1 b2 b3 b4 b5 e)) (he S _ hzS.symm qh.symm h1S.symm h2S.symm hS) (by omega) ⟨hG.rise,hG.above,fun j a hj=>?_⟩ dG)
  obtain⟨x,y,e1,e2,e3⟩:=hG.pairs j a hj;have ab:=hG.above a (List.mem_of_getElem? hj);exact⟨x,y,e1,e2,he a _ (ne oz ab) (ne oTO ab) (ne o1 ab) (ne o2 ab) e3⟩
 | succ k ih =>
  intro i h tk c acc as hk hi hst hL1 hL2 A7 hS dG hal hG hIs;have hlt:i<n:=by omega
  obtain⟨x,hx⟩:∃ x,xs[i]? = some x:=⟨xs[i]'(by omega),by simp[show i<xs.size by omega]⟩
  obtain⟨y,hy⟩:∃ y,ys[i]? = some y:=⟨ys[i]'(by omega),by simp[show i<ys.size by omega]⟩
  have hsz:acc.size=i:=by rw[<- Array.length_toList,dG,List.length_map,hal]
  refine codeAny_builtin PySem.F.entry_extend_loop ?_;rw[Around.under_plainId PySem.F.plain_extend_loop _];show wpAny _ A.in1 (pyNext (.ref z) >>= _) _ _ _;refine wpAny_bind (B8 (s:={ s with heap:=h,toks:=tk }) (S:=S) D hst (Heap.lt_size hS) hL1 hL2 hx hy fun h' HG ht hz hkp=>?_)
  dsimp only at ht hz hkp ⊢;have hS':=hkp S _ hzS.symm qh.symm h1S.symm h2S.symm hS;have up:∀ b o,b≠S->h'.get? b=some o ->(h'.update S (Obj.mapSeq (·.push (Value.ref h.objs.size)))).get? b=some o:=fun b o hb e=>(Heap.get?_update_other _ _ (Ne.symm hb)).trans e
  have hSl:S<h.objs.size:=Heap.lt_size hS;show wpAny _ A.in1 (updateSeq S (·.push (Value.ref h.objs.size)) >>= _) _ _ _;refine wpAny_bind ?_;refine wpAny_updateSeq hS' rfl (wpAny_pure ⟨plainId_quiet PySem.F.plain_extend_loop _,ih (i+1) _ tk _ (acc.push (Value.ref h.objs.size)) (as ++ [h.objs.size]) (by first |(rw[Nat.sub_succ];exact congrArg Nat.pred ‹_›)|omega) hlt (HG.keep up hzS uX qh h1S h2S)
   (hL1.at fun o e=>up _ o uW (hkp _ o D.l1z D.l1TO D.l1i1 D.l1i2 e)) (hL2.at fun o e=>up _ o uV (hkp _ o D.l2z D.l2TO D.l2i1 D.l2i2 e))
   (fun b o b1 b2 b3 b4 b5 e=>up b o b1 (hkp b o b2 b3 b4 b5 (A7 b o b1 b2 b3 b4 b5 e))) (Heap.get?_update_self _ hS' rfl) (by rw[Array.toList_push,dG,List.map_append];rfl) (by rw[List.length_append,hal];rfl) ⟨?_,?_,?_⟩ ?_⟩) (by rw[hsz];omega) (by show(acc.push (Value.ref h.objs.size)).size<=sizeLine+1;rw[Array.size_push,hsz];omega)
  ·refine List.pairwise_append.mpr ⟨hG.rise,List.pairwise_singleton _ _,fun a ha b hb=>?_⟩
   rw[List.mem_singleton.mp hb];exact hG.there ha
  ·intro a ha;rcases List.mem_append.mp ha with ha|ha
   ·exact hG.above a ha
   ·rw[List.mem_singleton.mp ha];exact hIs
  ·intro j b hj;rcases Nat.lt_trichotomy j as.length with h1|h1|h1
   ·rw[List.getElem?_append_left h1]at hj;obtain⟨x',y',e1,e2,e3⟩:=hG.pairs j b hj;have ab:=hG.above b (List.mem_of_getElem? hj);exact⟨x',y',e1,e2,up b _ (ne oS ab) (hkp b _ (ne oz ab) (ne oTO ab) (ne o1 ab) (ne o2 ab) e3)⟩
   ·subst h1;have hb:h.objs.size=b:=by simpa using hj
    subst hb;exact⟨x,y,by rw[hal];exact hx,by rw[hal];exact hy,up _ _ (Nat.ne_of_gt hSl) ht⟩
   ·have Kz:(as ++ [h.objs.size])[j]? = none:=List.getElem?_eq_none (by rw[List.length_append,List.length_singleton];omega)
    rw[Kz]at hj;cases hj
  ·have e:(h'.update S (Obj.mapSeq (·.push (Value.ref h.objs.size)))).get? h.objs.size=_:=up _ _ (Nat.ne_of_gt hSl) ht
   have:=Heap.lt_size e
   have Ny:lo<=h.objs.size:=hIs;exact Nat.le_trans Ny (Nat.le_of_lt this)
end
theorem sS:typeLookup (.type "zip") "__len__" = pure none:=by rw[typeLookup_type,builtinLookup_eq_fast];kernel_rfl
theorem rg:typeLookup (.type "zip") "__length_hint__" = pure none:=by rw[typeLookup_type,builtinLookup_eq_fast];kernel_rfl
section
variable{w:World}{s:Shared}
theorem xx{R:Result->Shared->Prop}{TI TO:Addr}(hh:A.handled=none)(D:ZipApart z TI TO i1 i2 l1 l2)(hzS:z≠S)(uX:TI≠S)(qh:TO≠S)(h1S:i1≠S)(h2S:i2≠S)(uW:l1≠S)(uV:l2≠S)
  (hz:IsZip s.heap z TI TO .none) {ta tb:Value} (hTO:IsPair s.heap TO ta tb) (hTI:IsPair s.heap TI (.ref i1) (.ref i2)) (hs1:aB s.heap t1 i1 l1 0) (hs2:aB s.heap t2 i2 l2 0) (hL1:aN s.heap t1 l1 xs) (hL2:aN s.heap t2 l2 ys)
  (en:n=min xs.size ys.size) (hn:n<=sizeLine) (res:Value) (c₀:Nat) (hS:s.heap.get? S=some { cls:=.type "list",data:=.seq #[] c₀ })
  (hR:∀ h' tk acc c as,(∀ b o,b≠S->b≠z->b≠TO->b≠i1->b≠i2->s.heap.get? b=some o->h'.get? b=some o)->h'.get? S=some { cls:=.type "list",dict:=none,data:=.seq acc c,slots:=#[] }->as.length=n->ZG xs ys s.heap.objs.size h' as ->
   acc.toList=as.map Value.ref->R (.ok (.ret res)) { s with heap:=h',toks:=tk }) :
  wpAny (model prog w) A.in1 (Builtin.List.listExtendWith (.ref S) (.ref z) res)
   (fun fin s'=>match fin with | .done f=>R (.ok f) s' | .again c'=>c'.quiet=true/\codeAny (model prog w) A c' R s') (fun e s'=>R (.error e) s') s:=by
 have hT:s.TypeIs (.ref z) "zip":=⟨_,hz,rfl⟩;obtain⟨ob1,g1,_⟩:=hs1.obj;obtain⟨ob2,g2,_⟩:=hs2.obj;unfold Builtin.List.listExtendWith;refine wpAny_bind (wpAny_typeOf hT ?_);have e1:Builtin.List.listSameRef (.ref S) (.ref z)=false:=by simp[Builtin.List.listSameRef,hzS.symm]
 have e2:(Value.type "zip" == Value.type "list")=false:=by decide
 have e3:(Value.type "zip" == Value.type "tuple")=false:=by decide
 simp only[e1,e2,e3,Bool.or_false,Bool.false_eq_true,if_false];refine wpAny_bind (wpAny_pyIter_zip hz ?_);refine wpAny_bind (wpAny_holding ?_);unfold Builtin.List.listLengthHint;refine wpAny_bind (wpAny_specialOf hT sS ?_);show wpAny _ A.in1 (specialOf (Value.ref z) (Str.ofString "__length_hint__") >>= _) _ _ _;refine wpAny_bind (wpAny_specialOf hT rg ?_);refine wpAny_pure ?_;show wpAny _ A.in1 (rule "list.extend.makes-room" >>= fun _=>Builtin.List.listTouch (.ref S) >>= fun _ =>
  again (.builtin "list.extend.loop" ⟨[.ref S,.ref z,res],[]⟩)) _ _ _
 refine wpAny_bind (wpAny_rule ?_);refine wpAny_bind ?_;show wpAny _ A.in1 (updateSeq S (·.push .none) >>= fun _=>updateSeq S (·.pop)) _ _ _
 refine wpAny_bind (wpAny_updateSeq hS rfl ?_);have hS₂:=Heap.get?_update_self (Obj.mapSeq (·.push Value.none)) hS rfl;refine wpAny_updateSeq (hz:=by seq_fits) hS₂ rfl ?_
 have hS₃:=Heap.get?_update_self (Obj.mapSeq (·.pop)) hS₂ rfl;have oth:∀ b o,b≠S->s.heap.get? b=some o ->((s.heap.update S (Obj.mapSeq (·.push Value.none))).update S (Obj.mapSeq (·.pop))).get? b=some o :=
  fun b o hb e=>(Heap.get?_update_other _ _ (Ne.symm hb)).trans ((Heap.get?_update_other _ _ (Ne.symm hb)).trans e)
 have hsz:((s.heap.update S (Obj.mapSeq (·.push Value.none))).update S (Obj.mapSeq (·.pop))).objs.size=s.heap.objs.size:=by
  rw[(Heap.SameBut.update (h:=s.heap.update S (Obj.mapSeq (·.push Value.none))) (a:=S) ..).1,(Heap.SameBut.update (h:=s.heap) (a:=S) ..).1]
 refine wpAny_pure ⟨plainId_quiet F.plain_extend_loop _,Ca (s:=s) (h₁:=s.heap) (t1:=t1) (t2:=t2) (xs:=xs) (ys:=ys) (n:=n) (lo:=s.heap.objs.size) hh D hzS uX qh h1S h2S uW uV (Heap.lt_size hS) (Heap.lt_size hz) (Heap.lt_size hTO) (Heap.lt_size g1) (Heap.lt_size g2) en hn res hR n 0 _ _ _ _ [] (by omega) (Nat.zero_le _)
  ⟨oth _ _ uX hTI,hs1.at fun o e=>oth _ o h1S e,hs2.at fun o e=>oth _ o h2S e,.inl ⟨oth _ _ hzS hz,ta,tb,oth _ _ qh hTO⟩⟩ (hL1.at fun o e=>oth _ o uW e) (hL2.at fun o e=>oth _ o uV e) (fun b o b1 _ _ _ _ e=>oth b o b1 e) hS₃ rfl rfl ⟨List.Pairwise.nil,fun _ z=>(nomatch z),fun j a hj=>by simp at hj⟩ (by rw[hsz];exact Nat.le_refl _)⟩
theorem Cb{R:Result->Shared->Prop}{TI TO:Addr}(hh:A.handled=none)(D:ZipApart z TI TO i1 i2 l1 l2)(hzS:z≠S)(uX:TI≠S)(qh:TO≠S)(h1S:i1≠S)(h2S:i2≠S)(uW:l1≠S)(uV:l2≠S)
  (hz:IsZip s.heap z TI TO .none) {ta tb:Value} (hTO:IsPair s.heap TO ta tb) (hTI:IsPair s.heap TI (.ref i1) (.ref i2)) (hs1:aB s.heap t1 i1 l1 0) (hs2:aB s.heap t2 i2 l2 0) (hL1:aN s.heap t1 l1 xs) (hL2:aN s.heap t2 l2 ys)
  (en:n=min xs.size ys.size) (hn:n<=sizeLine) (hS:s.heap.get? S=some { cls:=.type "list",data:=.seq #[] })
  (hR:∀ h' tk acc c as,(∀ b o,b≠S->b≠z->b≠TO->b≠i1->b≠i2->s.heap.get? b=some o->h'.get? b=some o)->h'.get? S=some { cls:=.type "list",dict:=none,data:=.seq acc c,slots:=#[] }->as.length=n->ZG xs ys s.heap.objs.size h' as ->
   acc.toList=as.map Value.ref->R (.ok (.ret .none)) { s with heap:=h',toks:=tk }) :
  wpAny (model prog w) A.in1 (Builtin.«list.__init__» ⟨[.ref S,.ref z],[]⟩)
   (fun fin s'=>match fin with | .done f=>R (.ok f) s' | .again c'=>c'.quiet=true/\codeAny (model prog w) A c' R s') (fun e s'=>R (.error e) s') s:=by
 show wpAny _ _ (do let old <- Builtin.List.listItems (.ref S);Builtin.List.listUpdate (.ref S) (fun _=>#[]);letGo old.toList.reverse;Builtin.List.listExtendWith (.ref S) (.ref z) .none) _ _ s
 refine wpAny_bind ?_;unfold Builtin.List.listItems;refine wpAny_bind (wpAny_seqItems hS rfl (wpAny_pure ?_));show wpAny _ _ (updateSeq S (fun _=>#[]) >>= fun _=>letGo (#[]:Array Value).toList.reverse >>= fun _=>Builtin.List.listExtendWith (.ref S) (.ref z) .none) _ _ s
 refine wpAny_bind (wpAny_updateSeq hS rfl ?_);have hS₂:=Heap.get?_update_self (Obj.mapSeq (fun _=>(#[]:Array Value))) hS rfl
 have oth:∀ b o,b≠S->s.heap.get? b=some o ->(s.heap.update S (Obj.mapSeq (fun _=>(#[]:Array Value)))).get? b=some o :=
  fun b o hb e=>(Heap.get?_update_other _ _ (Ne.symm hb)).trans e
 have hsz:(s.heap.update S (Obj.mapSeq (fun _=>(#[]:Array Value)))).objs.size=s.heap.objs.size:=(Heap.SameBut.update (h:=s.heap) (a:=S) ..).1
 refine wpAny_bind (wpAny_letGo ?_);refine xx (xs:=xs) (ys:=ys) (n:=n) hh D hzS uX qh h1S h2S uW uV (oth _ _ hzS hz) (oth _ _ qh hTO) (oth _ _ uX hTI) (hs1.at fun o e=>oth _ o h1S e) (hs2.at fun o e=>oth _ o h2S e) (hL1.at fun o e=>oth _ o uW e) (hL2.at fun o e=>oth _ o uV e) en hn .none _ hS₂ (fun h' tk acc c as hk hS' hl hG dG=>?_)
 dsimp only at hG;rw[hsz]at hG;exact hR h' tk acc c as (fun b o b1 b2 b3 b4 b5 e=>hk b o b1 b2 b3 b4 b5 (oth b o b1 e)) hS' hl hG dG
theorem Cc{E:Value->Shared->Prop}{Q:Value->Shared->Prop}{TI TO:Addr}(hh:A.handled=none)(D:ZipApart z TI TO i1 i2 l1 l2)
  (hz:IsZip s.heap z TI TO .none) {ta tb:Value} (hTO:IsPair s.heap TO ta tb) (hTI:IsPair s.heap TI (.ref i1) (.ref i2)) (hs1:aB s.heap t1 i1 l1 0) (hs2:aB s.heap t2 i2 l2 0) (hL1:aN s.heap t1 l1 xs) (hL2:aN s.heap t2 l2 ys)
  (en:n=min xs.size ys.size) (hn:n<=sizeLine)
  (hQ:∀ h' tk acc c as,(∀ b o,b≠z->b≠TO->b≠i1->b≠i2->s.heap.get? b=some o->h'.get? b=some o)->h'.get? s.heap.objs.size=some { cls:=.type "list",dict:=none,data:=.seq acc c,slots:=#[] }->as.length=n->ZG xs ys (s.heap.objs.size+1) h' as ->
   acc.toList=as.map Value.ref->Q (.ref s.heap.objs.size) { s with heap:=h',toks:=tk }) :
  wpAny (model prog w) A (call (.type "list") [.ref z]) Q E s:=by
 refine callType_codes (Q₁:=fun obj s₁=>obj = .ref s.heap.objs.size/\s₁ ={ s with heap:=s.heap.push { cls:=.type "list",data:=.seq #[] } }) PySem.F.called_list (PySem.F.typeCall_list_1 _) PySem.F.entry_list_init
  (code_list_new _ ⟨rfl,rfl⟩) fun obj s₁ h₁=>?_
 obtain⟨rfl,rfl⟩:=h₁;have hS:(s.heap.push { cls:=.type "list",data:=.seq #[] }).get? s.heap.objs.size=some { cls:=.type "list",data:=.seq #[] }:=Heap.get?_push_size _ rfl;obtain⟨ob1,g1,_⟩:=hs1.obj;obtain⟨ob2,g2,_⟩:=hs2.obj;obtain⟨ob3,g3⟩:=hL1.obj;obtain⟨ob4,g4⟩:=hL2.obj;have up:∀ b o,s.heap.get? b=some o ->(s.heap.push { cls:=.type "list",data:=.seq #[] }).get? b=some o:=fun b o e=>Heap.get?_push_of_some _ e
 refine⟨⟨_,hS,rfl⟩,PySem.F.args_list_init_2 _ _,Cb (A:=A.in1) (xs:=xs) (ys:=ys) (n:=n) hh D (Nat.ne_of_lt (Heap.lt_size hz)) (Nat.ne_of_lt (Heap.lt_size hTI)) (Nat.ne_of_lt (Heap.lt_size hTO)) (Nat.ne_of_lt (Heap.lt_size g1)) (Nat.ne_of_lt (Heap.lt_size g2)) (Nat.ne_of_lt (Heap.lt_size g3)) (Nat.ne_of_lt (Heap.lt_size g4))
  (up _ _ hz) (up _ _ hTO) (up _ _ hTI) (hs1.at fun o e=>up _ o e) (hs2.at fun o e=>up _ o e) (hL1.at fun o e=>up _ o e) (hL2.at fun o e=>up _ o e) en hn hS (fun h' tk acc c as hk hS' hl hG dG=>?_)⟩
 dsimp only at hG;rw[Heap.size_push]at hG;exact⟨rfl,hQ h' tk acc c as (fun b o b2 b3 b4 b5 e=>hk b o (Nat.ne_of_lt (Heap.lt_size e)) b2 b3 b4 b5 (up b o e)) hS' hl hG dG⟩
end
def kz(h:Heap)(m:Nat):Heap:={ h with objs:=h.objs.extract 0 m }
theorem gW{h:Heap}{m b:Nat}(hb:b<m):(kz h m).get? b=h.get? b:=by
 unfold kz Heap.get?;have e:(h.objs.extract 0 m)[b]? = h.objs[b]?:=by
  rw[Array.getElem?_extract];by_cases q:b<h.objs.size
  ·rw[if_pos (by have:b<m:=hb;omega),Nat.zero_add]
  ·rw[if_neg (by omega),Array.getElem?_eq_none (by omega)]
 simp only[e]
theorem mm{h:Heap}{m:Nat}(hm:m<=h.objs.size):(kz h m).objs.size=m:=by
 unfold kz;rw[Array.size_extract];omega
theorem Ex{h:Heap}{m:Nat}{b:Addr}{u:Obj}(hm:m<=h.objs.size)(e:(kz h m).get? b=some u):h.get? b=some u:=by
 have:=Heap.lt_size e
 rw[mm hm]at this;rw[<- gW this];exact e
def ie(H:Hp):List (Addr×HO)->Hp
 | []=>H
 | p::r=>ie (upd H p.1 p.2) r
theorem gF:∀{os:List (Addr×HO)}{H:Hp}{c:Addr},c ∉ os.map (·.1)->ie H os c=H c
 | [],_,_,_=>rfl
 | p::r,H,c,h=>by
  show ie (upd H p.1 p.2) r c=H c;rw[gF (fun z=>h (List.mem_cons_of_mem _ z)),aj fun z=>h (by rw[z];exact List.mem_cons_self)]
theorem eB:∀{os:List (Addr×HO)}{H:Hp}{p:Addr×HO},(os.map (·.1)).Nodup->p∈os->ie H os p.1=some p.2
 | q::r,H,p,hn,hp=>by
  have h':=List.nodup_cons.mp hn;show ie (upd H q.1 q.2) r p.1=some p.2;rcases List.mem_cons.mp hp with rfl|hp
  ·rw[gF h'.1,aw]
  ·exact eB h'.2 hp
theorem kS:∀ as:List Addr,Vals (as.map V.ref) (as.map Value.ref)
 | []=>.nil
 | a::r=>.cons rfl (kS r)
theorem Inv.uC{X:Cx}{gV:List (Addr×Obj)}{σ:St}{s:Shared}{h':Heap}:∀{os:List (Addr×HO)}{H:Hp}{m:Nat},Inv X gV σ H { s with heap:=kz h' m }->m<=h'.objs.size ->(os.map (·.1)).Pairwise (· < ·) ->(∀ p∈os,m<=p.1/\p.1<h'.objs.size) ->
  (∀ p∈os,∀(H2:Hp)(hh:Heap),hh.get? p.1=h'.get? p.1->aV X.prog X.w H2 hh p.1 p.2)->Inv X gV σ (ie H os) { s with heap:=h' }
 | [],H,m,I,hm,_,_,_=>I.kept (t':=s.toks) fun b u e=>Ex hm e
 | p::r,H,m,I,hm,hp,hb,ho=>by
  have hp':=List.pairwise_cons.mp hp;obtain⟨b1,b2⟩:=hb p List.mem_cons_self;have b2':p.1+1<=h'.objs.size:=b2;have I2:Inv X gV σ (upd H p.1 p.2) { s with heap:=kz h' (p.1+1) }:=by
   refine I.laid (t':=s.toks) (h':=kz h' (p.1+1)) (fun b u e=>?_) ?_ (ho p List.mem_cons_self _ _ (gW (Nat.lt_succ_self _)))
   ·have lt:=Heap.lt_size e;have lt:b<(kz h' m).objs.size:=lt;rw[mm hm]at lt;have lt2:b<p.1+1:=Nat.lt_of_lt_of_le lt (Nat.le_trans b1 (Nat.le_succ _));rw[gW lt2,<- gW lt];exact e
   ·show(kz h' m).objs.size<=p.1;rw[mm hm];exact b1
  show Inv X gV σ (ie (upd H p.1 p.2) r) _;exact Inv.uC (os:=r) (H:=upd H p.1 p.2) I2 b2' hp'.2 (fun q hq=>⟨hp'.1 q.1 (List.mem_map.mpr ⟨q,hq,rfl⟩),(hb q (List.mem_cons_of_mem _ hq)).2⟩) fun q hq=>ho q (List.mem_cons_of_mem _ hq)
def kZ(K:W.Frag)(tl:TA):TE:=fun σ H R=>tl σ H fun vs H1=>∃ l1 l2 xs ys,vs = [.ref l1,.ref l2]/\SqT K H1 l1 xs/\SqT K H1 l2 ys/\∀(H2:Hp)(L:Addr)(ps:List Addr),H1 L=none->ps.length=min xs.length ys.length->ps.Nodup ->(∀ p∈ps,H1 p=none/\p≠L) ->(∀ c,c ∉ ps->c≠L->H2 c=H1 c)->H2 L=some (.lst (ps.map V.ref)) ->(∀(j:Nat) p x y,ps[j]? = some p->xs[j]? = some x->ys[j]? = some y->H2 p=some (.tup [x,y]))->R (.ref L) H2
section
variable{a:Expr}{tl:TA}{pos p dF p2:Pos}
theorem uk(hg:Gl X "list")(hm:X.mg "list" = none)(hg2:Gl X "zip")(hm2:X.mg "zip" = none)(ha:PA X [a,b] tl)(hs:starEach [a,b] X.env = [(false,eval a X.env),(false,eval b X.env)])(hs2:starEach [b] X.env = [(false,eval b X.env)])
  (hs3:starEach [.Call (.Name "zip" p2) [a,b] [] dF] X.env =(false,eval (.Call (.Name "zip" p2) [a,b] [] dF) X.env)::starEach [] X.env) (hc:X.calm=true) :
  PE X (.Call (.Name "list" p) [.Call (.Name "zip" p2) [a,b] [] dF] [] pos) (kZ X.K tl):=by
 intro gV s σ H R I h;refine Call_ (dZ I hg hm (by kernel_rfl) (PyProof.Rows.callWith_type1 (T:="list") ?_ hs3 (by rfl)))
 rw[hs3];refine Calls.spliced_cons ?_;refine Call_ (dZ I hg2 hm2 (by kernel_rfl) (PyProof.Rows.callWith_type1 (T:="zip") (thn (ha dF gV s σ H _ I h) fun us s1 ⟨vs,H1,I1,r1,q1⟩=>?_) (by rw[hs,hs2]) (by rw[hs2];rfl)))
 obtain⟨l1,l2,xs,ys,e,q2,q3,q⟩:=q1;subst e;obtain⟨u1,u2,rfl,ru1,ru2⟩:=vals2 r1;cases ru1;cases ru2;obtain⟨D9,rv1,o1,z1⟩:=I1.la (tp:=true) q2;obtain⟨bu,rv2,o2,z2⟩:=I1.la (tp:=true) q3;obtain⟨ob1,e1⟩:=o1.obj;obtain⟨ob2,e2⟩:=o2.obj;have g1:l1<s1.heap.objs.size:=Heap.lt_size e1;have g2:l2<s1.heap.objs.size:=Heap.lt_size e2;refine jn o1 o2 fun h1 hz hTI hTO hi1 hi2 hk=>?_
 refine Calls.spliced_nil ?_;have nz:s1.heap.objs.size+4<h1.objs.size:=Heap.lt_size hz;have rl1:=rv1.length;have rl2:=rv2.length;refine Cc (t1:=true) (t2:=true) (xs:=D9.toArray) (ys:=bu.toArray) (n:=min xs.length ys.length) (I1.ok.hd hc) (j6 g1 g2) hz hTO hTI hi1 hi2 (o1.at fun o e=>hk _ o e) (o2.at fun o e=>hk _ o e) (by simp[rl1,rl2]) (by omega) fun h' tk acc c as hk' hS hl hG dG=>?_
 have fr:∀ b u,s1.heap.get? b=some u->h'.get? b=some u:=fun b u e=>by
  have lt:b<s1.heap.objs.size:=Heap.lt_size e;have ne:∀ m:Nat,s1.heap.objs.size<=m->b≠m:=fun m hm z=>absurd (z▸lt:m<s1.heap.objs.size) (by omega)
  exact hk' b u (ne _ (by omega)) (ne _ (by omega)) (ne _ (Nat.le_refl _)) (ne _ (by omega)) (hk b u e)
 have I2:Inv X gV σ H1 { s1 with heap:=kz h' s1.heap.objs.size,toks:=tk }:=I1.kept (t':=tk) fun b u e=>by rw[gW (Heap.lt_size e)];exact fr b u e
 have lS:h1.objs.size<h'.objs.size:=Heap.lt_size hS;have keys:(((h1.objs.size,HO.lst (as.map V.ref)) ::(as.zip (xs.zip ys)).map fun p=>(p.1,HO.tup [p.2.1,p.2.2])).map (·.1))=h1.objs.size::as:=by
  rw[List.map_cons,List.map_map]
  congr 1
  have:((fun x:Addr×HO=>x.1) ∘ fun p:Addr×V×V=>(p.1,HO.tup [p.2.1,p.2.2]))=Prod.fst:=rfl
  rw[this,List.map_fst_zip (by rw[List.length_zip];omega)]
 have pw:(h1.objs.size::as).Pairwise (· < ·):=List.pairwise_cons.mpr ⟨fun a ha=>hG.above a ha,hG.rise⟩
 have at':∀(j:Nat)(p:Addr×V×V),(as.zip (xs.zip ys))[j]? = some p->as[j]? = some p.1/\xs[j]? = some p.2.1/\ys[j]? = some p.2.2:=fun j p hp=>by
  have h1:=List.getElem?_zip_eq_some.mp hp;have h2:=List.getElem?_zip_eq_some.mp h1.2;exact⟨h1.1,h2.1,h2.2⟩
 have I3:=Inv.uC (X:=X) (s:={ s1 with toks:=tk }) (m:=s1.heap.objs.size) (h':=h') (os:=(h1.objs.size,HO.lst (as.map V.ref)) ::(as.zip (xs.zip ys)).map fun p=>(p.1,HO.tup [p.2.1,p.2.2])) I2 (by omega) (by rw[keys];exact pw) (fun p hp=>?_) (fun p hp H2 hh e=>?_)
 ·have nd:(h1.objs.size::as).Nodup:=pw.imp fun h=>Nat.ne_of_lt h
  have nd':=List.nodup_cons.mp nd;refine⟨.ref h1.objs.size,_,I3,rfl,q _ h1.objs.size as (I1.hok.fresh (by omega)) hl nd'.2 (fun p hp=>⟨I1.hok.fresh ?_,fun z=>nd'.1 (z▸hp)⟩) (fun c c1 c2=>?_) ?_ (fun j p x y hp hx hy=>?_)⟩
  ·have:=hG.above p hp
   exact Nat.le_trans (show s1.heap.objs.size<=h1.objs.size+1 by omega) this
  ·exact gF (by rw[keys];exact fun z=>(List.mem_cons.mp z).elim c2 c1)
  ·exact eB (p:=(h1.objs.size,HO.lst (as.map V.ref))) (by rw[keys];exact nd) List.mem_cons_self
  ·have hz:(as.zip (xs.zip ys))[j]? = some (p,x,y):=List.getElem?_zip_eq_some.mpr ⟨hp,List.getElem?_zip_eq_some.mpr ⟨hx,hy⟩⟩;exact eB (p:=(p,HO.tup [x,y])) (by rw[keys];exact nd) (List.mem_cons_of_mem _ (List.mem_map.mpr ⟨_,List.mem_of_getElem? hz,rfl⟩))
 ·have:p.1∈h1.objs.size::as:=by rw[<- keys];exact List.mem_map.mpr ⟨p,hp,rfl⟩
  rcases List.mem_cons.mp this with z|z
  ·rw[z];exact⟨by omega,lS⟩
  ·have ab:=hG.above p.1 z;exact⟨Nat.le_trans (show s1.heap.objs.size<=h1.objs.size+1 by omega) ab,hG.there z⟩
 ·rcases List.mem_cons.mp hp with rfl|hp
  ·refine⟨by rw[List.length_map];omega,acc.toList,c,by rw[dG];exact kS as,?_⟩
   rw[e];exact hS
  ·obtain⟨t,ht,rfl⟩:=List.mem_map.mp hp;obtain⟨j,hj⟩:=List.getElem?_of_mem ht;obtain⟨a1,a2,a3⟩:=at' j t hj;obtain⟨x,y,x1,y1,pr⟩:=hG.pairs j t.1 a1;obtain⟨u1,w1,r1⟩:=rv1.get a2;obtain⟨u2,w2,r2⟩:=rv2.get a3;rw[List.getElem?_toArray,w1]at x1;cases x1;rw[List.getElem?_toArray,w2]at y1;cases y1;have pr':hh.get? t.1=_:=e.trans pr;exact⟨by show 2<=sizeLine;decide,[x,y],.cons r1 (.cons r2 .nil),⟨⟨_,pr',rfl,_,rfl⟩,_,pr',rfl⟩⟩
end
section
variable{w:World}{s:Shared}
theorem yw{e:Addr}{i:Nat}{x old:Value}{Q:Option Value->Shared->Prop}
  (he:IsEnum s.heap e it i old) (hit:aB s.heap tp it l i) (hl:aN s.heap tp l items) (hx:items[i]? = some x) (hne:e≠it)
  (hQ:∀ h',IsEnumOut h' e it ((i:Int)+1) x s.heap.objs.size->aB h' tp it l (i+1)->h'.get? s.heap.objs.size=some { cls:=.type "tuple",data:=.seq #[.int i s.toks,x] }->h'.objs.size=s.heap.objs.size+1 ->
   (∀ b o,b≠e->b≠it->s.heap.get? b=some o->h'.get? b=some o)->Q (some (.ref s.heap.objs.size)) { s with heap:=h',toks:=s.toks+1 }):wpAny (model prog w) A (pyNext (.ref e)) Q E s:=by
 have hT:s.TypeIs (.ref e) "enumerate":=⟨_,he,rfl⟩;obtain⟨hp,g,d,tk,os⟩:=s;unfold pyNext;refine wpAny_bind (wpAny_attempt (wpAny_callSpecial?_slot (name:=Str.ofString "__next__") hT F.slot_enumerate_next (wpAny_call_entry F.slot_enumerate_next hT F.entry_enumerate_next ?_ (F.args_enumerate_next_1 _))));show wpAny _ _ (field (.ref e) 2 >>= _) _ _ _;refine wpAny_bind (wpAny_field he rfl (x:=.ref it) rfl ?_);refine wpAny_bind (next_item hit hl hx fun h1 Nr hs1=>?_)
 have he1:IsEnum h1 e it i old:=(hs1.2 e hne).trans he;show wpAny _ _ (field (.ref e) 3 >>= _) _ _ ⟨h1,g,d,tk,os⟩;refine wpAny_bind (wpAny_field he1 rfl (x:=rawInt i) rfl ?_);show wpAny _ _ (field (.ref e) 4 >>= _) _ _ ⟨h1,g,d,tk,os⟩;refine wpAny_bind (wpAny_field he1 rfl (x:=.none) rfl ?_);show wpAny _ _ (mkInt i >>= _) _ _ ⟨h1,g,d,tk,os⟩;refine wpAny_bind (wpAny_mkInt ?_);show wpAny _ _ (setField (.ref e) 3 (rawInt ((i:Int)+1)) >>= _) _ _ ⟨h1,g,d,tk+1,os⟩;refine wpAny_bind (wpAny_setField_rec he1 (by simp) fun h2 he2 hs2=>?_)
 replace hs2:Heap.SameBut e h1 h2:=hs2
 replace he2:IsEnum h2 e it ((i:Int)+1) old:=he2
 show wpAny _ _ (setField (.ref e) 4 .none >>= _) _ _ ⟨h2,g,d,tk+1,os⟩;refine wpAny_bind (wpAny_setField_rec he2 (by simp) fun h3 he3 hs3=>?_)
 replace hs3:Heap.SameBut e h2 h3:=hs3
 replace he3:IsEnum h3 e it ((i:Int)+1) old:=he3
 show wpAny _ _ (newTuple [.int i tk,x] >>= _) _ _ ⟨h3,g,d,tk+1,os⟩;refine wpAny_bind (wpAny_newTuple ?_);have he4:IsEnum (h3.push { cls:=.type "tuple",data:=.seq #[.int i tk,x] }) e it ((i:Int)+1) old:=Heap.get?_push_of_some _ he3;have hsz:h3.objs.size=hp.objs.size:=by rw[hs3.1,hs2.1,hs1.1]
 have hel:e<hp.objs.size:=Heap.lt_size he;have ht4:(h3.push { cls:=.type "tuple",data:=.seq #[.int i tk,x] }).get? hp.objs.size=some { cls:=.type "tuple",data:=.seq #[.int i tk,x] }:=by rw[<- hsz];exact Heap.get?_push_size _ rfl
 have hz4:(h3.push { cls:=.type "tuple",data:=.seq #[.int i tk,x] }).objs.size=hp.objs.size+1:=by rw[Heap.size_push,hsz]
 have hk4:∀ b o,b≠e->b≠it->hp.get? b=some o ->(h3.push { cls:=.type "tuple",data:=.seq #[.int i tk,x] }).get? b=some o:=fun b o hbe hbi hb=>Heap.get?_push_of_some _ (hs3.extBut b o hbe (hs2.extBut b o hbe (hs1.extBut b o hbi hb)))
 have KC:aB (h3.push { cls:=.type "tuple",data:=.seq #[.int i tk,x] }) tp it l (i+1):=Nr.at fun o eo=>Heap.get?_push_of_some _ (hs3.extBut _ o hne.symm (hs2.extBut _ o hne.symm eo))
 generalize h3.push { cls:=.type "tuple",data:=.seq #[.int i tk,x] }=h4 at he4 ht4 hz4 hk4 KC
 show wpAny _ _ (Builtin.SmallTypes.ownedTupleIsFree (.ref e) >>= _) _ _ ⟨h4,g,d,tk+1,os⟩;rw[hsz];refine wpAny_bind ?_;unfold Builtin.SmallTypes.ownedTupleIsFree;refine wpAny_bind (wpAny_field he4 rfl (x:=.none) rfl (wpAny_pure ?_));simp only[if_true];refine wpAny_bind (wpAny_rule ?_);refine wpAny_bind (wpAny_field he4 rfl (x:=old) rfl ?_);refine wpAny_bind (wpAny_setField_rec he4 (by simp) fun h5 he5 hs5=>?_)
 replace hs5:Heap.SameBut e h4 h5:=hs5
 replace he5:IsEnum h5 e it ((i:Int)+1) x:=he5
 show wpAny _ _ (Builtin.SmallTypes.ownedTupleHandOut (.ref e) (.ref hp.objs.size) >>= _) _ _ ⟨h5,g,d,tk+1,os⟩;refine wpAny_bind ?_;unfold Builtin.SmallTypes.ownedTupleHandOut;refine wpAny_bind (wpAny_setField_rec he5 (by simp) fun h6 he6 hs6=>?_)
 replace hs6:Heap.SameBut e h5 h6:=hs6
 replace he6:IsEnumOut h6 e it ((i:Int)+1) x hp.objs.size:=he6
 refine wpAny_setField_rec he6 (by simp) fun h7 he7 hs7=>?_
 replace hs7:Heap.SameBut e h6 h7:=hs7
 replace he7:IsEnumOut h7 e it ((i:Int)+1) x hp.objs.size:=he7
 have up:∀ c o,c≠e->h4.get? c=some o->h7.get? c=some o:=fun c o hc z=>hs7.extBut _ _ hc (hs6.extBut _ _ hc (hs5.extBut _ _ hc z))
 refine wpAny_bind (wpAny_letGo (wpAny_pure ⟨_,rfl,wpAny_pure (hQ h7 he7 (KC.at fun o eo=>up _ o hne.symm eo) (up _ _ (Nat.ne_of_gt hel) ht4) ?_ fun b o hbe hbi hb=>up b o hbe (hk4 b o hbe hbi hb))⟩))
 rw[hs7.1,hs6.1,hs5.1,hz4]
theorem Bj{e:Addr}{i:Nat}{old:Value}{Q:Option Value->Shared->Prop}(hh:A.handled=none)
  (he:IsEnum s.heap e it i old) (hit:aB s.heap tp it l i) (hl:aN s.heap tp l items) (hx:items[i]? = none) (hQ:∀ h',Heap.ExtBut it s.heap h'->Q none { s with heap:=h' }):wpAny (model prog w) A (pyNext (.ref e)) Q E s:=by
 have hT:s.TypeIs (.ref e) "enumerate":=⟨_,he,rfl⟩;unfold pyNext;refine wpAny_bind (wpAny_attempt (wpAny_callSpecial?_slot (name:=Str.ofString "__next__") hT F.slot_enumerate_next (wpAny_call_entry F.slot_enumerate_next hT F.entry_enumerate_next ?_ (F.args_enumerate_next_1 _))));show wpAny _ _ (field (.ref e) 2 >>= _) _ _ _;refine wpAny_bind (wpAny_field he rfl (x:=.ref it) rfl ?_);refine wpAny_bind (next_end hh hit hl hx fun h' x he' hx'=>?_)
 obtain⟨o,ho,hc⟩:=hx';refine wpAny_bind (wpAny_isInstance (T:="StopIteration") (b:=true) ⟨o,ho,hc⟩ isSubtype_stop ?_);exact wpAny_pure (hQ _ he')
abbrev eH1(tp:Bool)(h:Heap)(l:Addr):Heap:=h.push { cls:=.type (itc tp),data:=.fields #[.ref l,.int 0 0] }
abbrev eH2(tp:Bool)(h:Heap)(l:Addr):Heap:=(eH1 tp h l).push { cls:=.type "enumerate",data:=.fields #[.none,.bool false,.ref h.objs.size,rawInt 0,.none,.none] }
theorem lQ(tp:Bool)(l:Addr)(xs:Array Value) :
  Meets (Builtin.«enumerate.__new__» ⟨[.type "enumerate",.ref l],[]⟩) (fun _ R s=>aN s.heap tp l xs/\R (.ok (.ret (.ref (eH1 tp s.heap l).objs.size))) { s with heap:=eH2 tp s.heap l }) :=
 .of_wp fun prog w A R s h=>by
  obtain⟨hp,g,d,tk,os⟩:=s;obtain⟨hl,h⟩:=h;have Nl:=sub_enumerate;have hL:aN (Shared.heap ⟨hp,g,d,tk,os⟩) tp l xs:=hl
  wp_walk
  refine wpAny_stack_any fun st=>wpAny_pure ?_
  split
  ·rename_i c _ _ _ _ _
   cases(c==Value.type "enumerate")
   ·wp_walk using gj hL
    exact⟨_,rfl,h⟩
   ·wp_walk using gj hL
    exact⟨_,rfl,h⟩
  ·wp_walk using gj hL
   exact⟨_,rfl,h⟩
theorem m4(hl:aN s.heap tp l xs)
  (h:∀ h',IsEnum h' (s.heap.objs.size+1) s.heap.objs.size 0 .none->aB h' tp s.heap.objs.size l 0 ->(∀ b o,s.heap.get? b=some o->h'.get? b=some o)->Q (.ref (s.heap.objs.size+1)) { s with heap:=h' }) :
  wpAny (model prog w) A (call (.type "enumerate") [.ref l]) Q E s:=by
 refine callType_new F.called_enumerate (by decide) (F.typeCall_enumerate_1 _) (F.newCall_enumerate_1 _) (fun obj=>F.args_object_init_2 obj _) F.entry_enumerate_new (lQ tp l xs) ⟨hl,?_⟩
 have z1:(eH1 tp s.heap l).objs.size=s.heap.objs.size+1:=Heap.size_push ..;have g2:(eH2 tp s.heap l).get? (eH1 tp s.heap l).objs.size=some _:=Heap.get?_push_size _ rfl;have g1:(eH2 tp s.heap l).get? s.heap.objs.size=some _:=Heap.get?_push_of_some _ (Heap.get?_push_size _ rfl);show _/\_;rw[z1]at g2 ⊢;exact⟨⟨_,g2,rfl⟩,h _ g2 (fQ g1) fun c o x=>Heap.get?_push_of_some _ (Heap.get?_push_of_some _ x)⟩
end
def Ite(K:W.Frag)(tp:Bool)(l:Addr):It :=
 ⟨fun i H=>∃ xs x,SqB K tp H l xs/\xs[i]? = some x,
   fun i H v H'=>∃(p:Addr)(x:V),H p=none/\v = .ref p/\H'=upd H p (.tup [.int i,x])/\∀ xs,SqB K tp H l xs->xs[i]? = some x,
   fun i H=>∃ xs,SqB K tp H l xs/\xs.length<=i⟩
theorem xC{w:World}{K:W.Frag}{x1}{pos:Pos}(e it l:Addr)(hne:e≠it) :
  Turn P w K (.Tuple elts x1 pos) (Ite K tp l) [e,it] e (fun i h=>(∃ old,IsEnum h e it i old)/\aB h tp it l i) where
 mem:=by simp
 obj:=by
  rintro i h ⟨⟨old,h1⟩,h2⟩ c hc
  simp only[List.mem_cons,List.not_mem_nil,or_false]at hc;rcases hc with rfl|rfl
  ·exact⟨_,h1,fun v e=>by cases e⟩
  ·exact h2.obj
 keep:=by
  rintro i h h' ⟨⟨old,h1⟩,h2⟩ k
  exact⟨⟨old,k e (by simp) _ h1⟩,h2.at fun o z=>k it (by simp) o z⟩
 item:=by
  intro X hP hw hK hc i gV s σ H E I hf st hg;subst hP hw hK;obtain⟨⟨old,h1⟩,h2⟩:=st;obtain⟨xs,x,q1,e1⟩:=hg;obtain⟨its,rv,o1,z1⟩:=I.la q1;obtain⟨u1,hu1,ru1⟩:=rv.get e1;refine yw h1 h2 o1 (x:=u1) (by simpa using hu1) hne fun h' ho' hi' hT' Nk hk'=>⟨_,rfl,?_⟩
  refine wpAny_letOwnedTupleGo_enum ho' fun h'' Nv HI=>?_
  have hn:=I.hok.fresh (Nat.le_refl s.heap.objs.size);have le:e<s.heap.objs.size:=Heap.lt_size h1;obtain⟨oi,goi,_⟩:=h2.obj;have li:it<s.heap.objs.size:=Heap.lt_size goi;have Hr:∀ b ∈ [e,it],b≠s.heap.objs.size:=fun b hb=>by
   simp only[List.mem_cons,List.not_mem_nil,or_false]at hb;rcases hb with rfl|rfl
   ·exact Nat.ne_of_lt le
   ·exact Nat.ne_of_lt li
  have up:∀ c o,c≠e->h'.get? c=some o->h''.get? c=some o:=fun c o hc z=>HI.extBut _ _ hc z
  have I1:Inv X gV σ (upd H s.heap.objs.size (.tup [.int i,x])) { s with heap:=s.heap.push { cls:=.type "tuple",data:=.seq #[.int i s.toks,u1] },toks:=s.toks+1 } :=
   I.laid (t':=s.toks+1) (fun b u z=>Heap.get?_push_of_some _ z) (Nat.le_refl _) ⟨by show 2<=sizeLine;decide,[.int i s.toks,u1],.cons ⟨_,rfl⟩ (.cons ru1 .nil),⟨⟨_,Heap.get?_push_size _ rfl,rfl,_,rfl⟩,_,Heap.get?_push_size _ rfl,rfl⟩⟩
  have hf':∀ b ∈ [e,it],mJ X gV (upd H s.heap.objs.size (.tup [.int i,x])) b:=fun b hb=>by
   obtain⟨f0,r⟩:=hf b hb;exact⟨by rw[aj (Hr b hb)];exact f0,r⟩
  have I2:Inv X gV σ (upd H s.heap.objs.size (.tup [.int i,x])) { s with heap:=h'',toks:=s.toks+1 }:=by
   refine I1.kE (h':=h'') (t':=s.toks+1) (fun b o hb z=>?_) hf'
   simp only[List.mem_cons,List.not_mem_nil,or_false,not_or]at hb;obtain⟨b1,b2⟩:=hb;rcases Heap.get?_push_cases z with⟨rfl,rfl⟩|z'
   ·exact up _ _ b1 hT'
   ·exact up _ _ b1 (hk' b o b1 b2 z')
  refine⟨.ref s.heap.objs.size,upd H s.heap.objs.size (.tup [.int i,x]),I2,rfl,⟨_,x,hn,rfl,rfl,fun zs hz=>by rw[I.k9 hz q1];exact e1⟩,?_,fun b hb=>(hf' b hb).1⟩
  exact⟨⟨_,by simpa using Nv⟩,hi'.at fun o z=>up _ _ hne.symm z⟩
 done:=by
  intro X hP hw hK hc i gV s σ H E I hf st hg;subst hP hw hK;obtain⟨⟨old,h1⟩,h2⟩:=st;obtain⟨xs,q1,md⟩:=hg;obtain⟨its,rv,o1,z1⟩:=I.la q1;have g1:=rv.length;refine Bj (I.ok.hd hc) h1 h2 o1 (by simp;omega) fun h' k=>⟨rfl,I.kE (t':=s.toks) (fun b o hb z=>?_) hf⟩
  simp only[List.mem_cons,List.not_mem_nil,or_false,not_or]at hb;exact k b o hb.2 z
 self:=fun _ _ _ _ _ st h=>let⟨⟨_,z⟩,_⟩:=st;wpAny_pyIter_enum z h
def nH(K:W.Frag)(tp:Bool)(ta:TA):TI:=fun σ H R=>ta σ H fun vs H1=>∃ l,vs = [.ref l]/\(∃ xs,SqB K tp H1 l xs)/\R (Ite K tp l) H1
theorem Du{x1}{a:Expr}{ta:TA}{p pos:Pos}(hg:Gl X "enumerate")(hm:X.mg "enumerate" = none)(dC:bootBuiltins "enumerate" = some (.type "enumerate"))(ha:PA X [a] ta)(hs:starEach [a] X.env = [(false,eval a X.env)]:=by rfl) :
  PI X (.Tuple elts x1 pos') (.Call (.Name "enumerate" p) [a] [] pos) (nH X.K tp ta):=by
 intro gV s σ H R I h;refine Call_ (dZ I hg hm dC (PyProof.Rows.callWith_type1 (thn (ha pos gV s σ H _ I h) fun us s1 ⟨vs,H1,I1,r1,q1⟩=>?_) hs rfl))
 obtain⟨l,e,⟨xs,q2⟩,q⟩:=q1;subst e;obtain⟨u1,rfl,ru1⟩:=vals1 r1;cases ru1;obtain⟨its,rv,o1,z1⟩:=I1.la q2;refine m4 o1 fun h' he hi hk=>wpAny_pyIter_enum he ?_
 refine⟨_,[s1.heap.objs.size+1,s1.heap.objs.size],_,_,H1,rfl,I1.kept (t':=s1.toks) hk,xC _ _ l (fun z=>absurd (show @Eq Nat _ _ from z) (by omega)),⟨⟨_,he⟩,hi⟩,fun c hc=>?_,q⟩
 have hc':s1.heap.objs.size<=c:=by
  simp only[List.mem_cons,List.not_mem_nil,or_false]at hc;rcases hc with rfl|rfl <;> first|exact Nat.le_add_right _ _|exact Nat.le_refl _
 exact I1.Be hc' (I1.hok.fresh hc')
end L2
namespace PySem
open Sem (wp)
end PySem
namespace L2
open PySem PySem.Spec PyProof.Rows
variable{kvs:List (Key×V)}
section
variable{X:Cx}{gV:List (Addr×Obj)}{σ:St}{H:Hp}{s:Shared}{a:Addr}{u u':HO}
theorem Inv.vQ(I:Inv X gV σ H s)(ha:H a=some u)(h1:∀ xs,u ≠ .tup xs)(h2:∀ c,u ≠ .own c)(h3:∀ ps,u ≠ .tbl ps)(hz:∀ o v,X.H₀ a≠some (.frz o v))(new:aV X.prog X.w (upd H a u') s.heap a u'):Inv X gV σ (upd H a u') s:=by
 have ne:∀{b:Addr},H b=none->b≠a:=fun{b} e z=>by rw[z,ha]at e;cases e
 refine⟨I.ok,I.os,I.bare,⟨I.base.keep,I.base.slot,fun b o e n hx=>?_,I.base.there,fun b xs e=>?_,fun b o v e=>?_,fun b ps e=>?_⟩,I.loc,I.cell,?_,fun x c e=>?_,fun p hp=>?_,fun b o e=>?_,I.len⟩
 ·have:=I.base.free b o e n hx
  rw[aj (ne this)];exact this
 ·have:=I.base.kX b xs e
  rw[aj fun z=>by rw[z,ha]at this;exact h1 xs (Option.some.inj this)]
  exact this
 ·have:=I.base.iE b o v e
  rw[aj fun z=>by rw[z]at e;exact hz o v e]
  exact this
 ·obtain⟨more,this⟩:=I.base.kY b ps e;refine⟨more,?_⟩;rw[aj fun z=>by rw[z,ha]at this;exact h3 _ (Option.some.inj this)]
  exact this
 ·rw[aj (ne I.free)];exact I.free
 ·rw[aj (ne (I.dD x c e))];exact I.dD x c e
 ·obtain⟨p1,p2,p3⟩:=I.pin p hp;exact⟨p1,by rw[aj (ne p2)];exact p2,p3⟩
 ·by_cases hb:b=a
  ·subst hb;rw[aw]at e;cases e;exact new
  ·rw[aj hb]at e;refine(I.hok b o e).cD (fun _ _ _ q=>q) (fun c q=>?_) fun c xs q=>?_
   ·rw[aj fun z=>by rw[z,ha]at q;exact h2 _ (Option.some.inj q)];exact q
   ·rw[aj fun z=>by rw[z,ha]at q;exact h1 _ (Option.some.inj q)];exact q
theorem Inv.freeze(I:Inv X gV σ H s)(ha:H a=some (.dK kvs)):(∀ o v,X.H₀ a≠some (.frz o v))/\∃ o,Inv X gV σ (upd H a (.frz o (.dK kvs))) s:=by
 have hz:∀ o v,X.H₀ a≠some (.frz o v):=fun o v e=>by
  have:=I.base.iE a o v e
  rw[ha]at this;cases this
 obtain⟨z,hs,vs,r,o,es,ep,e,c⟩:=(show aV X.prog X.w H s.heap a (.dK kvs)from I.hok a _ ha);exact⟨hz,o,I.vQ ha (fun _ z=>nomatch z) (fun _ z=>nomatch z) (fun _ z=>nomatch z) hz ⟨e,z,hs,vs,r,o,es,ep,e,c⟩⟩
end
variable{P:Program}
theorem Hx{w:World}{k:Key}{v:Value}(h:(aY P w).is k v=true):RelV (kV k) v:=by
 rcases bp (k:=k) (v:=v) h with⟨i,t,rfl,rfl⟩ |⟨x,t,rfl,rfl⟩
 ·exact⟨t,rfl⟩
 ·exact⟨t,rfl⟩
end L2
namespace PySem
open Sem (wp)
end PySem
namespace PySem
open Sem (wp)
open Builtin Builtin.ObjectAttr
section
variable{M:Model}{prog:Program}{w:World}{A:Around}{E:Value->Shared->Prop}{h:Heap}{g:Array GenState}{d:Drawn}{t:Nat}{os:OsState}
variable{nm q:Str}{C N x:Addr}{bs bm bmB:List Value}{sn:List Str}{sub:List Value}{ab HM:Bool}{col:Option Bool}{dd:Option Addr}{k0 k1 k2 k3 k5:Option Value}{B newId sa owner:String}
 {mN mA:Str->Option Value} {name:Str} {v:Value} {S:List Str}
end
end PySem
namespace PySem
open Sem (wp)
open Builtin Builtin.ObjectAttr
section
variable{prog:Program}{w:World}{A:Around}{E:Value->Shared->Prop}{h:Heap}{g:Array GenState}{d:Drawn}{t:Nat}{os:OsState}
variable{nm q:Str}{C N x:Addr}{bs bm bmB:List Value}{sn:List Str}{sub:List Value}{ab HM:Bool}{col:Option Bool}{dd:Option Addr}{k0 k1 k2 k3 k5:Option Value}{B newId:String}
 {mN mA:Str->Option Value} {name:Str} {v:Value} {S:List Str} {o:Obj}
end
end PySem
namespace PySem
open Sem (wp)
def Ip(h:Heap)(e:Addr)(cls:Value)(dx:Option Addr)(y:Value):Prop :=
 ∃ o vs a0,h.get? e=some o/\o.cls=cls/\o.dict=dx/\o.data = .fields vs/\vs[0]? = some a0/\vs[1]? = some y
end PySem
namespace L2
open PySem PySem.Spec PyProof.Rows
theorem any_some{α:Type}{o:Option α}{f:α->Bool}(h:o.any f=true):∃ a,o=some a/\f a=true:=by
 cases o with
 | none=>cases h
 | some a=>exact⟨a,rfl,h⟩
def XAt(a C:Addr)(dx:Option Addr)(b:Bool)(h:Heap):Prop:=∃ y,Ip h a (.ref C) dx y/\(b=true->y = .none)
def XD(dx:Addr)(fs:List (Str×V))(h:Heap):Prop:=∃ mA,h.Ns1 dx mA/\(∀ f,iQ (fs.lookup f) (mA f))/\PySem.Within mA (fs.map (·.1))
def ExH(H:Hp)(a C:Addr)(b:Bool)(fs:List (Str×V)):Prop:=(fs = []/\H a=some (.ext (XAt a C none b)))\/∃ dx,dx≠a/\H a=some (.ext (XAt a C (some dx) b))/\H dx=some (.ext (XD dx fs))
section
variable{P:Program}{w:World}{H H':Hp}{h h':Heap}{a C d:Addr}{dx:Option Addr}{b:Bool}{fs:List (Str×V)}
theorem XD.ok(x:XD d fs h):aV P w H h d (.ext (XD d fs)):=by
 refine⟨x,?_,fun h1 h2 ⟨mA,⟨o,es,ep,e,r⟩,z⟩ k=>⟨mA,⟨o,es,ep,k o e,r⟩,z⟩⟩
 obtain⟨mA,⟨o,es,ep,e,r⟩,z⟩:=x;exact⟨o,e⟩
end
end L2
namespace PySem
open Sem (wp)
end PySem
namespace L2
open PySem PySem.Spec PyProof.Rows
theorem len0{P:List Value->Prop}(h:P [])(us:List Value)(e:us.length=0):P us:=by rw[List.length_eq_zero_iff.mp e];exact h
theorem Kl{P:List Value->Prop}(h:∀ a,P [a])(us:List Value)(e:us.length=1):P us:=by
 cases us with
 | nil=>cases e
 | cons a r=>exact len0 (P:=fun r=>P (a::r)) (h a) r (Nat.succ.inj e)
theorem Kk{P:List Value->Prop}(h:∀ a b,P [a,b])(us:List Value)(e:us.length=2):P us:=by
 cases us with
 | nil=>cases e
 | cons a r=>exact Kl (P:=fun r=>P (a::r)) (h a) r (Nat.succ.inj e)
theorem Kj{P:List Value->Prop}(h:∀ a b c,P [a,b,c])(us:List Value)(e:us.length=3):P us:=by
 cases us with
 | nil=>cases e
 | cons a r=>exact Kk (P:=fun r=>P (a::r)) (h a) r (Nat.succ.inj e)
theorem Ki{P:List Value->Prop}(h:∀ a b c d,P [a,b,c,d])(us:List Value)(e:us.length=4):P us:=by
 cases us with
 | nil=>cases e
 | cons a r=>exact Kj (P:=fun r=>P (a::r)) (h a) r (Nat.succ.inj e)
theorem M9{P:List Value->Prop}(h:∀ a b c d e,P [a,b,c,d,e])(us:List Value)(e:us.length=5):P us:=by
 cases us with
 | nil=>cases e
 | cons a r=>exact Ki (P:=fun r=>P (a::r)) (h a) r (Nat.succ.inj e)
inductive T where
 | n|b (x:Bool)|i (x:Int)|s (x:Str)|t (xs:List T)|l (xs:List T)|d (ks:List (Key×T))|cN|z (ns:List Int)|ty (x:String)|k (ws:List Str)|q|fd (o:Obj) (vs:List (Key×V)) (ks:List (Key×T))|xc (C:Addr) (ns:List Str) (ts:List T)|rm (u:Int)|ob (C:Addr) (ns:List Str) (ts:List T)|dp (a:Addr) (ks:List (Key×T))|lp (a:Addr) (xs:List T)|zl (xs:List T)
abbrev Dl:=List (Addr×Addr)
def FzL(K:W.Frag)(H:Hp)(a:Addr)(xs:List V):Prop:=(∃ o,H a=some (.frz o (.lst xs))) \/
  ∃(o:Obj)(its:Array Value)(n:Nat),K.lookup a=some o/\o.cls = .type "list" /\ o.dict=none/\o.data = .seq its n/\its.size<=sizeLine/\Vals xs its.toList
variable{H:Hp}{a:Addr}
theorem FzL.sq{K:W.Frag}{xs:List V}(h:FzL K H a xs):SqL K H a xs:=by
 rcases h with h|h
 ·exact .inl (.inr h)
 ·exact .inr h
def m5(a C dx:Addr)(h:Heap):Prop:=h.get? a=some (W.instObj C dx)
def ObH(H:Hp)(a C:Addr)(fs:List (Str×V)):Prop:=∃ dx,dx≠a/\H a=some (.ext (m5 a C dx))/\H dx=some (.ext (XD dx fs))
mutual
inductive az(K:W.Frag)(dl:Dl)(H:Hp):V->T->List Addr->Prop where
 | n:az K dl H .non .n []
 | b(x:Bool):az K dl H (.bl x) (.b x) []
 | i(x:Int):az K dl H (.int x) (.i x) []
 | s(x:Str):az K dl H (.str x) (.s x) []
 | ty(x:String):az K dl H (.ty x) (.ty x) []
 | t{a:Addr}{vs:List V}{ts:List T}{F:List Addr}:H a=some (.tup vs)->au K dl H vs ts F->az K dl H (.ref a) (.t ts) F
 | l{a:Addr}{vs:List V}{ts:List T}{F:List Addr}:H a=some (.lst vs)->au K dl H vs ts F->az K dl H (.ref a) (.l ts) (a::F)
 | d{a:Addr}{vs:List (Key×V)}{ts:List (Key×T)}{F:List Addr}:H a=some (.dK vs)->aL K dl H vs ts F->az K dl H (.ref a) (.d ts) (a::F)
 | x{a l:Addr}:(a,l)∈dl->az K dl H (.ref a) .cN []
 | z{a:Addr}{ns:List Int}:FzL K H a (ns.map V.int)->az K dl H (.ref a) (.z ns) []
 | q{a:Addr}{xs:List V}:H a=some (.lst xs)->az K dl H (.ref a) .q []
 | fd{a:Addr}{o:Obj}{vs:List (Key×V)}{ts:List (Key×T)}:H a=some (.frz o (.dK vs))->aL K dl H vs ts []->az K dl H (.ref a) (.fd o vs ts) []
 | k{a:Addr}{ws:List Str}:(∀ H':Hp,SqT K H' a (ws.map V.str))->az K dl H (.ref a) (.k ws) []
 | e{a C:Addr}{b:Bool}{ns:List Str}{vs:List V}{ts:List T}:ExH H a C b (ns.zip vs)->au K dl H vs ts []->az K dl H (.ref a) (.xc C ns ts) []
 | rm{a:Addr}{x u:Int}:H a=some (.room x)->x<=u->az K dl H (.ref a) (.rm u) []
 | ob{a C:Addr}{ns:List Str}{vs:List V}{ts:List T}:ObH H a C (ns.zip vs)->au K dl H vs ts []->az K dl H (.ref a) (.ob C ns ts) []
 | dp{a:Addr}{vs:List (Key×V)}{ts:List (Key×T)}{F:List Addr}:H a=some (.dK vs)->aL K dl H vs ts F->az K dl H (.ref a) (.dp a ts) (a::F)
 | lp{a:Addr}{vs:List V}{ts:List T}{F:List Addr}:H a=some (.lst vs)->au K dl H vs ts F->az K dl H (.ref a) (.lp a ts) (a::F)
 | zl{a:Addr}{o:Obj}{vs:List V}{ts:List T}:H a=some (.frz o (.lst vs))->au K dl H vs ts []->az K dl H (.ref a) (.zl ts) []
inductive au(K:W.Frag)(dl:Dl)(H:Hp):List V->List T->List Addr->Prop where
 | nil:au K dl H [] [] []
 | cons{v:V}{x:T}{vs:List V}{ts:List T}{F G:List Addr}:az K dl H v x F->au K dl H vs ts G->au K dl H (v::vs) (x::ts) (F++G)
inductive aL(K:W.Frag)(dl:Dl)(H:Hp):List (Key×V)->List (Key×T)->List Addr->Prop where
 | nil:aL K dl H [] [] []
 | cons{k:Key}{v:V}{x:T}{vs:List (Key×V)}{ts:List (Key×T)}{F G:List Addr}:az K dl H v x F->aL K dl H vs ts G->aL K dl H ((k,v)::vs) ((k,x)::ts) (F++G)
end
structure TF(H H':Hp):Prop where
 t:∀ a vs,H a=some (.tup vs)->H' a=some (.tup vs)
 f:∀ a o u,H a=some (.frz o u)->H' a=some (.frz o u)
 x:∀ a φ,H a=some (.ext φ)->H' a=some (.ext φ)
 q:∀ a xs,H a=some (.lst xs)->∃ ys,H' a=some (.lst ys)
 r:∀ a x,H a=some (.room x)->∃ y,y<=x/\H' a=some (.room y)
variable{H':Hp}{C:Addr}
theorem ObH.tf{fs:List (Str×V)}(h:ObH H a C fs)(k:TF H H'):ObH H' a C fs:=by
 obtain⟨d,h1,h2,h3⟩:=h;exact⟨d,h1,k.x _ _ h2,k.x _ _ h3⟩
theorem ExH.tf{b:Bool}{fs:List (Str×V)}(h:ExH H a C b fs)(k:TF H H'):ExH H' a C b fs:=by
 rcases h with⟨h1,h2⟩ |⟨d,h1,h2,h3⟩
 ·exact .inl ⟨h1,k.x _ _ h2⟩
 ·exact .inr ⟨d,h1,k.x _ _ h2,k.x _ _ h3⟩
theorem FzL.tf{K:W.Frag}{vs:List V}(h:FzL K H a vs)(k:TF H H'):FzL K H' a vs:=by
 rcases h with⟨o,h⟩|h
 ·exact .inl ⟨o,k.f _ _ _ h⟩
 ·exact .inr h
theorem bJ{α:Type}{p:α->Prop}:∀ b∈([]:List α),p b:=fun _ h=>absurd h List.not_mem_nil
variable{dl:Dl}{dl':Dl}{F:List Addr}
theorem az.cD{K:W.Frag}(k:TF H H')(hd:∀ p∈dl,p∈dl'){v:V}{t:T}(h:az K dl H v t F):(∀ b∈F,∀ o,H b=some o->H' b=some o)->az K dl' H' v t F :=
 az.rec (motive_1:=fun v t F _=>(∀ b∈F,∀ o,H b=some o->H' b=some o)->az K dl' H' v t F) (motive_2:=fun v t F _=>(∀ b∈F,∀ o,H b=some o->H' b=some o)->au K dl' H' v t F) (motive_3:=fun v t F _=>(∀ b∈F,∀ o,H b=some o->H' b=some o)->aL K dl' H' v t F)
  (fun _=>.n) (fun x _=>.b x) (fun x _=>.i x) (fun x _=>.s x) (fun x _=>.ty x) (fun h _ ih q=>.t (k.t _ _ h) (ih q))
  (fun h _ ih q=>.l (q _ List.mem_cons_self _ h) (ih fun b hb=>q b (List.mem_cons_of_mem _ hb))) (fun h _ ih q=>.d (q _ List.mem_cons_self _ h) (ih fun b hb=>q b (List.mem_cons_of_mem _ hb)))
  (fun h _=>.x (hd _ h)) (fun h _=>.z (h.tf k)) (fun h _=>Exists.elim (k.q _ _ h) fun _ e=>.q e) (fun h _ ih _=>.fd (k.f _ _ _ h) (ih bJ)) (fun h _=>.k h) (fun h _ ih _=>.e (h.tf k) (ih bJ))
  (fun h hx _=>Exists.elim (k.r _ _ h) fun _ e=>.rm e.2 (Int.le_trans e.1 hx)) (fun h _ ih _=>.ob (h.tf k) (ih bJ)) (fun h _ ih q=>.dp (q _ List.mem_cons_self _ h) (ih fun b hb=>q b (List.mem_cons_of_mem _ hb))) (fun h _ ih q=>.lp (q _ List.mem_cons_self _ h) (ih fun b hb=>q b (List.mem_cons_of_mem _ hb))) (fun h _ ih _=>.zl (k.f _ _ _ h) (ih bJ))
  (fun _=>.nil) (fun _ _ i1 i2 q=>.cons (i1 fun b hb=>q b (List.mem_append_left _ hb)) (i2 fun b hb=>q b (List.mem_append_right _ hb)))
  (fun _=>.nil) (fun _ _ i1 i2 q=>.cons (i1 fun b hb=>q b (List.mem_append_left _ hb)) (i2 fun b hb=>q b (List.mem_append_right _ hb))) h
theorem au.ind{K:W.Frag}{M:List V->List T->List Addr->Prop}(nil:M [] [] [])(cons:∀ v x vs ts F G,az K dl H v x F->au K dl H vs ts G->M vs ts G->M (v::vs) (x::ts) (F++G)){vs:List V}{ts:List T}(h:au K dl H vs ts F):M vs ts F :=
 au.rec (motive_1:=fun _ _ _ _=>True) (motive_2:=fun v t F _=>M v t F) (motive_3:=fun _ _ _ _=>True) trivial (fun _=>trivial) (fun _=>trivial) (fun _=>trivial) (fun _=>trivial) (fun _ _ _=>trivial) (fun _ _ _=>trivial) (fun _ _ _=>trivial)
  (fun _=>trivial) (fun _=>trivial) (fun _=>trivial) (fun _ _ _=>trivial) (fun _=>trivial) (fun _ _ _=>trivial) (fun _ _=>trivial) (fun _ _ _=>trivial) (fun _ _ _=>trivial) (fun _ _ _=>trivial) (fun _ _ _=>trivial) nil (fun h r _ ih=>cons _ _ _ _ _ _ h r ih) trivial (fun _ _ _ _=>trivial) h
theorem aL.ind{K:W.Frag}{M:List (Key×V)->List (Key×T)->List Addr->Prop}(nil:M [] [] [])(cons:∀ k v x vs ts F G,az K dl H v x F->aL K dl H vs ts G->M vs ts G->M ((k,v)::vs) ((k,x)::ts) (F++G)){vs:List (Key×V)}{ts:List (Key×T)}(h:aL K dl H vs ts F):M vs ts F :=
 aL.rec (motive_1:=fun _ _ _ _=>True) (motive_2:=fun _ _ _ _=>True) (motive_3:=fun v t F _=>M v t F) trivial (fun _=>trivial) (fun _=>trivial) (fun _=>trivial) (fun _=>trivial) (fun _ _ _=>trivial) (fun _ _ _=>trivial) (fun _ _ _=>trivial)
  (fun _=>trivial) (fun _=>trivial) (fun _=>trivial) (fun _ _ _=>trivial) (fun _=>trivial) (fun _ _ _=>trivial) (fun _ _=>trivial) (fun _ _ _=>trivial) (fun _ _ _=>trivial) (fun _ _ _=>trivial) (fun _ _ _=>trivial) trivial (fun _ _ _ _=>trivial) nil (fun h r _ ih=>cons _ _ _ _ _ _ _ h r ih) h
theorem au.cD{K:W.Frag}{dl dl':Dl}{H H':Hp}(k:TF H H')(hd:∀ p∈dl,p∈dl'){vs:List V}{ts:List T}{F:List Addr}(h:au K dl H vs ts F):(∀ b∈F,∀ o,H b=some o->H' b=some o)->au K dl' H' vs ts F :=
 h.ind (M:=fun vs ts F=>(∀ b∈F,∀ o,H b=some o->H' b=some o)->au K dl' H' vs ts F) (fun _=>.nil) (fun _ _ _ _ _ _ h _ ih q=>.cons (h.cD k hd fun b hb=>q b (List.mem_append_left _ hb)) (ih fun b hb=>q b (List.mem_append_right _ hb)))
theorem aL.cD{K:W.Frag}{dl dl':Dl}{H H':Hp}(k:TF H H')(hd:∀ p∈dl,p∈dl'){vs:List (Key×V)}{ts:List (Key×T)}{F:List Addr}(h:aL K dl H vs ts F):(∀ b∈F,∀ o,H b=some o->H' b=some o)->aL K dl' H' vs ts F :=
 h.ind (M:=fun vs ts F=>(∀ b∈F,∀ o,H b=some o->H' b=some o)->aL K dl' H' vs ts F) (fun _=>.nil) (fun _ _ _ _ _ _ _ h _ ih q=>.cons (h.cD k hd fun b hb=>q b (List.mem_append_left _ hb)) (ih fun b hb=>q b (List.mem_append_right _ hb)))
variable{G:List Addr}
theorem jx(h:∀ b∈F,(∃ xs,H b=some (.lst xs))\/∃ ks,H b=some (.dK ks))(r:∀ b∈G,(∃ xs,H b=some (.lst xs))\/∃ ks,H b=some (.dK ks)):∀ b∈F++G,(∃ xs,H b=some (.lst xs))\/∃ ks,H b=some (.dK ks):=fun b hb=>(List.mem_append.mp hb).elim (h b) (r b)
theorem az.there{K:W.Frag}{v:V}{t:T}(h:az K dl H v t F):∀ b∈F,(∃ xs,H b=some (.lst xs))\/∃ ks,H b=some (.dK ks) :=
 az.rec (motive_1:=fun _ _ F _=>∀ b∈F,(∃ xs,H b=some (.lst xs))\/∃ ks,H b=some (.dK ks)) (motive_2:=fun _ _ F _=>∀ b∈F,(∃ xs,H b=some (.lst xs))\/∃ ks,H b=some (.dK ks)) (motive_3:=fun _ _ F _=>∀ b∈F,(∃ xs,H b=some (.lst xs))\/∃ ks,H b=some (.dK ks))
  bJ (fun _=>bJ) (fun _=>bJ) (fun _=>bJ) (fun _=>bJ) (fun _ _ ih=>ih)
  (fun h _ ih b hb=>(List.mem_cons.mp hb).elim (fun e=>by rw[e];exact .inl ⟨_,h⟩) (ih b)) (fun h _ ih b hb=>(List.mem_cons.mp hb).elim (fun e=>by rw[e];exact .inr ⟨_,h⟩) (ih b))
  (fun _=>bJ) (fun _=>bJ) (fun _=>bJ) (fun _ _ _=>bJ) (fun _=>bJ) (fun _ _ _=>bJ)
  (fun _ _=>bJ) (fun _ _ _=>bJ) (fun h _ ih b hb=>(List.mem_cons.mp hb).elim (fun e=>by rw[e];exact .inr ⟨_,h⟩) (ih b)) (fun h _ ih b hb=>(List.mem_cons.mp hb).elim (fun e=>by rw[e];exact .inl ⟨_,h⟩) (ih b)) (fun _ _ _=>bJ)
  bJ (fun _ _ i1 i2=>jx i1 i2) bJ (fun _ _ i1 i2=>jx i1 i2) h
theorem au.there{K:W.Frag}{dl:Dl}{H:Hp}{vs:List V}{ts:List T}{F:List Addr}(h:au K dl H vs ts F):∀ b∈F,(∃ xs,H b=some (.lst xs))\/∃ ks,H b=some (.dK ks):=h.ind (M:=fun _ _ F=>∀ b∈F,(∃ xs,H b=some (.lst xs))\/∃ ks,H b=some (.dK ks)) bJ (fun _ _ _ _ _ _ h _ ih=>jx h.there ih)
def Nd(dl:Dl)(b:Addr):Prop:=∀ p∈dl,b≠p.1/\b≠p.2
def Dls(dl:Dl)(H:Hp):Prop:=∀ p∈dl,jv H p.1 p.2
theorem Dls.nd(D:Dls dl H){b:Addr}{o:HO}(h:H b=some o)(h1:∀ xs,o ≠ .lst xs)(h2:∀ ks,o ≠ .dK ks):Nd dl b:=fun p hp=>by
 obtain⟨s,n,ls,Q⟩:=D p hp;exact⟨f9 h Q.hd (h2 _),f9 h Q.hl (h1 _)⟩
theorem Dls.nd0(D:Dls dl H){b:Addr}(h:H b=none):Nd dl b:=fun p hp=>by
 obtain⟨s,n,ls,Q⟩:=D p hp;exact⟨(aP Q.hd h).symm,(aP Q.hl h).symm⟩
def NR(o:HO):Prop:=∀ x,o ≠ .room x
structure Evo(dl:Dl)(H H':Hp):Prop where
 k:∀ b o,H b=some o->Nd dl b->NR o->H' b=some o
 d:Dls dl H'
 r:∀ a x,H a=some (.room x)->∃ y,y<=x/\H' a=some (.room y)
theorem NR.of{b:Addr}{o:HO}(h:(∃ xs,H b=some (.lst xs))\/∃ ks,H b=some (.dK ks))(e:H b=some o):NR o:=fun x z=>by
 rcases h with⟨_,h⟩ |⟨_,h⟩
 ·rw[e,z]at h;cases h
 ·rw[e,z]at h;cases h
theorem Evo.refl(D:Dls dl H):Evo dl H H:=⟨fun _ _ h _ _=>h,D,fun _ x h=>⟨x,Int.le_refl _,h⟩⟩
variable{H1:Hp}{H2:Hp}
theorem Evo.trans(a:Evo dl H H1)(b:Evo dl H1 H2):Evo dl H H2:=⟨fun c o h n r=>b.k c o (a.k c o h n r) n r,b.d,fun c x h=>let⟨y,hy,e⟩:=a.r c x h;let⟨z,hz,e'⟩:=b.r c y e;⟨z,Int.le_trans hz hy,e'⟩⟩
theorem Evo.tf(e:Evo dl H H')(D:Dls dl H):TF H H' :=
 ⟨fun a vs h=>e.k a _ h (D.nd h (fun _ z=>nomatch z) fun _ z=>nomatch z) (fun _ z=>nomatch z),fun a o u h=>e.k a _ h (D.nd h (fun _ z=>nomatch z) fun _ z=>nomatch z) (fun _ z=>nomatch z),fun a φ h=>e.k a _ h (D.nd h (fun _ z=>nomatch z) fun _ z=>nomatch z) (fun _ z=>nomatch z),fun a xs h=>(by
  by_cases hn:Nd dl a
  ·exact⟨xs,e.k a _ h hn (fun _ z=>nomatch z)⟩
  ·unfold Nd at hn;obtain⟨p,hp,z⟩:∃ p∈dl,¬(a≠p.1/\a≠p.2):=Classical.byContradiction fun c=>hn fun p hp=>Classical.byContradiction fun z=>c ⟨p,hp,z⟩
   obtain⟨s,n,ls,Q⟩:=D p hp;obtain⟨s',n',ls',Q'⟩:=e.d p hp;have h1:a≠p.1:=f9 h Q.hd (fun z=>nomatch z)
   have h2:a=p.2:=Classical.byContradiction fun z'=>z ⟨h1,z'⟩
   exact⟨_,by rw[h2];exact Q'.hl⟩),e.r⟩
theorem Evo.new{p:Addr}{o:HO}(e:Evo dl H H1)(hp:H1 p=none):Evo dl H (upd H1 p o) :=
 ⟨fun c u h n r=>by rw[aj (aP (e.k c u h n r) hp)];exact e.k c u h n r,fun q hq=>(e.d q hq).new hp,fun c x h=>let⟨y,hy,e'⟩:=e.r c x h;⟨y,hy,by rw[aj (aP e' hp)];exact e'⟩⟩
theorem Evo.free(e:Evo dl H H'){p:Addr}(hp:H' p=none):H p=none:=by
 cases q:H p with
 | none=>rfl
 | some o =>
  by_cases hn:NR o
  ·rw[e.k p o q (e.d.nd0 hp) hn]at hp;cases hp
  ·obtain⟨x,hx⟩:∃ x,o = .room x:=Classical.byContradiction fun c=>hn fun x z=>c ⟨x,z⟩
   subst hx;obtain⟨y,_,e'⟩:=e.r p x q;rw[e']at hp;cases hp
structure Rp(K:W.Frag)(dl:Dl)(H:Hp)(v:V)(t:T)(F:List Addr):Prop where
 r:az K dl H v t F
 n:∀ b∈F,Nd dl b
structure Rps(K:W.Frag)(dl:Dl)(H:Hp)(vs:List V)(ts:List T)(F:List Addr):Prop where
 r:au K dl H vs ts F
 n:∀ b∈F,Nd dl b
theorem Rp.evo{K:W.Frag}{v:V}{t:T}(h:Rp K dl H v t F)(D:Dls dl H)(e:Evo dl H H'):Rp K dl H' v t F :=
 ⟨h.r.cD (e.tf D) (fun _ q=>q) fun b hb o q=>e.k b o q (h.n b hb) (.of (h.r.there b hb) q),h.n⟩
theorem Rps.evo{K:W.Frag}{v:List V}{t:List T}(h:Rps K dl H v t F)(D:Dls dl H)(e:Evo dl H H'):Rps K dl H' v t F :=
 ⟨h.r.cD (e.tf D) (fun _ q=>q) fun b hb o q=>e.k b o q (h.n b hb) (.of (h.r.there b hb) q),h.n⟩
inductive Sl where
 | no|o (t:T)|r (t:T)
abbrev Sq:=List Sl
def Sl.get:Sl->Option T
 | .no=>none
 | .o t=>some t
 | .r t=>some t
structure RdR(K:W.Frag)(dl:Dl)(H:Hp)(σ:St)(q:Sq):Prop where
 d:Dls dl H
 g:∀(i:Nat)(x:Sl)(t:T),q[i]? = some x->x.get=some t->∃ v F,σ[i]? = some (some v)/\Rp K dl H v t F
theorem RdR.evo{K:W.Frag}{dl:Dl}{H H':Hp}{σ:St}{q:Sq}(h:RdR K dl H σ q)(e:Evo dl H H'):RdR K dl H' σ q :=
 ⟨e.d,fun i x t h1 h2=>let⟨v,F,h3,h4⟩:=h.g i x t h1 h2;⟨v,F,h3,h4.evo h.d e⟩⟩
abbrev QE:=Sq ->(T->Prop)->Prop
abbrev QT:=Sq ->(Bool->Prop)->Prop
abbrev QA:=Sq ->(List T->Prop)->Prop
def fK(K:W.Frag)(te:TE)(tq:QE):Prop:=∀(dl:Dl)(H:Hp)(σ:St)(q:Sq)(Q:T->Prop)(R:V->Hp->Prop),RdR K dl H σ q->tq q Q ->
 (∀ v t F H',Evo dl H H'->Rp K dl H' v t F->Q t->R v H')->te σ H R
def iO(K:W.Frag)(te:TE)(tq:QE):Prop:=∀(dl:Dl)(H:Hp)(σ:St)(q:Sq)(Q:T->Prop)(R:V->Hp->Prop),RdR K dl H σ q->tq q Q ->
 (∀ v t F H',Evo dl H H'->Rp K dl H' v t F ->(∀ b∈F,H b=none)->F.Nodup->Q t->R v H')->te σ H R
def iM(K:W.Frag)(te:TT)(tq:QT):Prop:=∀(dl:Dl)(H:Hp)(σ:St)(q:Sq)(Q:Bool->Prop)(R:Bool->Hp->Prop),RdR K dl H σ q->tq q Q ->
 (∀ b H',Evo dl H H'->Q b->R b H')->te σ H R
def ET(K:W.Frag)(n:Nat)(te:TA)(tq:QA):Prop:=∀(dl:Dl)(H:Hp)(σ:St)(q:Sq)(Q:List T->Prop)(R:List V->Hp->Prop),RdR K dl H σ q->tq q Q ->
 (∀ vs ts F H',Evo dl H H'->Rps K dl H' vs ts F->vs.length=n->Q ts->R vs H')->te σ H R
def Lz(K:W.Frag)(n:Nat)(te:TA)(tq:QA):Prop:=∀(dl:Dl)(H:Hp)(σ:St)(q:Sq)(Q:List T->Prop)(R:List V->Hp->Prop),RdR K dl H σ q->tq q Q ->
 (∀ vs ts F H',Evo dl H H'->Rps K dl H' vs ts F->vs.length=n ->(∀ b∈F,H b=none)->F.Nodup->Q ts->R vs H')->te σ H R
structure QPE(X:Cx)(K:W.Frag)(e:Expr)(te:TE)(tq:QE):Prop where
 h:PE X e te
 s:fK K te tq
structure QPF(X:Cx)(K:W.Frag)(e:Expr)(te:TE)(tq:QE):Prop where
 h:PE X e te
 s:iO K te tq
structure QPT(X:Cx)(K:W.Frag)(e:Expr)(te:TT)(tq:QT):Prop where
 h:PT X e te
 s:iM K te tq
structure QPW(X:Cx)(K:W.Frag)(e:Expr)(te:TT)(tq:QT):Prop where
 h:PW X e te
 s:iM K te tq
structure QPA(X:Cx)(K:W.Frag)(es:List Expr)(te:TA)(tq:QA):Prop where
 h:PA X es te
 s:ET K es.length te tq
structure qW(X:Cx)(K:W.Frag)(es:List Expr)(te:TA)(tq:QA):Prop where
 h:PA X es te
 s:Lz K es.length te tq
variable{x:Str}
section
variable{X:Cx}{K:W.Frag}{a b c e:Expr}{es rest:List Expr}{ta tb tc te:TE}{qa qb qc qe:QE}{tA tB:TT}{qA qB:QT}{tl:TA}{ql:QA}{pos:Pos}
theorem QPF.w(h:QPF X K e te qe):QPE X K e te qe:=⟨h.h,fun dl H σ q Q R rd hq k=>h.s dl H σ q Q R rd hq fun v t F H' e r _ _ z=>k v t F H' e r z⟩
mutual
def T.im:T->Bool
 | .t xs=>T.ims xs
 | .l _=>false
 | .d _=>false
 | .dp _ _=>false
 | .lp _ _=>false
 | _=>true
def T.ims:List T->Bool
 | []=>true
 | x::r=>x.im&&T.ims r
end
theorem l9{x y:Bool}(h:x=true->F = [])(r:y=true->G = [])(q:(x&&y)=true):F++G = []:=by rw[h (Bool.and_eq_true _ _▸q).1,r (Bool.and_eq_true _ _▸q).2];rfl
theorem az.im{dl:Dl}{H:Hp}{v:V}{t:T}{F:List Addr}(h:az K dl H v t F):t.im=true->F = [] :=
 az.rec (motive_1:=fun _ t F _=>t.im=true->F = []) (motive_2:=fun _ t F _=>T.ims t=true->F = []) (motive_3:=fun _ _ _ _=>True)
  (fun _=>rfl) (fun _ _=>rfl) (fun _ _=>rfl) (fun _ _=>rfl) (fun _ _=>rfl) (fun _ _ ih=>ih) (fun _ _ _ h=>absurd h Bool.false_ne_true) (fun _ _ _ h=>absurd h Bool.false_ne_true)
  (fun _ _=>rfl) (fun _ _=>rfl) (fun _ _=>rfl) (fun _ _ _ _=>rfl) (fun _ _=>rfl) (fun _ _ _ _=>rfl) (fun _ _ _=>rfl) (fun _ _ _ _=>rfl) (fun _ _ _ h=>absurd h Bool.false_ne_true) (fun _ _ _ h=>absurd h Bool.false_ne_true) (fun _ _ _ _=>rfl) (fun _=>rfl) (fun _ _ i1 i2=>l9 i1 i2) trivial (fun _ _ _ _=>trivial) h
theorem au.im{dl:Dl}{H:Hp}{v:List V}{t:List T}{F:List Addr}(h:au K dl H v t F):T.ims t=true->F = []:=h.ind (M:=fun _ t F=>T.ims t=true->F = []) (fun _=>rfl) (fun _ _ _ _ _ _ h _ ih=>l9 h.im ih)
def qIm(qe:QE):QE:=fun q Q=>qe q fun t=>t.im=true/\Q t
theorem QPE.f(h:QPE X K e te qe):QPF X K e te (qIm qe):=⟨h.h,fun dl H σ q Q R rd hq k=>h.s dl H σ q _ R rd hq fun v t F H' e r ⟨z1,z2⟩=>by
 have f:=r.r.im z1;subst f;exact k v t [] H' e r (fun _ z=>nomatch z) List.nodup_nil z2⟩
def aZ(i:Nat):QE:=fun q Q=>match q[i]? with
 | some (.o t)=>Q t
 | some (.r t)=>Q t
 | _=>False
theorem Ct(i:Nat):fK K (a9 i) (aZ i):=by
 intro dl H σ q Q R rd hq k;unfold aZ at hq
 split at hq
 ·rename_i t e;obtain⟨v,F,h1,h2⟩:=rd.g i _ t e rfl;exact⟨v,h1,k v t F H (.refl rd.d) h2 hq⟩
 ·rename_i t e;obtain⟨v,F,h1,h2⟩:=rd.g i _ t e rfl;exact⟨v,h1,k v t F H (.refl rd.d) h2 hq⟩
 ·exact hq.elim
theorem qv(i:Nat){pos:Pos}(hN:X.N[i]? = some x:=by rfl)(hv:Vis X.env.scope x:=by first|exact Or.inl rfl|exact Or.inr (Or.inl rfl)|exact Or.inr (Or.inr rfl))(hd:(x ==("__debug__":Str))=false:=by decide)
  (hcd:(x ==("__classdict__":Str))=false:=by decide):QPE X K (.Name x pos) (a9 i) (aZ i):=⟨uh hN hv hd hcd,Ct i⟩
def qC(t:T):QE:=fun _ Q=>Q t
theorem rz{v:V}{t:T}(h:∀ dl H,az K dl H v t []):iO K (tC v) (qC t):=fun dl H σ q Q R rd hq k=>k v t [] H (.refl rd.d) ⟨h dl H,fun _ z=>nomatch z⟩ (fun _ z=>nomatch z) List.nodup_nil hq
theorem bG{i j pos}:QPF X K (.Constant (.int i) j pos) (tC (.int i)) (qC (.i i)):=⟨bg,rz fun _ _=>.i i⟩
theorem vX{b j pos}:QPF X K (.Constant (.bool b) j pos) (tC (.bl b)) (qC (.b b)):=⟨JP,rz fun _ _=>.b b⟩
theorem cQ{j pos}:QPF X K (.Constant .none j pos) (tC .non) (qC .n):=⟨G5,rz fun _ _=>.n⟩
theorem aW{x j pos}:QPF X K (.Constant (.str x) j pos) (tC (.str x)) (qC (.s x)):=⟨cx,rz fun _ _=>.s x⟩
theorem vW{n:String}{pos:Pos}(hg:Gl X x)(hm:X.mg x=none)(hv:bootBuiltins x=some (.type n))(hn:x ≠ "__name__":=by decide)(hd:(x ==("__debug__":Str))=false:=by decide):QPF X K (.Name x pos) (tC (.ty n)) (qC (.ty n)) :=
 ⟨DB hg hm hv rfl hn hd,rz fun _ _=>.ty n⟩
theorem ik{dl:Dl}{H:Hp}:∀(ws:List Str),au K dl H (ws.map V.str) (ws.map T.s) []
 | []=>.nil
 | w::r=>.cons (F:=[]) (.s w) (ik r)
theorem lg{dl:Dl}{H:Hp}:∀(ws:List Int),au K dl H (ws.map V.int) (ws.map T.i) []
 | []=>.nil
 | w::r=>.cons (F:=[]) (.i w) (lg r)
abbrev Q2:=T->T ->(T->Prop)->Prop
def BR(K:W.Frag)(r:R2)(rq:Q2):Prop:=∀(dl:Dl)(H:Hp)(x y:V)(t u:T)(F G:List Addr)(Q:T->Prop)(R:V->Hp->Prop),Dls dl H->Rp K dl H x t F->Rp K dl H y u G->rq t u Q ->
 (∀ v z F' H',Evo dl H H'->Rp K dl H' v z F'->Q z->R v H')->r x y H R
def cM(K:W.Frag)(r:R2)(rq:Q2):Prop:=∀(dl:Dl)(H:Hp)(x y:V)(t u:T)(F G:List Addr)(Q:T->Prop)(R:V->Hp->Prop),Dls dl H->Rp K dl H x t F->Rp K dl H y u G->rq t u Q ->
 (∀ v z F' H',Evo dl H H'->Rp K dl H' v z F' ->(∀ b∈F',H b=none)->F'.Nodup->Q z->R v H')->r x y H R
variable{rq:Q2}
theorem cM.w{r:R2}(h:cM K r rq):BR K r rq:=fun dl H x y t u F G Q R d a b hq k=>h dl H x y t u F G Q R d a b hq fun v z F' H' e r _ _ z'=>k v z F' H' e r z'
def qOp(rq:Q2)(qa qb:QE):QE:=fun q Q=>qa q fun t=>qb q fun u=>rq t u Q
theorem oh{r:R2}(ho:BR K r rq)(ha:fK K ta qa)(hb:fK K tb qb):fK K (tOp r ta tb) (qOp rq qa qb):=by
 intro dl H σ q Q R rd hq k;refine ha dl H σ q _ _ rd hq fun v t F H1 e1 r1 hq1=>?_
 refine hb dl H1 σ q _ _ (rd.evo e1) hq1 fun w u G H2 e2 r2 hq2=>?_
 exact ho dl H2 v w t u F G Q R e2.d (r1.evo e1.d e2) r2 hq2 fun v' z F' H3 e3 r3 hz=>k v' z F' H3 ((e1.trans e2).trans e3) r3 hz
theorem og{r:R2}(ho:cM K r rq)(ha:fK K ta qa)(hb:fK K tb qb):iO K (tOp r ta tb) (qOp rq qa qb):=by
 intro dl H σ q Q R rd hq k;refine ha dl H σ q _ _ rd hq fun v t F H1 e1 r1 hq1=>?_
 refine hb dl H1 σ q _ _ (rd.evo e1) hq1 fun w u G H2 e2 r2 hq2=>?_
 exact ho dl H2 v w t u F G Q R e2.d (r1.evo e1.d e2) r2 hq2 fun v' z F' H3 e3 r3 f3 n3 hz=>k v' z F' H3 ((e1.trans e2).trans e3) r3 (fun b hb=>(e1.trans e2).free (f3 b hb)) n3 hz
theorem lB{op:Operator}{r:R2}(ho:OpR X (binaryOp op) r)(hs:cM K r rq)(ha:QPE X K a ta qa)(hb:QPE X K b tb qb):QPF X K (.BinOp a op b pos) (tOp r ta tb) (qOp rq qa qb):=⟨bV ho ha.h hb.h,og hs ha.s hb.s⟩
end
end L2
namespace L2
open PySem PySem.Spec PyProof.Rows
variable{x:Str}{C:Addr}{ns:List Str}{a:Addr}{ws:List Str}{G:List Addr}
section
variable{X:Cx}{K:W.Frag}{dl:Dl}{H:Hp}{v:V}{F:List Addr}
def LC(K:W.Frag)(dl:Dl)(H:Hp)(v:V)(F:List Addr):T->Prop
 | .n=>v = .non/\F = []
 | .b x=>v = .bl x/\F = []
 | .i x=>v = .int x/\F = []
 | .s x=>v = .str x/\F = []
 | .ty x=>v = .ty x
 | .t ts=>∃ a vs,v = .ref a/\H a=some (.tup vs)/\au K dl H vs ts F
 | .l ts=>∃ a vs G,v = .ref a/\F=a::G/\H a=some (.lst vs)/\au K dl H vs ts G
 | .d ts=>∃ a vs G,v = .ref a/\F=a::G/\H a=some (.dK vs)/\aL K dl H vs ts G
 | .cN=>∃ a l,v = .ref a/\(a,l)∈dl/\F = []
 | .z ns=>∃ a,v = .ref a/\FzL K H a (ns.map V.int)/\F = []
 | .k ws=>∃ a,v = .ref a/\(∀ H',SqT K H' a (ws.map V.str))/\F = []
 | .xc C ns ts=>∃ a b vs,v = .ref a/\F = []/\ExH H a C b (ns.zip vs)/\au K dl H vs ts []
 | .q=>True
 | .fd _ _ _=>True
 | .rm u=>∃ a x,v = .ref a/\H a=some (.room x)/\x<=u/\F = []
 | .ob C ns ts=>∃ a vs,v = .ref a/\F = []/\ObH H a C (ns.zip vs)/\au K dl H vs ts []
 | .dp a ts=>∃ vs G,v = .ref a/\F=a::G/\H a=some (.dK vs)/\aL K dl H vs ts G
 | .lp a ts=>∃ vs G,v = .ref a/\F=a::G/\H a=some (.lst vs)/\au K dl H vs ts G
 | .zl ts=>∃ a o vs,v = .ref a/\F = []/\H a=some (.frz o (.lst vs))/\au K dl H vs ts []
theorem az.inv{t:T}(h:az K dl H v t F):LC K dl H v F t :=
 az.rec (motive_1:=fun v t F _=>LC K dl H v F t) (motive_2:=fun _ _ _ _=>True) (motive_3:=fun _ _ _ _=>True) ⟨rfl,rfl⟩ (fun _=>⟨rfl,rfl⟩) (fun _=>⟨rfl,rfl⟩) (fun _=>⟨rfl,rfl⟩) (fun _=>rfl)
  (fun h r _=>⟨_,_,rfl,h,r⟩) (fun h r _=>⟨_,_,_,rfl,rfl,h,r⟩) (fun h r _=>⟨_,_,_,rfl,rfl,h,r⟩) (fun h=>⟨_,_,rfl,h,rfl⟩) (fun h=>⟨_,rfl,h,rfl⟩) (fun _=>trivial) (fun _ _ _=>trivial) (fun h=>⟨_,rfl,h,rfl⟩) (fun h r _=>⟨_,_,_,rfl,rfl,h,r⟩) (fun h hx=>⟨_,_,rfl,h,hx,rfl⟩) (fun h r _=>⟨_,_,rfl,rfl,h,r⟩) (fun h r _=>⟨_,_,rfl,rfl,h,r⟩) (fun h r _=>⟨_,_,rfl,rfl,h,r⟩) (fun h r _=>⟨_,_,_,rfl,rfl,h,r⟩)
  trivial (fun _ _ _ _=>trivial) trivial (fun _ _ _ _=>trivial) h
theorem az.int{x:Int}(h:az K dl H v (.i x) F):v = .int x/\F = []:=h.inv
theorem az.str(h:az K dl H v (.s x) F):v = .str x/\F = []:=h.inv
theorem az.bl{x:Bool}(h:az K dl H v (.b x) F):v = .bl x/\F = []:=h.inv
theorem az.non(h:az K dl H v .n F):v = .non/\F = []:=h.inv
theorem az.tyy{x:String}(h:az K dl H v (.ty x) F):v = .ty x:=h.inv
theorem az.tup{ts:List T}(h:az K dl H v (.t ts) F):∃ a vs,v = .ref a/\H a=some (.tup vs)/\au K dl H vs ts F:=h.inv
theorem az.lst{ts:List T}(h:az K dl H v (.l ts) F):∃ a vs G,v = .ref a/\F=a::G/\H a=some (.lst vs)/\au K dl H vs ts G:=h.inv
theorem az.dic{ts:List (Key×T)}(h:az K dl H v (.d ts) F):∃ a vs G,v = .ref a/\F=a::G/\H a=some (.dK vs)/\aL K dl H vs ts G:=h.inv
theorem az.roo{u:Int}(h:az K dl H v (.rm u) F):∃ a x,v = .ref a/\H a=some (.room x)/\x<=u/\F = []:=h.inv
theorem az.obj{ts:List T}(h:az K dl H v (.ob C ns ts) F):∃ a vs,v = .ref a/\F = []/\ObH H a C (ns.zip vs)/\au K dl H vs ts []:=h.inv
theorem az.dpp{ts:List (Key×T)}(h:az K dl H v (.dp a ts) F):∃ vs G,v = .ref a/\F=a::G/\H a=some (.dK vs)/\aL K dl H vs ts G:=h.inv
theorem az.lpp{ts:List T}(h:az K dl H v (.lp a ts) F):∃ vs G,v = .ref a/\F=a::G/\H a=some (.lst vs)/\au K dl H vs ts G:=h.inv
theorem az.zls{ts:List T}(h:az K dl H v (.zl ts) F):∃ a o vs,v = .ref a/\F = []/\H a=some (.frz o (.lst vs))/\au K dl H vs ts []:=h.inv
theorem az.dea(h:az K dl H v .cN F):∃ a l,v = .ref a/\(a,l)∈dl/\F = []:=h.inv
theorem az.scr{ns:List Int}(h:az K dl H v (.z ns) F):∃ a,v = .ref a/\FzL K H a (ns.map V.int)/\F = []:=h.inv
theorem az.kst(h:az K dl H v (.k ws) F):∃ a,v = .ref a/\(∀ H',SqT K H' a (ws.map V.str))/\F = []:=h.inv
theorem au.len{vs:List V}{ts:List T}(h:au K dl H vs ts F):vs.length=ts.length:=h.ind (M:=fun vs ts _=>vs.length=ts.length) rfl fun _ _ _ _ _ _ _ _ ih=>congrArg (· + 1) ih
theorem aL.len{vs:List (Key×V)}{ts:List (Key×T)}(h:aL K dl H vs ts F):vs.length=ts.length:=h.ind (M:=fun vs ts _=>vs.length=ts.length) rfl fun _ _ _ _ _ _ _ _ _ ih=>congrArg (· + 1) ih
theorem au.HR{vs:List V}{ts:List T}{i:Nat}{t:T}(h:au K dl H vs ts F)(e:ts[i]? = some t):∃ v G,vs[i]? = some v/\az K dl H v t G/\G.Sublist F :=
 h.ind (M:=fun vs ts F=>∀(i:Nat)(t:T),ts[i]? = some t->∃ v G,vs[i]? = some v/\az K dl H v t G/\G.Sublist F) (fun _ _ e=>nomatch e) (fun v x vs ts F G h _ ih i t e=>by
  cases i with
  | zero=>cases e;exact⟨v,F,rfl,h,List.sublist_append_left _ _⟩
  | succ i =>
   obtain⟨w,G',h1,h2,h3⟩:=ih i t e;exact⟨w,G',h1,h2,h3.trans (List.sublist_append_right _ _)⟩) i t e
theorem au.get{vs:List V}{ts:List T}{i:Nat}{t:T}(h:au K dl H vs ts F)(e:ts[i]? = some t):∃ v G,vs[i]? = some v/\az K dl H v t G/\∀ b∈G,b∈F :=
 Exists.elim (h.HR e) fun v z=>Exists.elim z fun G z=>⟨v,G,z.1,z.2.1,fun _ hb=>z.2.2.subset hb⟩
theorem au.append{vs ws:List V}{ts us:List T}(h:au K dl H vs ts F)(h2:au K dl H ws us G):au K dl H (vs++ws) (ts++us) (F++G) :=
 h.ind (M:=fun vs ts F=>au K dl H (vs++ws) (ts++us) (F++G)) h2 fun _ _ _ _ _ _ h _ ih=>by rw[List.append_assoc];exact .cons h ih
theorem au.ft{vs:List V}{ts:List T}(h:au K dl H vs ts F):vs = [] ↔ ts = []:=by
 cases h with
 | nil=>simp
 | cons _ _=>simp
theorem au.drop:∀{vs:List V}{ts:List T}{F:List Addr}(n:Nat),au K dl H vs ts F->∃ G,au K dl H (vs.drop n) (ts.drop n) G/\G.Sublist F
 | _,_,F,0,h=>⟨F,h,List.Sublist.refl _⟩
 | _,_,_,_+1,.nil=>⟨[],.nil,List.Sublist.refl _⟩
 | _,_,_,n+1,.cons (F:=F1) h r=>by
  obtain⟨G,h1,h2⟩:=au.drop n r;exact⟨G,h1,h2.trans (List.sublist_append_right _ _)⟩
theorem au.take:∀{vs:List V}{ts:List T}{F:List Addr}(n:Nat),au K dl H vs ts F->∃ G,au K dl H (vs.take n) (ts.take n) G/\G.Sublist F
 | _,_,F,0,h=>⟨[],.nil,List.nil_sublist _⟩
 | _,_,_,_+1,.nil=>⟨[],.nil,List.Sublist.refl _⟩
 | _,_,_,n+1,.cons (F:=F1) h r=>by
  obtain⟨G,h1,h2⟩:=au.take n r;exact⟨_,.cons h h1,h2.append_left _⟩
theorem Rp.sub{t:T}(r:az K dl H v t G)(n:∀ b∈F,Nd dl b)(h:∀ b∈G,b∈F):Rp K dl H v t G:=⟨r,fun b hb=>n b (h b hb)⟩
theorem Rp.c{t:T}(r:az K dl H v t []):Rp K dl H v t []:=⟨r,fun _ z=>nomatch z⟩
theorem Rps.tup{vs:List V}{ts:List T}{p:Addr}(h:Rps K dl H vs ts F)(D:Dls dl H)(hp:H p=none):Rp K dl (upd H p (.tup vs)) (.ref p) (.t ts) F :=
 have h2:=h.evo D ((Evo.refl D).new (o:=.tup vs) hp)
 ⟨.t aw h2.r,h2.n⟩
theorem Rps.lst{vs:List V}{ts:List T}{p:Addr}(h:Rps K dl H vs ts F)(D:Dls dl H)(hp:H p=none):Rp K dl (upd H p (.lst vs)) (.ref p) (.l ts) (p::F) :=
 have h2:=h.evo D ((Evo.refl D).new (o:=.lst vs) hp)
 ⟨.l aw h2.r,fun b hb=>by
  rcases List.mem_cons.mp hb with e|hb
  ·rw[e];exact D.nd0 hp
  ·exact h2.n b hb⟩
theorem Rps.fresh{vs:List V}{ts:List T}{p:Addr}(h:Rps K dl H vs ts F)(hp:H p=none)(hn:F.Nodup):(p::F).Nodup:=List.nodup_cons.mpr ⟨fun z=>(by
 rcases h.r.there p z with⟨_,e⟩ |⟨_,e⟩
 ·rw[hp]at e;cases e
 ·rw[hp]at e;cases e),hn⟩
def qII(C:Int->Int->Prop)(g:Int->Int->T):Q2:=fun t u Q=>match t,u with
 | .i a,.i b=>C a b/\Q (g a b)
 | _,_=>False
theorem Fb{C:Int->Int->Prop}{g:Int->Int->V}{g':Int->Int->T}(hg:∀ a b dl H,az K dl H (g a b) (g' a b) []):cM K (rI C g) (qII C g'):=by
 intro dl H x y t u F G Q R D r1 r2 hq k;unfold qII at hq
 split at hq
 ·obtain⟨rfl,rfl⟩:=r1.r.int;obtain⟨rfl,rfl⟩:=r2.r.int;exact⟨_,_,rfl,rfl,hq.1,k _ _ [] H (.refl D) (.c (hg _ _ _ _)) (fun _ z=>nomatch z) List.nodup_nil hq.2⟩
 ·exact hq.elim
def qI0(g:Int->Int->T):Q2:=fun t u Q=>match t,u with
 | .i a,.i b=>Q (g a b)
 | _,_=>False
theorem ot{g:Int->Int->V}{g':Int->Int->T}(hg:∀ a b dl H,az K dl H (g a b) (g' a b) []):cM K (rI0 g) (qI0 g'):=by
 intro dl H x y t u F G Q R D r1 r2 hq k;unfold qI0 at hq
 split at hq
 ·obtain⟨rfl,rfl⟩:=r1.r.int;obtain⟨rfl,rfl⟩:=r2.r.int;exact⟨_,_,rfl,rfl,k _ _ [] H (.refl D) (.c (hg _ _ _ _)) (fun _ z=>nomatch z) List.nodup_nil hq⟩
 ·exact hq.elim
theorem DD:OpR X (binaryOp .Add) (fun x y H Q=>∃ a b xs ys,x = .ref a/\y = .ref b/\SqT X.K H a xs/\SqT X.K H b ys/\xs.length+ys.length<=sizeLine /\
  (xs = []->Q (.ref b) H)/\(xs ≠ []->ys = []->Q (.ref a) H)/\(xs ≠ []->ys ≠ []->∀ p,H p=none->Q (.ref p) (upd H p (.tup (xs++ys))))):=by
 intro gV s σ H x y v u Q I rx ry h;obtain⟨a,b,xs,ys,rfl,rfl,ha,hb,hz,q0,q1,q2⟩:=h;by_cases hx:xs = []
 ·cases rx;cases ry;obtain⟨its,r1,p1,_⟩:=I.tuple ha;obtain⟨bu,r2,p2,_⟩:=I.tuple hb;have e:its = []:=r1.ft.mpr hx;subst e;obtain⟨⟨cls,dd,data,sl⟩,ho,hc,n,hd⟩:=id p1;obtain⟨⟨NH,dd2,data2,sl2⟩,ho2,hc2,n2,hd2⟩:=id p2;simp only at hc hd hc2 hd2;subst hc hd hc2 hd2;exact concat_meets ⟨_,ho,rfl⟩ ⟨_,ho2,rfl⟩ noFill_tuple_add seq_tuple_add PySem.F.slot_tuple_add PySem.F.entry_tuple_add (PySem.F.args_tuple_add_2 _ _)
   (tuple_addW0 a b ([]:List Value).toArray bu.toArray n n2 dd dd2 sl sl2 (by simp)) ⟨ho,ho2,⟨.ref b,H,I,rfl,q0 hx⟩⟩
 ·exact DE gV s σ H _ _ v u Q I rx ry ⟨a,b,xs,ys,rfl,rfl,ha,hb,hx,hz,q1 hx,q2 hx⟩
def zL(K:W.Frag):R2:=fun x y H Q=>rI0 (fun i j=>.int (i+j)) x y H Q\/(∃ i j,x = .str i/\y = .str j/\i.length+j.length<=sizeLine/\Q (.str (i++j)) H)\/Jk x y H Q \/
 (∃ a b xs ys,x = .ref a/\y = .ref b/\SqT K H a xs/\SqT K H b ys/\xs.length+ys.length<=sizeLine /\
  (xs = []->Q (.ref b) H)/\(xs ≠ []->ys = []->Q (.ref a) H)/\(xs ≠ []->ys ≠ []->∀ p,H p=none->Q (.ref p) (upd H p (.tup (xs++ys)))))
theorem DG(hK:X.K=K):OpR X (binaryOp .Add) (zL K):=by subst hK;exact jG.or (uv.or (Hb.or DD))
def xT:Q2:=fun t u Q=>match t,u with
 | .i a,.i b=>Q (.i (a+b))
 | .s a,.s b=>a.length+b.length<=sizeLine/\Q (.s (a++b))
 | .l a,.l b=>a.length+b.length<=sizeLine/\T.ims a=true/\T.ims b=true/\Q (.l (a++b))
 | .t a,.t b=>a.length+b.length<=sizeLine/\T.ims a=true/\T.ims b=true/\Q (.t (a++b))
 | _,_=>False
theorem CG:cM K (zL K) xT:=by
 intro dl H x y t u F G Q R D r1 r2 hq k;have no:∀ b:Addr,b∈([]:List Addr)->H b=none:=fun _ z=>nomatch z
 unfold xT at hq
 split at hq
 ·obtain⟨rfl,rfl⟩:=r1.r.int;obtain⟨rfl,rfl⟩:=r2.r.int;exact .inl ⟨_,_,rfl,rfl,k _ _ [] H (.refl D) (.c (.i _)) no List.nodup_nil hq⟩
 ·obtain⟨rfl,rfl⟩:=r1.r.str;obtain⟨rfl,rfl⟩:=r2.r.str;exact .inr (.inl ⟨_,_,rfl,rfl,hq.1,k _ _ [] H (.refl D) (.c (.s _)) no List.nodup_nil hq.2⟩)
 ·obtain⟨a,vs,F1,rfl,rfl,h1,s1⟩:=r1.r.lst;obtain⟨b,ws,G1,rfl,rfl,h2,s2⟩:=r2.r.lst;obtain rfl:=s1.im hq.2.1;obtain rfl:=s2.im hq.2.2.1;refine .inr (.inr (.inl ⟨a,b,vs,ws,rfl,rfl,h1,h2,by rw[s1.len,s2.len];exact hq.1,fun p hp=>?_⟩))
  have rs:Rps K dl H (vs++ws) _ ([] ++ []):=⟨s1.append s2,fun c hc=>nomatch hc⟩
  exact k _ _ _ _ ((Evo.refl D).new hp) (rs.lst D hp) (fun b hb=>by rw[List.mem_singleton.mp hb];exact hp) (by simp) hq.2.2.2
 ·obtain⟨a,vs,rfl,h1,s1⟩:=r1.r.tup;obtain⟨b,ws,rfl,h2,s2⟩:=r2.r.tup;obtain rfl:=s1.im hq.2.1;obtain rfl:=s2.im hq.2.2.1;refine .inr (.inr (.inr ⟨a,b,vs,ws,rfl,rfl,SqT.of h1,SqT.of h2,by rw[s1.len,s2.len];exact hq.1,fun e=>?_,fun e1 e2=>?_,fun _ _ p hp=>?_⟩))
  ·refine k _ _ [] H (.refl D) r2 no List.nodup_nil ?_;have z:=s1.ft.mp e;subst z;exact hq.2.2.2
  ·refine k _ _ [] H (.refl D) r1 no List.nodup_nil ?_;have z:=s2.ft.mp e2;subst z;have hq2:=hq.2.2.2;rw[List.append_nil]at hq2;exact hq2
  ·have rs:Rps K dl H (vs++ws) _ ([] ++ []):=⟨s1.append s2,fun c hc=>nomatch hc⟩
   exact k _ _ _ _ ((Evo.refl D).new hp) (rs.tup D hp) no List.nodup_nil hq.2.2.2
 ·exact hq.elim
def GI:Q2:=fun t u Q=>match t,u with
 | .i a,.i b=>B6 a b/\Q (.i (a*b))
 | .s a,.i b=>0<=b/\b<=1000/\a.length<=1000/\Q (.s (fW a b.toNat))
 | _,_=>False
def zC:R2:=fun x y H Q=>rI B6 (fun i j=>.int (i*j)) x y H Q\/(∃ z n,x = .str z/\y = .int n/\0<=n/\n<=1000/\z.length<=1000/\Q (.str (fW z n.toNat)) H)
theorem DC:OpR X (binaryOp .Mult) zC:=iu.or uq
theorem CB:cM K zC GI:=by
 intro dl H x y t u F G Q R D r1 r2 hq k;unfold GI at hq
 split at hq
 ·obtain⟨rfl,rfl⟩:=r1.r.int;obtain⟨rfl,rfl⟩:=r2.r.int;exact .inl ⟨_,_,rfl,rfl,hq.1,k _ _ [] H (.refl D) (.c (.i _)) (fun _ z=>nomatch z) List.nodup_nil hq.2⟩
 ·obtain⟨rfl,rfl⟩:=r1.r.str;obtain⟨rfl,rfl⟩:=r2.r.int;exact .inr ⟨_,_,rfl,rfl,hq.1,hq.2.1,hq.2.2.1,k _ _ [] H (.refl D) (.c (.s _)) (fun _ z=>nomatch z) List.nodup_nil hq.2.2.2⟩
 ·exact hq.elim
end
section
variable{X:Cx}{K:W.Frag}{a b:Expr}{ta tb:TE}{qa qb:QE}{pos:Pos}
theorem bq(ha:QPE X K a ta qa)(hb:QPE X K b tb qb)(hK:X.K=K:=by rfl):QPF X K (.BinOp a .Add b pos) (tOp (zL K) ta tb) (qOp xT qa qb):=lB (DG hK) CG ha hb
theorem zS(ha:QPE X K a ta qa)(hb:QPE X K b tb qb):QPF X K (.BinOp a .Sub b pos) (tOp (rI0 fun i j=>.int (i - j)) ta tb) (qOp (qI0 fun i j=>.i (i - j)) qa qb):=lB uo (ot fun _ _ _ _=>.i _) ha hb
theorem lC(ha:QPE X K a ta qa)(hb:QPE X K b tb qb):QPF X K (.BinOp a .Mult b pos) (tOp zC ta tb) (qOp GI qa qb):=lB DC CB ha hb
theorem zT(ha:QPE X K a ta qa)(hb:QPE X K b tb qb):QPF X K (.BinOp a .Mod b pos) (tOp (rI (fun _ j=>0<j) fun i j=>.int (i % j)) ta tb) (qOp (qII (fun _ j=>0<j) fun i j=>.i (i % j)) qa qb):=lB fk (Fb fun _ _ _ _=>.i _) ha hb
theorem C3(ha:QPE X K a ta qa)(hb:QPE X K b tb qb):QPF X K (.BinOp a .FloorDiv b pos) (tOp (rI B7 fun i j=>.int (i / j)) ta tb) (qOp (qII B7 fun i j=>.i (i / j)) qa qb):=lB rY (Fb fun _ _ _ _=>.i _) ha hb
end
variable{neg:Bool}{op:CmpOp}{rq:Q2}{j:Nat}
section
variable{X:Cx}{K:W.Frag}{a b c e:Expr}{es rest:List Expr}{ta tb tc te:TE}{qa qb qc qe:QE}{tA tB:TT}{qA qB:QT}{tl:TA}{ql:QA}{pos:Pos}
def T.v:T->V
 | .n=>.non | .b x=>.bl x | .i x=>.int x | .s x=>.str x | _=>.ty ""
def T.fl:T->Bool
 | .n=>true | .b _=>true | .i _=>true | .s _=>true | _=>false
theorem az.v{dl:Dl}{H:Hp}{v:V}{t:T}{F:List Addr}(h:az K dl H v t F)(f:t.fl=true):v=t.v/\F = []:=by
 cases h <;> first|exact⟨rfl,rfl⟩|exact absurd (show false=true from f) Bool.false_ne_true
def qEq:Q2:=fun t u Q=>(t.fl&&u.fl&&IW t.v u.v)=true/\Q (.b (decide (t.v=u.v)))
theorem Gm:cM K rEq qEq:=by
 intro dl H x y t u F G Q R D r1 r2 hq k;obtain⟨h,hq⟩:=hq;rw[Bool.and_eq_true,Bool.and_eq_true]at h;obtain⟨rfl,rfl⟩:=r1.r.v h.1.1;obtain⟨rfl,rfl⟩:=r2.r.v h.1.2;exact⟨h.2,k _ _ [] H (.refl D) (.c (.b _)) (fun _ z=>nomatch z) List.nodup_nil hq⟩
def xS(neg:Bool):Q2:=fun t u Q=>match u with
 | .n=>Q (.b (match t with | .n=>!neg | _=>neg))
 | _=>False
theorem vN:cM K (fun x y H Q=>y = .non/\Q (.bl (decide (x = .non))) H) (xS false):=by
 intro dl H x y t u F G Q R D r1 r2 hq k;unfold xS at hq
 split at hq
 ·obtain⟨rfl,rfl⟩:=r2.r.non;refine⟨rfl,k _ _ [] H (.refl D) (.c (.b _)) (fun _ z=>nomatch z) List.nodup_nil ?_⟩
  cases r1.r <;> exact hq
 ·exact hq.elim
theorem iX:cM K (fun x y H Q=>y = .non/\Q (.bl (!decide (x = .non))) H) (xS true):=by
 intro dl H x y t u F G Q R D r1 r2 hq k;unfold xS at hq
 split at hq
 ·obtain⟨rfl,rfl⟩:=r2.r.non;refine⟨rfl,k _ _ [] H (.refl D) (.c (.b _)) (fun _ z=>nomatch z) List.nodup_nil ?_⟩
  cases r1.r <;> exact hq
 ·exact hq.elim
def inT(x:T)(xs:List T):Bool:=xs.any fun y=>eqV y.v x.v
def fls(xs:List T):Bool:=xs.all T.fl
theorem au.vs{dl:Dl}{H:Hp}{vs:List V}{ts:List T}{F:List Addr}(h:au K dl H vs ts F):fls ts=true->vs=ts.map T.v/\F = [] :=
 h.ind (M:=fun vs ts F=>fls ts=true->vs=ts.map T.v/\F = []) (fun _=>⟨rfl,rfl⟩) fun _ _ _ _ _ _ h _ ih f=>by
  have f:(_&&_)=true:=f;rw[Bool.and_eq_true]at f;obtain⟨rfl,rfl⟩:=h.v f.1;obtain⟨rfl,rfl⟩:=ih f.2;exact⟨rfl,rfl⟩
theorem me{ts:List T}(f:fls ts=true):(ts.map T.v).all cy=true:=by
 rw[List.all_eq_true];intro x hx;obtain⟨t,ht,rfl⟩:=List.mem_map.mp hx
 have:=List.all_eq_true.mp f t ht
 cases t <;> first|rfl|exact absurd this Bool.false_ne_true
theorem qj{t:T}(f:t.fl=true):cy t.v=true:=by cases t <;> first|rfl|exact absurd f Bool.false_ne_true
def CP(K:W.Frag)(neg:Bool):R2:=fun x y H Q=>rIn K neg x y H Q\/∃ i j,x = .str i/\y = .str j/\Q (.bl (if neg then !(!(Builtin.Str.occurrences j i 0 j.length 1).isEmpty)else !(Builtin.Str.occurrences j i 0 j.length 1).isEmpty)) H
theorem ur(hK:X.K=K):OpR X (compareOp .In) (CP K false):=by subst hK;exact x6.or x5
theorem x4(hK:X.K=K):OpR X (compareOp .NotIn) (CP K true):=by subst hK;exact pB.or pA
def qIn(neg:Bool):Q2:=fun t u Q=>match u with
 | .l xs=>(t.fl&&fls xs)=true/\Q (.b (if neg then !inT t xs else inT t xs))
 | .t xs=>(t.fl&&fls xs)=true/\Q (.b (if neg then !inT t xs else inT t xs))
 | .k ws=>match t with
  | .s y=>Q (.b (if neg then !inT (.s y) (ws.map T.s)else inT (.s y) (ws.map T.s)))
  | _=>False
 | .s z=>match t with
  | .s y=>Q (.b (if neg then !(!(Builtin.Str.occurrences z y 0 z.length 1).isEmpty)else !(Builtin.Str.occurrences z y 0 z.length 1).isEmpty))
  | _=>False
 | _=>False
theorem om:cM K (CP K neg) (qIn neg):=by
 intro dl H x y t u F G Q R D r1 r2 hq k;have go:∀(xs:List T)(p:Addr)(vs:List V),y = .ref p ->(SqL K H p vs\/SqT K H p vs) ->(∃ G,au K dl H vs xs G) ->(t.fl&&fls xs)=true/\Q (.b (if neg then !inT t xs else inT t xs))->CP K neg x y H R:=by
  rintro xs p vs rfl hs ⟨G,rs⟩ ⟨f,hq⟩
  rw[Bool.and_eq_true]at f;obtain⟨rfl,rfl⟩:=r1.r.v f.1;obtain⟨rfl,_⟩:=rs.vs f.2;refine .inl ⟨p,_,rfl,hs,qj f.1,me f.2,k _ (.b _) [] H (.refl D) (.c (.b _)) (fun _ z=>nomatch z) List.nodup_nil ?_⟩
  have e:inV t.v (xs.map T.v)=inT t xs:=by unfold inV inT;rw[List.any_map];rfl
  rw[e];exact hq
 unfold qIn at hq
 split at hq
 ·obtain⟨p,vs,G,rfl,_,h1,h2⟩:=r2.r.lst;exact go _ p vs rfl (.inl (SqL.of h1)) ⟨_,h2⟩ hq
 ·obtain⟨p,vs,rfl,h1,h2⟩:=r2.r.tup;exact go _ p vs rfl (.inr (SqT.of h1)) ⟨_,h2⟩ hq
 ·split at hq
  ·obtain⟨p,rfl,h1,_⟩:=r2.r.kst;refine go _ p _ rfl (.inr (h1 H)) ⟨_,ik _⟩ ⟨?_,hq⟩;rw[Bool.and_eq_true];refine⟨rfl,?_⟩;unfold fls;rw[List.all_map,List.all_eq_true];exact fun _ _=>rfl
  ·exact hq.elim
 ·split at hq
  ·obtain⟨rfl,rfl⟩:=r1.r.str;obtain⟨rfl,rfl⟩:=r2.r.str;exact .inr ⟨_,_,rfl,rfl,k _ _ [] H (.refl D) (.c (.b _)) (fun _ z=>nomatch z) List.nodup_nil hq⟩
  ·exact hq.elim
 ·exact hq.elim
theorem oO{r:R2}(ho:OpR X (compareOp op) r)(hs:cM K r rq)(hm:behindInMarks op b=false)(ha:QPE X K a ta qa)(hb:QPE X K b tb qb):QPF X K (.Compare a [op] [b] pos) (tOp r ta tb) (qOp rq qa qb) :=
 ⟨DA ho ha.h hb.h hm,og hs ha.s hb.s⟩
def nq(qe:QE):QT:=fun q Q=>qe q fun t=>match t with
 | .b x=>Q x
 | _=>False
theorem ze(h:fK K te qe):iM K (vH te) (nq qe):=by
 intro dl H σ q Q R rd hq k;refine h dl H σ q _ _ rd hq fun v t F H' e r hz=>?_
 split at hz
 ·obtain⟨rfl,rfl⟩:=r.r.bl;exact⟨_,rfl,k _ H' e hz⟩
 ·exact hz.elim
theorem bF{r:R2}(ho:OpR X (compareOp op) r)(hs:cM K r rq)(hm:behindInMarks op b=false)(ha:QPE X K a ta qa)(hb:QPE X K b tb qb):QPT X K (.Compare a [op] [b] pos) (vH (tOp r ta tb)) (nq (qOp rq qa qb)) :=
 ⟨i4 ho ha.h hb.h hm,ze (oh hs.w ha.s hb.s)⟩
def Jm(qe:QE):QT:=fun q Q=>qe q fun t=>match t with
 | .b x=>Q x
 | .n=>Q false
 | .i x=>Q (x != 0)
 | .s x=>x.length<=sizeLine/\Q ((x.length:Int) != 0)
 | .l xs=>Q (!xs.isEmpty)
 | .t xs=>Q (!xs.isEmpty)
 | .d xs=>Q (!xs.isEmpty)
 | _=>False
theorem Cw(h:fK K te qe):iM K (fun σ H Q=>te σ H fun x H'=>∃ k,ER K x H' k/\Q k H') (Jm qe):=by
 intro dl H σ q Q R rd hq k;refine h dl H σ q _ _ rd hq fun v t F H' e r hz=>?_
 have emp:∀{α β:Type}{xs:List α}{ys:List β},xs.length=ys.length ->(!xs.isEmpty) = !ys.isEmpty:=fun{α β xs ys} h=>by
  cases xs <;> cases ys <;> first|rfl |(simp at h)
 split at hz
 ·obtain⟨rfl,rfl⟩:=r.r.bl;exact⟨_,rfl,k _ H' e hz⟩
 ·obtain⟨rfl,rfl⟩:=r.r.non;exact⟨_,rfl,k _ H' e hz⟩
 ·obtain⟨rfl,rfl⟩:=r.r.int;exact⟨_,rfl,k _ H' e hz⟩
 ·obtain⟨rfl,rfl⟩:=r.r.str;exact⟨_,⟨hz.1,rfl⟩,k _ H' e hz.2⟩
 ·obtain⟨p,vs,G,rfl,_,h1,h2⟩:=r.r.lst;exact⟨_,.inl ⟨vs,SqL.of h1,rfl⟩,k _ H' e (by rw[emp h2.len];exact hz)⟩
 ·obtain⟨p,vs,rfl,h1,h2⟩:=r.r.tup;exact⟨_,.inr (.inl ⟨vs,SqT.of h1,rfl⟩),k _ H' e (by rw[emp h2.len];exact hz)⟩
 ·obtain⟨p,vs,G,rfl,_,h1,h2⟩:=r.r.dic;exact⟨_,.inr (.inr ⟨vs,h1,rfl⟩),k _ H' e (by rw[emp h2.len];exact hz)⟩
 ·exact hz.elim
theorem fX(h:QPE X K e te qe)(he:∀ whole,isTrue e X.env whole =(do let v <- whole;standAt e.pos;holding [v] (truthy v)):=by intro _;rfl)(hK:X.K=K:=by rfl) :
  QPT X K e (fun σ H Q=>te σ H fun x H'=>∃ k,ER K x H' k/\Q k H') (Jm qe):=⟨by subst hK;exact Ah h.h he,Cw h.s⟩
def Jp(t:QT):QT:=fun q Q=>t q fun c=>Q (!c)
def Jw(t u:QT):QT:=fun q Q=>t q fun c=>if c=true then u q Q else Q false
def qOr(t u:QT):QT:=fun q Q=>t q fun c=>if c=true then Q true else u q Q
theorem CA(h:iM K tA qA):iM K (Ga tA) (Jp qA):=fun dl H σ q _ R rd hq k=>h dl H σ q _ _ rd hq fun b H' e hz=>k _ H' e hz
theorem CF(h:iM K tA qA)(h2:iM K tB qB):iM K (Gb tA tB) (Jw qA qB):=fun dl H σ q Q R rd hq k=>h dl H σ q _ _ rd hq fun b H' e hz=>by
 cases b with
 | false=>exact k _ H' e hz
 | true=>exact h2 dl H' σ q Q R (rd.evo e) hz fun c H2 e2 z=>k c H2 (e.trans e2) z
theorem Gj(h:iM K tA qA)(h2:iM K tB qB):iM K (tOr tA tB) (qOr qA qB):=fun dl H σ q Q R rd hq k=>h dl H σ q _ _ rd hq fun b H' e hz=>by
 cases b with
 | true=>exact k _ H' e hz
 | false=>exact h2 dl H' σ q Q R (rd.evo e) hz fun c H2 e2 z=>k c H2 (e.trans e2) z
theorem oJ(h:QPT X K a tA qA):QPT X K (.UnaryOp .Not a pos) (Ga tA) (Jp qA):=⟨GP h.h,CA h.s⟩
theorem oI(h:QPT X K a tA qA):QPW X K (.BoolOp .And [a] pos) tA qA:=⟨v8 h.h,h.s⟩
theorem lj(h:QPT X K a tA qA):QPW X K (.BoolOp .Or [a] pos) tA qA:=⟨GN h.h,h.s⟩
theorem tZ(h:QPT X K a tA qA)(h2:QPW X K (.BoolOp .And (b::rest) pos) tB qB):QPW X K (.BoolOp .And (a::b::rest) pos) (Gb tA tB) (Jw qA qB):=⟨Ae h.h h2.h,CF h.s h2.s⟩
theorem lr(h:QPT X K a tA qA)(h2:QPW X K (.BoolOp .Or (b::rest) pos) tB qB):QPW X K (.BoolOp .Or (a::b::rest) pos) (tOr tA tB) (qOr qA qB):=⟨Jy h.h h2.h,Gj h.s h2.s⟩
theorem QPW.pt(h:QPW X K e tA qA):QPT X K e tA qA:=⟨h.h.pt,h.s⟩
theorem fY(ha:QPE X K a ta qa):QPF X K (.UnaryOp .USub a pos) (tUn (rU fun i=>.int (-i)) ta) (fun q Q=>qa q fun t=>match t with | .i x=>Q (.i (-x)) | _=>False):=⟨JO F5 ha.h,fun dl H σ q Q R rd hq k=>ha.s dl H σ q _ _ rd hq fun v t F H' e r hz=>by
 split at hz
 ·obtain⟨rfl,rfl⟩:=r.r.int;exact⟨_,rfl,k _ _ [] H' e (.c (.i _)) (fun _ z=>nomatch z) List.nodup_nil hz⟩
 ·exact hz.elim⟩
def cY:QA:=fun _ Q=>Q []
def aG(qa:QE)(ql:QA):QA:=fun q Q=>qa q fun t=>ql q fun ts=>Q (t::ts)
theorem ai:qW X K [] eD cY:=⟨cH,fun dl H σ q Q R rd hq k=>k [] [] [] H (.refl rd.d) ⟨.nil,fun _ z=>nomatch z⟩ rfl (fun _ z=>nomatch z) List.nodup_nil hq⟩
theorem qW.w(h:qW X K es tl ql):QPA X K es tl ql:=⟨h.h,fun dl H σ q Q R rd hq k=>h.s dl H σ q Q R rd hq fun vs ts F H' e r l _ _ z=>k vs ts F H' e r l z⟩
theorem Rps.cons{dl:Dl}{H:Hp}{v:V}{t:T}{vs:List V}{ts:List T}{F G:List Addr}(h:Rp K dl H v t F)(r:Rps K dl H vs ts G):Rps K dl H (v::vs) (t::ts) (F++G):=⟨.cons h.r r.r,fun b hb=>(List.mem_append.mp hb).elim (h.n b) (r.n b)⟩
theorem ae(ha:QPE X K e te qe)(hr:QPA X K es tl ql)(hs:starEach (e::es) X.env =(false,eval e X.env)::starEach es X.env:=by rfl):QPA X K (e::es) (bP te tl) (aG qe ql) :=
 ⟨a8 ha.h hr.h hs,fun dl H σ q Q R rd hq k=>ha.s dl H σ q _ _ rd hq fun v t F H1 e1 r1 hz=>hr.s dl H1 σ q _ _ (rd.evo e1) hz fun vs ts G H2 e2 r2 l2 z=>k _ _ _ H2 (e1.trans e2) (.cons (r1.evo e1.d e2) r2) (by simp[l2]) z⟩
theorem af(ha:QPF X K e te qe)(hr:qW X K es tl ql)(hs:starEach (e::es) X.env =(false,eval e X.env)::starEach es X.env:=by rfl):qW X K (e::es) (bP te tl) (aG qe ql) :=
 ⟨a8 ha.h hr.h hs,fun dl H σ q Q R rd hq k=>ha.s dl H σ q _ _ rd hq fun v t F H1 e1 r1 f1 n1 hz=>hr.s dl H1 σ q _ _ (rd.evo e1) hz fun vs ts G H2 e2 r2 l2 f2 n2 z =>
  k _ _ _ H2 (e1.trans e2) (.cons (r1.evo e1.d e2) r2) (by simp[l2]) (fun b hb=>(List.mem_append.mp hb).elim (f1 b) fun hb=>e1.free (f2 b hb)) (List.nodup_append.mpr ⟨n1,n2,fun x hx y hy exy=>by
   subst exy;have z:=f2 x hy;rcases r1.r.there x hx with⟨_,e⟩ |⟨_,e⟩
   ·rw[z]at e;cases e
   ·rw[z]at e;cases e⟩) z⟩
def rK(ql:QA):QE:=fun q Q=>ql q fun ts=>Q (.t ts)
def C5(ql:QA):QE:=fun q Q=>ql q fun ts=>Q (.l ts)
theorem av{x1}(h:qW X K es tl ql)(hz:es.length<=1000:=by decide):QPF X K (.Tuple es x1 pos) (F8 tl) (rK ql):=⟨Ap h.h,fun dl H σ q Q R rd hq k=>h.s dl H σ q _ _ rd hq fun vs ts F H1 e1 r1 l1 f1 n1 z =>
 ⟨Nat.le_of_lt (aC (by omega)),fun p hp=>k _ _ F _ (e1.new hp) (r1.tup e1.d hp) f1 n1 z⟩⟩
theorem CY{x1}(h:QPA X K es tl ql)(hz:es.length<=1000:=by decide):QPE X K (.Tuple es x1 pos) (F8 tl) (rK ql):=⟨Ap h.h,fun dl H σ q Q R rd hq k=>h.s dl H σ q _ _ rd hq fun vs ts F H1 e1 r1 l1 z =>
 ⟨Nat.le_of_lt (aC (by omega)),fun p hp=>k _ _ F _ (e1.new hp) (r1.tup e1.d hp) z⟩⟩
theorem aM(h:qW X K es tl ql)(hz:es.length<=1000:=by decide):QPF X K (.List es pos) (IF tl) (C5 ql):=⟨G6 h.h,fun dl H σ q Q R rd hq k=>h.s dl H σ q _ _ rd hq fun vs ts F H1 e1 r1 l1 f1 n1 z =>
 ⟨Nat.le_of_lt (aC (by omega)),fun p hp=>k _ _ (p::F) _ (e1.new hp) (r1.lst e1.d hp) (fun b hb=>by
  rcases List.mem_cons.mp hb with e|hb
  ·rw[e];exact e1.free hp
  ·exact f1 b hb) (r1.fresh hp n1) z⟩⟩
theorem gL(h:strsOf es=some ws)(hl:es.length=ws.length:=by rfl):qW X K es (fun _ H Q=>Q (ws.map V.str) H) (fun _ Q=>Q (ws.map T.s)) :=
 ⟨wk h,fun dl H σ q Q R rd hq k=>k _ _ [] H (.refl rd.d) ⟨ik ws,fun _ z=>nomatch z⟩ (by rw[List.length_map];exact hl.symm) (fun _ z=>nomatch z) List.nodup_nil hq⟩
def qIx:Q2:=fun t u Q=>match u with
 | .i k=>match t with
  | .l xs=>∃ x,atI xs k=some x/\Q x
  | .t xs=>∃ x,atI xs k=some x/\Q x
  | .z ns=>∃ x,atI ns k=some x/\Q (.i x)
  | .zl xs=>∃ x,atI xs k=some x/\Q x
  | .s z=>z.length<=sizeLine/\∃ c,atI z.cps.toList k=some c/\Q (.s ⟨#[c]⟩)
  | _=>False
 | _=>False
theorem jq{α β:Type}{xs:List α}{ys:List β}{k:Int}{x:α}(h:atI xs k=some x)(hl:xs.length=ys.length):∃ j:Nat,xs[j]? = some x/\ixN ys.length k=some j:=by
 unfold atI at h;cases e:ixN xs.length k with
 | none=>rw[e]at h;cases h
 | some j=>rw[e]at h;exact⟨j,h,by rw[<- hl];exact e⟩
theorem mz{α:Type}{xs:List α}{k:Int}{x:α}(h:ixN xs.length k=some j)(hx:xs[j]? = some x):atI xs k=some x:=by unfold atI;rw[h];exact hx
theorem Gk:BR K (rIx K) qIx:=by
 intro dl H x y t u F G Q R D r1 r2 hq k;unfold qIx at hq
 split at hq
 ·rename_i k0;obtain⟨rfl,rfl⟩:=r2.r.int
  split at hq
  ·obtain⟨p,vs,G,rfl,rfl,h1,h2⟩:=r1.r.lst;obtain⟨z,hz,hq⟩:=hq;obtain⟨j,hj,hi⟩:=jq hz h2.len.symm;obtain⟨v,G',hv,rv,hs⟩:=h2.get hj;exact .inl ⟨p,vs,k0,v,rfl,rfl,SqL.of h1,mz hi hv,k v z G' H (.refl D) (Rp.sub rv r1.n fun b hb=>List.mem_cons_of_mem _ (hs b hb)) hq⟩
  ·obtain⟨p,vs,rfl,h1,h2⟩:=r1.r.tup;obtain⟨z,hz,hq⟩:=hq;obtain⟨j,hj,hi⟩:=jq hz h2.len.symm;obtain⟨v,G',hv,rv,hs⟩:=h2.get hj;exact .inr (.inl ⟨p,vs,k0,v,rfl,rfl,SqT.of h1,mz hi hv,k v z G' H (.refl D) (Rp.sub rv r1.n hs) hq⟩)
  ·obtain⟨p,rfl,h1,_⟩:=r1.r.scr;obtain⟨z,hz,hq⟩:=hq;refine .inl ⟨p,_,k0,.int z,rfl,rfl,h1.sq,?_,k _ _ [] H (.refl D) (.c (.i _)) hq⟩;obtain⟨j,hj,hi⟩:=jq (ys:=(_:List Int).map V.int) hz (by rw[List.length_map])
   exact mz hi (by rw[List.getElem?_map,hj];rfl)
  ·obtain⟨p,o,vs,rfl,rfl,h1,h2⟩:=r1.r.zls;obtain⟨z,hz,hq⟩:=hq;obtain⟨j,hj,hi⟩:=jq hz h2.len.symm;obtain⟨v,G',hv,rv,hs⟩:=h2.get hj;exact .inl ⟨p,vs,k0,v,rfl,rfl,.inl (.inr ⟨o,h1⟩),mz hi hv,k v z G' H (.refl D) (Rp.sub rv r1.n hs) hq⟩
  ·obtain⟨rfl,rfl⟩:=r1.r.str;obtain⟨hl,c,hc,hq⟩:=hq;exact .inr (.inr ⟨_,k0,c,rfl,rfl,hl,hc,k _ _ [] H (.refl D) (.c (.s _)) hq⟩)
  ·exact hq.elim
 ·exact hq.elim
theorem ao(ha:QPE X K a ta qa)(hb:QPE X K b tb qb)(hs:jt b:=by intro _ _;rfl)(hK:X.K=K:=by rfl):QPE X K (.Subscript a b pos) (tOp (rIx K) ta tb) (qOp qIx qa qb):=⟨by subst hK;exact rS A0 ha.h hb.h hs,oh Gk ha.s hb.s⟩
end
variable{dl:Dl}{H:Hp}{F:List Addr}{prog:Program}{A:Around}{E:Value->Shared->Prop}{items:Array Value}{Q:Value->Shared->Prop}{p2:Pos}{n:Nat}{r:List V->Hp->VK->Prop}
section
variable{X:Cx}{K:W.Frag}{a b c e:Expr}{es rest:List Expr}{ta tb tc te:TE}{qa qb qc qe:QE}{tA tB:TT}{qA qB:QT}{tl:TA}{ql:QA}{pos p:Pos}
abbrev QO:=Sq ->(Option Int->Prop)->Prop
def NP(K:W.Frag)(t:TO)(tq:QO):Prop:=∀(dl:Dl)(H:Hp)(σ:St)(q:Sq)(Q:Option Int->Prop)(R:Option Int->Hp->Prop),RdR K dl H σ q->tq q Q ->(∀ o H',Evo dl H H'->Q o->R o H')->t σ H R
structure QPO(X:Cx)(K:W.Frag)(e:Option Expr)(t:TO)(tq:QO):Prop where
 h:PO X e t
 s:NP K t tq
theorem dJ:QPO X K none vI (fun _ Q=>Q none):=⟨Dm,fun _ _ _ _ _ _ rd hq k=>k none _ (.refl rd.d) hq⟩
theorem dH(h:QPE X K e te qe):QPO X K (some e) (E2 te) (fun q Q=>qe q fun t=>match t with | .i x=>Q (some x) | _=>False):=⟨oV h.h,fun dl H σ q Q R rd hq k=>h.s dl H σ q _ _ rd hq fun v t F H' e r hz=>by
 split at hz
 ·obtain⟨rfl,rfl⟩:=r.r.int;exact⟨_,rfl,k _ H' e hz⟩
 ·exact hz.elim⟩
def cZ{α:Type}(xs:List α)(lo hi:Option Int):List α:=(xs.drop (HT.sIx xs.length 0 lo)).take (HT.sIx xs.length xs.length hi - HT.sIx xs.length 0 lo)
theorem au.cut{vs:List V}{ts:List T}(lo hi:Option Int)(h:au K dl H vs ts F):∃ G,au K dl H (g9 vs lo hi) (cZ ts lo hi) G/\G.Sublist F:=by
 unfold g9 cZ;rw[h.len];obtain⟨G,h1,s1⟩:=h.drop (HT.sIx ts.length 0 lo);obtain⟨G2,h2,s2⟩:=h1.take (HT.sIx ts.length ts.length hi - HT.sIx ts.length 0 lo);exact⟨G2,h2,s2.trans s1⟩
theorem g8{w:World}{s:Shared}{t sl:Addr}{vl vu:Value}{lo hi:Option Int}(ht:IsTup s.heap t items)(hs:s.heap.IsSliceOf sl vl vu .none)(pl:IsPart vl lo)(pu:IsPart vu hi)
  (hw:HT.sIx items.size 0 lo=0/\HT.sIx items.size items.size hi=items.size)
  (h:Q (.ref t) s):wpAny (model prog w) A (getItem (.ref t) (.ref sl)) Q E s:=by
 obtain⟨os,hos,hcs,hds⟩:=id hs;have hTs:s.TypeIs (.ref sl) "slice":=⟨os,hos,hcs⟩;have hT:=ht.typeIs;unfold getItem
 try with_reducible refine wpAny_holding ?_
 first|refine wpAny_bind (wpAny_pure ?_)|skip
 refine wpAny_bind (wpAny_sequenceKey ht.typeIs (by decide) ?_)
 refine wpAny_bind (wpAny_callSpecial?_slot (name:=Str.ofString "__getitem__") ht.typeIs PyProof.Rows.slot_tuple_getitem
  (wpAny_call_entry PyProof.Rows.slot_tuple_getitem ht.typeIs entry_tuple_getitem ?_ (args_tuple_getitem _ _)))
 show wpAny _ _ (Builtin.Tuple.tupleItemsOf (.ref t) >>= _) _ _ s;refine wpAny_bind (tupleItemsOf_ ht ?_);refine wpAny_bind (wpAny_typeOf hTs ?_);rw[if_pos (by decide)]
 refine wpAny_bind (HT.eI hs pl pu ?_);have hy:(((HT.sIx items.size 0 lo:Nat):Int)==0&&(1:Int)==1&&(HT.sIx items.size items.size hi - HT.sIx items.size 0 lo)==items.size)=true:=by
  rw[hw.1,hw.2];simp
 show wpAny _ _ (if(((HT.sIx items.size 0 lo:Nat):Int)==0&&(1:Int)==1&&(HT.sIx items.size items.size hi - HT.sIx items.size 0 lo)==items.size)=true then _ else _) _ _ s
 rw[if_pos hy];unfold Builtin.Tuple.tupleIsExact
 first
  | exact wpAny_bind (wpAny_bind (wpAny_typeOf hT (wpAny_pure (by rw[if_pos (by decide)];exact wpAny_bind (wpAny_rule (wpAny_pure ⟨_,rfl,wpAny_pure h⟩))))))
  | exact wpAny_bind (wpAny_typeOf hT (by rw[if_pos (by decide)];exact wpAny_bind (wpAny_rule (wpAny_pure ⟨_,rfl,wpAny_pure h⟩))))
def Ja(K:W.Frag):V->Option Int->Option Int->Hp->VK->Prop:=fun x lo hi H Q=>∃ a xs,x = .ref a/\SqT K H a xs /\
 ((HT.sIx xs.length 0 lo=0/\HT.sIx xs.length xs.length hi=xs.length)->Q (.ref a) H)/\(¬(HT.sIx xs.length 0 lo=0/\HT.sIx xs.length xs.length hi=xs.length)->∀ p,H p=none->Q (.ref p) (upd H p (.tup (g9 xs lo hi))))
theorem Cp:SlR X (Ja X.K):=by
 intro gV s σ H x v vl vu lo hi sl Q I rx hs pl pu h;obtain⟨a,xs,rfl,hx,q1,q2⟩:=h;by_cases hw:HT.sIx xs.length 0 lo=0/\HT.sIx xs.length xs.length hi=xs.length
 ·cases rx;obtain⟨its,r,ht,hz⟩:=I.tuple hx;have hlen:its.toArray.size=xs.length:=by rw[List.size_toArray];exact r.length.symm
  exact⟨"tuple",_,PyProof.Rows.slot_tuple_getitem.lookup,ht.typeIs,g8 ht hs pl pu (by rw[hlen];exact hw) ⟨.ref a,H,I,rfl,q1 hw⟩⟩
 ·exact Gg gV s σ H _ v vl vu lo hi sl Q I rx hs pl pu ⟨a,xs,rfl,hx,hw,q2 hw⟩
theorem yD{α:Type}{xs:List α}{lo hi:Option Int}(h:HT.sIx xs.length 0 lo=0/\HT.sIx xs.length xs.length hi=xs.length):cZ xs lo hi=xs:=by
 unfold cZ;rw[h.1,h.2];simp
def Jd(K:W.Frag):V->Option Int->Option Int->Hp->VK->Prop:=fun x lo hi H Q=>Jc K x lo hi H Q\/Ja K x lo hi H Q\/Jb x lo hi H Q
theorem ML(hK:X.K=K):SlR X (Jd K):=by subst hK;exact vL.or (Cp.or Gh)
def qSl(qe:QE)(l u:QO):QE:=fun q Q=>qe q fun t=>l q fun lo=>u q fun hi=>match t with
 | .l xs=>T.ims xs=true/\Q (.l (cZ xs lo hi))
 | .t xs=>T.ims xs=true/\Q (.t (cZ xs lo hi))
 | .z ns=>Q (.l ((cZ ns lo hi).map T.i))
 | .zl xs=>Q (.l (cZ xs lo hi))
 | .s z=>z.length<=sizeLine/\Q (.s (Txt.slice z lo hi))
 | _=>False
theorem cX{l u:Option Expr}{tlo thi:TO}{qlo qhi:QO}(he:QPE X K e te qe)(hl:QPO X K l tlo qlo)(hu:QPO X K u thi qhi)(hK:X.K=K:=by rfl):QPF X K (.Subscript e (.Slice l u none p2) pos) (tSl (Jd K) te tlo thi) (qSl qe qlo qhi) :=
 ⟨rQ (ML hK) he.h hl.h hu.h,fun dl H σ q Q R rd hq k=>he.s dl H σ q _ _ rd hq fun v t F H1 e1 r1 hz=>hl.s dl H1 σ q _ _ (rd.evo e1) hz fun lo H2 e2 hz=>hu.s dl H2 σ q _ _ ((rd.evo e1).evo e2) hz fun hi H3 e3 hz=>by
  have r3:=(r1.evo e1.d e2).evo e2.d e3;have E3:=(e1.trans e2).trans e3;have no:∀ b:Addr,b∈([]:List Addr)->H b=none:=fun _ z=>nomatch z
  split at hz
  ·obtain⟨p,vs,G,rfl,rfl,h1,h2⟩:=r3.r.lst;obtain rfl:=h2.im hz.1;obtain⟨G,h3,s3⟩:=h2.cut lo hi;obtain rfl:G = []:=List.sublist_nil.mp s3;refine .inl ⟨p,vs,rfl,SqL.of h1,fun p hp=>?_⟩
   have rs:Rps K dl H3 (g9 vs lo hi) _ []:=⟨h3,fun c hc=>nomatch hc⟩
   exact k _ _ _ _ (E3.new hp) (rs.lst e3.d hp) (fun b hb=>by rw[List.mem_singleton.mp hb];exact E3.free hp) (by simp) hz.2
  ·obtain⟨p,vs,rfl,h1,h2⟩:=r3.r.tup;obtain rfl:=h2.im hz.1;obtain⟨G,h3,s3⟩:=h2.cut lo hi;obtain rfl:G = []:=List.sublist_nil.mp s3;refine .inr (.inl ⟨p,vs,rfl,SqT.of h1,fun hw=>?_,fun _ p hp=>?_⟩)
   ·refine k _ _ _ _ E3 r3 no List.nodup_nil ?_;rw[h2.len]at hw;have hq2:=hz.2;rw[yD hw]at hq2;exact hq2
   ·have rs:Rps K dl H3 (g9 vs lo hi) _ []:=⟨h3,fun c hc=>nomatch hc⟩
    exact k _ _ _ _ (E3.new hp) (rs.tup e3.d hp) no List.nodup_nil hz.2
  ·rename_i ns _ _;obtain⟨p,rfl,h1,_⟩:=r3.r.scr;refine .inl ⟨p,_,rfl,h1.sq,fun p hp=>?_⟩
   have e:g9 (ns.map V.int) lo hi =(cZ ns lo hi).map V.int:=by unfold g9 cZ;rw[List.length_map,<- List.map_drop,<- List.map_take]
   rw[e];have rs:Rps K dl H3 ((cZ ns lo hi).map V.int) ((cZ ns lo hi).map T.i) []:=⟨lg _,fun c hc=>nomatch hc⟩
   exact k _ _ _ _ (E3.new hp) (rs.lst e3.d hp) (fun b hb=>by rw[List.mem_singleton.mp hb];exact E3.free hp) (by simp) hz
  ·obtain⟨p,o,vs,rfl,rfl,h1,h2⟩:=r3.r.zls;obtain⟨G,h3,s3⟩:=h2.cut lo hi;obtain rfl:G = []:=List.sublist_nil.mp s3;refine .inl ⟨p,vs,rfl,.inl (.inr ⟨o,h1⟩),fun p hp=>?_⟩
   have rs:Rps K dl H3 (g9 vs lo hi) _ []:=⟨h3,fun c hc=>nomatch hc⟩
   exact k _ _ _ _ (E3.new hp) (rs.lst e3.d hp) (fun b hb=>by rw[List.mem_singleton.mp hb];exact E3.free hp) (by simp) hz
  ·obtain⟨rfl,rfl⟩:=r3.r.str;exact .inr (.inr ⟨_,rfl,hz.1,k _ _ [] H3 E3 (.c (.s _)) no List.nodup_nil hz.2⟩)
  ·exact hz.elim⟩
abbrev QC:=List T ->(T->Prop)->Prop
def kA(K:W.Frag)(r:List V->Hp->VK->Prop)(rq:QC):Prop:=∀(dl:Dl)(H:Hp)(vs:List V)(ts:List T)(F:List Addr)(Q:T->Prop)(R:V->Hp->Prop),Dls dl H->Rps K dl H vs ts F->rq ts Q ->
 (∀ v z F' H',Evo dl H H'->Rp K dl H' v z F' ->(∀ b∈F',H b=none)->F'.Nodup->Q z->R v H')->r vs H R
def qCB(rq:QC)(ql:QA):QE:=fun q Q=>ql q fun ts=>rq ts Q
theorem zk{rq:QC}(h:kA K r rq)(hl:ET K n tl ql):iO K (tCB r tl) (qCB rq ql):=fun dl H σ q Q R rd hq k=>hl dl H σ q _ _ rd hq fun vs ts F H1 e1 r1 _ hz =>
 h dl H1 vs ts F Q R e1.d r1 hz fun v z F' H2 e2 r2 f2 n2 hz=>k v z F' H2 (e1.trans e2) r2 (fun b hb=>e1.free (f2 b hb)) n2 hz
theorem cm{id:String}{rq:QC}(hc:bW X (.builtin id) r)(hs:kA K r rq)(hg:Gl X x)(hm:X.mg x=none)(hv:bootBuiltins x=some (.builtin id))(ha:QPA X K (e::es) tl ql)(hn:x ≠ "__name__":=by decide)(hdb:(x ==("__debug__":Str))=false:=by decide)
  (he:starEach (e::es) X.env =(false,eval e X.env)::starEach es X.env:=by rfl) (hpl:(backTo pos (starEach es X.env)).any (·.1)=false:=by rfl):QPF X K (.Call (.Name x p) (e::es) [] pos) (tCB r tl) (qCB rq ql):=⟨lJ hc hg hm hv ha.h hn hdb he hpl,zk hs ha.s⟩
theorem aO{id:String}{rq:QC}(hc:bW X (.type id) r)(hs:kA K r rq)(hg:Gl X x)(hm:X.mg x=none)(hv:bootBuiltins x=some (.type id))(ha:QPA X K (e::es) tl ql)(hn:x ≠ "__name__":=by decide)(hdb:(x ==("__debug__":Str))=false:=by decide)
  (he:starEach (e::es) X.env =(false,eval e X.env)::starEach es X.env:=by rfl) (hpl:(backTo pos (starEach es X.env)).any (·.1)=false:=by rfl):QPF X K (.Call (.Name x p) (e::es) [] pos) (tCB r tl) (qCB rq ql):=⟨nu hc hg hm hv ha.h hn hdb he hpl,zk hs ha.s⟩
theorem Rps.one{vs:List V}{t:T}(h:Rps K dl H vs [t] F):∃ v,vs = [v]/\Rp K dl H v t F:=by
 obtain⟨r,n⟩:=h;cases r with
 | cons r1 r2 =>
  cases r2;rw[List.append_nil]at n;rw[List.append_nil];exact⟨_,rfl,r1,n⟩
theorem Rps.two{vs:List V}{t u:T}(h:Rps K dl H vs [t,u] F):∃ v w F1 F2,vs = [v,w]/\Rp K dl H v t F1/\Rp K dl H w u F2:=by
 obtain⟨r,n⟩:=h;cases r with
 | cons r1 r2 =>
  obtain⟨w,rfl,h2⟩:=Rps.one ⟨r2,fun b hb=>n b (List.mem_append_right _ hb)⟩
  exact⟨_,w,_,_,rfl,⟨r1,fun b hb=>n b (List.mem_append_left _ hb)⟩,h2⟩
def zE(K:W.Frag):List V->Hp->VK->Prop:=fun xs H Q=>(∃ p ys,xs = [.ref p]/\(SqL K H p ys\/SqT K H p ys)/\Q (.int ys.length) H)\/(∃ z,xs = [.str z]/\z.length<=sizeLine/\Q (.int z.length) H)\/∃ a kvs,xs = [V.ref a]/\H a=some (.dK kvs)/\Q (.int kvs.length) H
theorem yK(hK:X.K=K):bW X (.builtin "len") (zE K):=by subst hK;exact jo.or (qE.or yJ)
def t9:QC:=fun ts Q=>match ts with
 | [.l xs]=>Q (.i xs.length)
 | [.t xs]=>Q (.i xs.length)
 | [.z xs]=>Q (.i xs.length)
 | [.zl xs]=>Q (.i xs.length)
 | [.d xs]=>Q (.i xs.length)
 | [.s x]=>x.length<=sizeLine/\Q (.i x.length)
 | _=>False
theorem CC:kA K (zE K) t9:=by
 intro dl H vs ts F Q R D r hq k;have fin:∀ n:Nat,Q (.i n)->R (.int n) H:=fun n hq=>k _ _ [] H (.refl D) (.c (.i _)) (fun _ z=>nomatch z) List.nodup_nil hq
 unfold t9 at hq
 split at hq
 ·obtain⟨v,rfl,r'⟩:=r.one;obtain⟨p,vs,G,rfl,_,h1,h2⟩:=r'.r.lst;exact .inl ⟨p,vs,rfl,.inl (SqL.of h1),fin _ (by rw[h2.len];exact hq)⟩
 ·obtain⟨v,rfl,r'⟩:=r.one;obtain⟨p,vs,rfl,h1,h2⟩:=r'.r.tup;exact .inl ⟨p,vs,rfl,.inr (SqT.of h1),fin _ (by rw[h2.len];exact hq)⟩
 ·obtain⟨v,rfl,r'⟩:=r.one;obtain⟨p,rfl,h1,_⟩:=r'.r.scr;exact .inl ⟨p,_,rfl,.inl h1.sq,fin _ (by rw[List.length_map];exact hq)⟩
 ·obtain⟨v,rfl,r'⟩:=r.one;obtain⟨p,o,vs,rfl,_,h1,h2⟩:=r'.r.zls;exact .inl ⟨p,vs,rfl,.inl (.inl (.inr ⟨o,h1⟩)),fin _ (by rw[h2.len];exact hq)⟩
 ·obtain⟨v,rfl,r'⟩:=r.one;obtain⟨p,vs,G,rfl,_,h1,h2⟩:=r'.r.dic;exact .inr (.inr ⟨p,vs,rfl,h1,fin _ (by rw[h2.len];exact hq)⟩)
 ·obtain⟨v,rfl,r'⟩:=r.one;obtain⟨rfl,_⟩:=r'.r.str;exact .inr (.inl ⟨_,rfl,hq.1,fin _ hq.2⟩)
 ·exact hq.elim
def qI2(g:Int->Int->Int):QC:=fun ts Q=>match ts with
 | [.i a,.i b]=>Q (.i (g a b))
 | _=>False
theorem tw{g:Int->Int->Int}:kA K (fun xs H Q=>∃ i j,xs = [.int i,.int j]/\Q (.int (g i j)) H) (qI2 g):=by
 intro dl H vs ts F Q R D r hq k;unfold qI2 at hq
 split at hq
 ·obtain⟨v,w,F1,F2,rfl,r1,r2⟩:=r.two;obtain⟨rfl,_⟩:=r1.r.int;obtain⟨rfl,_⟩:=r2.r.int;exact⟨_,_,rfl,k _ _ [] H (.refl D) (.c (.i _)) (fun _ z=>nomatch z) List.nodup_nil hq⟩
 ·exact hq.elim
def Js:QC:=fun ts Q=>match ts with
 | [.i a]=>Q (.i a)
 | [.b k]=>Q (.i (if k then 1 else 0))
 | _=>False
theorem oj:kA K (fun xs H Q=>(∃ i,xs = [.int i]/\Q (.int i) H)\/∃ k,xs = [.bl k]/\Q (.int (if k then 1 else 0)) H) Js:=by
 intro dl H vs ts F Q R D r hq k;unfold Js at hq
 split at hq
 ·obtain⟨v,rfl,r'⟩:=r.one;obtain⟨rfl,_⟩:=r'.r.int;exact .inl ⟨_,rfl,k _ _ [] H (.refl D) (.c (.i _)) (fun _ z=>nomatch z) List.nodup_nil hq⟩
 ·obtain⟨v,rfl,r'⟩:=r.one;obtain⟨rfl,_⟩:=r'.r.bl;exact .inr ⟨_,rfl,k _ _ [] H (.refl D) (.c (.i _)) (fun _ z=>nomatch z) List.nodup_nil hq⟩
 ·exact hq.elim
def z5:QC:=fun ts Q=>match ts with
 | [.l xs]=>T.ims xs=true/\Q (.t xs)
 | [.t xs]=>T.ims xs=true/\Q (.t xs)
 | _=>False
theorem b6(hK:X.K=K):bW X (.type "tuple") (fun xs H Q=>∃ p ys,xs = [.ref p]/\((SqL K H p ys/\∀ l,H l=none->Q (.ref l) (upd H l (.tup ys)))\/(SqT K H p ys/\Q (.ref p) H))):=by subst hK;exact mY
theorem bX:kA K (fun xs H Q=>∃ p ys,xs = [.ref p]/\((SqL K H p ys/\∀ l,H l=none->Q (.ref l) (upd H l (.tup ys)))\/(SqT K H p ys/\Q (.ref p) H))) z5:=by
 intro dl H vs ts F Q R D r hq k;have no:∀ b:Addr,b∈([]:List Addr)->H b=none:=fun _ z=>nomatch z
 unfold z5 at hq
 split at hq
 ·obtain⟨v,rfl,r'⟩:=r.one;obtain⟨p,vs,G,rfl,rfl,h1,h2⟩:=r'.r.lst;obtain rfl:=h2.im hq.1;refine⟨p,vs,rfl,.inl ⟨SqL.of h1,fun l hl=>?_⟩⟩
  have rs:Rps K dl H vs _ []:=⟨h2,fun c hc=>nomatch hc⟩
  exact k _ _ _ _ ((Evo.refl D).new hl) (rs.tup D hl) no List.nodup_nil hq.2
 ·obtain⟨v,rfl,r'⟩:=r.one;obtain⟨p,vs,rfl,h1,h2⟩:=r'.r.tup;obtain rfl:=h2.im hq.1;exact⟨p,vs,rfl,.inr ⟨SqT.of h1,k _ _ [] H (.refl D) r' no List.nodup_nil hq.2⟩⟩
 ·exact hq.elim
def z6:QC:=fun ts Q=>match ts with
 | [.l xs]=>T.ims xs=true/\Q (.l xs)
 | [.t xs]=>T.ims xs=true/\Q (.l xs)
 | _=>False
theorem yI(hK:X.K=K):bW X (.type "list") (fun xs H Q=>∃ p ys,xs = [.ref p]/\(SqL K H p ys\/SqT K H p ys)/\∀ l,H l=none->Q (.ref l) (upd H l (.lst ys))):=by subst hK;exact qD
theorem xG:kA K (fun xs H Q=>∃ p ys,xs = [.ref p]/\(SqL K H p ys\/SqT K H p ys)/\∀ l,H l=none->Q (.ref l) (upd H l (.lst ys))) z6:=by
 intro dl H vs ts F Q R D r hq k;unfold z6 at hq
 split at hq
 ·obtain⟨v,rfl,r'⟩:=r.one;obtain⟨p,vs,G,rfl,rfl,h1,h2⟩:=r'.r.lst;obtain rfl:=h2.im hq.1;refine⟨p,vs,rfl,.inl (SqL.of h1),fun l hl=>?_⟩
  have rs:Rps K dl H vs _ []:=⟨h2,fun c hc=>nomatch hc⟩
  exact k _ _ _ _ ((Evo.refl D).new hl) (rs.lst D hl) (fun b hb=>by rw[List.mem_singleton.mp hb];exact hl) (by simp) hq.2
 ·obtain⟨v,rfl,r'⟩:=r.one;obtain⟨p,vs,rfl,h1,h2⟩:=r'.r.tup;obtain rfl:=h2.im hq.1;refine⟨p,vs,rfl,.inr (SqT.of h1),fun l hl=>?_⟩
  have rs:Rps K dl H vs _ []:=⟨h2,fun c hc=>nomatch hc⟩
  exact k _ _ _ _ ((Evo.refl D).new hl) (rs.lst D hl) (fun b hb=>by rw[List.mem_singleton.mp hb];exact hl) (by simp) hq.2
 ·exact hq.elim
def picks{α:Type}(f:T->Option α):List T->Option (List α)
 | []=>some []
 | t::r=>(f t).bind fun a=>(picks f r).map (a :: ·)
theorem au.picks{dl:Dl}{H:Hp}{α:Type}{f:T->Option α}{g:α->V}(hf:∀(v:V)(t:T)(F:List Addr)(a:α),az K dl H v t F->f t=some a->v=g a){vs:List V}{ts:List T}{F:List Addr}(h:au K dl H vs ts F):∀{bs:List α},L2.picks f ts=some bs->vs=bs.map g :=
 h.ind (M:=fun vs ts _=>∀{bs:List α},L2.picks f ts=some bs->vs=bs.map g) (fun e=>by cases e;rfl) fun v t vs ts F G h _ ih bs e=>by
  obtain⟨a,e1,e2⟩:=Option.bind_eq_some_iff.mp e;obtain⟨as,e3,rfl⟩:=Option.map_eq_some_iff.mp e2;rw[hf v t F a h e1,ih e3];rfl
def asB:T->Option Bool
 | .b x=>some x
 | _=>none
abbrev bls:List T->Option (List Bool):=picks asB
theorem au.bls{dl:Dl}{H:Hp}{vs:List V}{ts:List T}{F:List Addr}{bs:List Bool}(h:au K dl H vs ts F)(e:L2.bls ts=some bs):vs=bs.map V.bl :=
 h.picks (f:=asB) (fun v t F a h e=>by cases t <;> first |(cases e;exact h.bl.1)|cases e) e
theorem wZ(bs:List Bool):bls (bs.map T.b)=some bs:=by
 induction bs with
 | nil=>rfl
 | cons b r ih=>show(bls (r.map T.b)).map (b :: ·)=_;rw[ih];rfl
def Jx:QC:=fun ts Q=>match ts with
 | [.l xs]=>∃ bs,bls xs=some bs/\Q (.b (bs.all id))
 | _=>False
theorem nN(hK:X.K=K)(hc:X.calm=true):bW X (.builtin "all") (fun xs H Q=>∃(l:Addr)(bs:List Bool),xs = [.ref l]/\SqL K H l (bs.map V.bl)/\Q (.bl (bs.all id)) H):=by subst hK;exact BK hc
theorem vO:kA K (fun xs H Q=>∃(l:Addr)(bs:List Bool),xs = [.ref l]/\SqL K H l (bs.map V.bl)/\Q (.bl (bs.all id)) H) Jx:=by
 intro dl H vs ts F Q R D r hq k;unfold Jx at hq
 split at hq
 ·obtain⟨v,rfl,r'⟩:=r.one;obtain⟨p,vs,G,rfl,rfl,h1,h2⟩:=r'.r.lst;obtain⟨bs,hb,hq⟩:=hq;have e:=h2.bls hb;subst e;exact⟨p,bs,rfl,SqL.of h1,k _ _ [] H (.refl D) (.c (.b _)) (fun _ z=>nomatch z) List.nodup_nil hq⟩
 ·exact hq.elim
def T.tyN:T->Option String
 | .n=>some "NoneType" | .b _=>some "bool" | .i _=>some "int" | .s _=>some "str" | .l _=>some "list" | .q=>some "list" | .t _=>some "tuple" | .d _=>some "dict" | _=>none
theorem az.MH{v:V}{t:T}{n:String}(h:az K dl H v t F)(e:t.tyN=some n):hJ K H v (.type n):=by
 cases h <;> first |(cases e;constructor;assumption) |(cases e;constructor;done) |(cases e;done)
theorem gY(hK:X.K=K):bW X (.builtin "isinstance") (fun xs H Q=>∃ x T t b,xs = [x,.ty T]/\hJ K H x t/\W.kitOne K t (.type T)=some b/\Q (.bl b) H):=by subst hK;exact BJ
def Kv(a b:String):Bool:=a==b ||(a == "bool" && b == "int")
def Jr:QC:=fun ts Q=>match ts with
 | [t,.ty n]=>match t.tyN with
  | some m=>(n == "tuple" || n == "list" || n == "str" || n == "int" || n == "bool" || n == "dict")=true/\Q (.b (Kv m n))
  | none=>False
 | _=>False
theorem D4{n m:String}(h:(n == "tuple" || n == "list" || n == "str" || n == "int" || n == "bool" || n == "dict")=true)(hm:m ∈ ["NoneType","bool","int","str","list","tuple","dict"]):W.kitOne K (.type m) (.type n)=some (Kv m n):=by
 simp only[Bool.or_eq_true,beq_iff_eq]at h;simp only[List.mem_cons,List.not_mem_nil,or_false]at hm;rcases h with((((rfl|rfl)|rfl)|rfl)|rfl)|rfl <;> rcases hm with rfl|rfl|rfl|rfl|rfl|rfl|rfl <;> rfl
theorem Ci{t:T}{m:String}(h:t.tyN=some m):m ∈ ["NoneType","bool","int","str","list","tuple","dict"]:=by
 cases t <;> cases h <;> decide
theorem kF:kA K (fun xs H Q=>∃ x T t b,xs = [x,.ty T]/\hJ K H x t/\W.kitOne K t (.type T)=some b/\Q (.bl b) H) Jr:=by
 intro dl H vs ts F Q R D r hq k;unfold Jr at hq
 split at hq
 ·obtain⟨v,w,F1,F2,rfl,r1,r2⟩:=r.two;have e:=r2.r.tyy;subst e
  split at hq
  ·rename_i m em;exact⟨v,_,_,_,rfl,r1.r.MH em,D4 hq.1 (Ci em),k _ _ [] H (.refl D) (.c (.b _)) (fun _ z=>nomatch z) List.nodup_nil hq.2⟩
  ·exact hq.elim
 ·exact hq.elim
end
structure nU where
 nx:Sq->Prop
 rt:T->Prop
 bk:Sq->Prop:=fun _=>False
 ct:Sq->Prop:=fun _=>False
 ru:Sq->T->Prop:=fun _ _=>False
abbrev QS:=nU->Sq->Prop
structure Frm(dl:Dl)(H₀ H:Hp):Prop where
 k:∀ b o,H₀ b=some o->Nd dl b->NR o->H b=some o
 r:∀ a x,H₀ a=some (.room x)->∃ y,y<=x/\H a=some (.room y)
variable{H₀:Hp}
theorem Frm.evo(f:Frm dl H₀ H)(D:Dls dl H):Evo dl H₀ H:=⟨f.k,D,f.r⟩
theorem Frm.refl:Frm dl H H:=⟨fun _ _ h _ _=>h,fun _ x h=>⟨x,Int.le_refl _,h⟩⟩
variable{H':Hp}
theorem Frm.trans(f:Frm dl H₀ H)(e:Evo dl H H'):Frm dl H₀ H':=⟨fun b o h n r=>e.k b o (f.k b o h n r) n r,fun a x h=>let⟨y,hy,h1⟩:=f.r a x h;let⟨z,hz,h2⟩:=e.r a y h1;⟨z,Int.le_trans hz hy,h2⟩⟩
structure Rel(K:W.Frag)(dl:Dl)(H₀:Hp)(hs:List (V×T))(H:Hp)(σ:St)(q:Sq)(F:Nat->List Addr):Prop where
 d:Dls dl H
 g:∀(i:Nat)(x:Sl)(t:T),q[i]? = some x->x.get=some t->∃ v,σ[i]? = some (some v)/\Rp K dl H v t (F i)
 n:∀(i:Nat)(x:Sl),q[i]? = some x->x.get=none->F i = []
 z:∀(i:Nat),q.length<=i->F i = []
 o:∀(i:Nat)(t:T),q[i]? = some (.o t) ->(F i).Nodup/\(∀ b∈F i,H₀ b=none)/\(∀ j,j≠i->∀ b∈F i,b ∉ F j)
 h:∀ p∈hs,∃ Fp,Rp K dl H p.1 p.2 Fp/\∀(i:Nat)(t:T),q[i]? = some (.o t)->∀ b∈F i,b ∉ Fp
 f:Frm dl H₀ H
 l:q.length=σ.length
def gE(K:W.Frag)(dl:Dl)(H₀:Hp)(hs:List (V×T))(H:Hp)(σ:St)(q:Sq):Prop:=∃ F,Rel K dl H₀ hs H σ q F
def gC(H:Hp)(b:Addr):Prop:=(∃ xs,H b=some (.lst xs))\/∃ ks,H b=some (.dK ks)
theorem gC.no{b:Addr}(h:gC H b)(e:H b=none):False:=by
 rcases h with⟨_,h⟩ |⟨_,h⟩
 ·rw[e]at h;cases h
 ·rw[e]at h;cases h
variable{F':List Addr}
section
variable{X:Cx}{K:W.Frag}{hs:List (V×T)}{σ:St}{q:Sq}{F:Nat->List Addr}
theorem Rel.rd(r:Rel K dl H₀ hs H σ q F):RdR K dl H σ q:=⟨r.d,fun i x t h1 h2=>let⟨v,e,p⟩:=r.g i x t h1 h2;⟨v,F i,e,p⟩⟩
theorem Rel.fz(r:Rel K dl H₀ hs H σ q F){b:Addr}(h:H b=none):H₀ b=none:=by
 exact(r.f.evo r.d).free h
theorem Rel.dw(r:Rel K dl H₀ hs H σ q F){i:Nat}{b:Addr}(hb:b∈F i):gC H b:=by
 by_cases hi:i<q.length
 ·have e:q[i]? = some q[i]:=by simp[hi]
  cases ex:q[i].get with
  | none=>rw[r.n i _ e ex]at hb;cases hb
  | some t =>
   obtain⟨v,_,p⟩:=r.g i _ t e ex;exact p.r.there b hb
 ·rw[r.z i (by omega)]at hb;cases hb
theorem Rel.evo(r:Rel K dl H₀ hs H σ q F)(e:Evo dl H H'):Rel K dl H₀ hs H' σ q F where
 d:=e.d
 g:=fun i x t h1 h2=>let⟨v,e1,p⟩:=r.g i x t h1 h2;⟨v,e1,p.evo r.d e⟩
 n:=r.n
 z:=r.z
 o:=r.o
 h:=fun p hp=>let⟨Fp,h1,h2⟩:=r.h p hp;⟨Fp,h1.evo r.d e,h2⟩
 f:=r.f.trans e
 l:=r.l
def rB(F:Nat->List Addr)(i:Nat)(x:List Addr):Nat->List Addr:=fun j=>if j=i then x else F j
theorem aK{i:Nat}{x:List Addr}:rB F i x i=x:=if_pos rfl
theorem aA{i:Nat}{x:List Addr}(h:j≠i):rB F i x j=F j:=if_neg h
theorem get_set{α:Type}{xs:List α}{i:Nat}{x y:α}(h:(xs.set i x)[j]? = some y):(j=i/\y=x/\i<xs.length)\/(j≠i/\xs[j]? = some y):=by
 by_cases e:j=i
 ·subst e;rw[List.getElem?_set_self']at h;by_cases hl:j<xs.length
  ·rw[List.getElem?_eq_getElem hl]at h;exact .inl ⟨rfl,(Option.some.inj h).symm,hl⟩
  ·rw[List.getElem?_eq_none (by omega)]at h;cases h
 ·rw[List.getElem?_set_ne (fun z=>e z.symm)]at h
  exact .inr ⟨e,h⟩
theorem Rel.put{i:Nat}{v:V}{t:T}(r:Rel K dl H₀ hs H σ q F)(hi:i<q.length)(e:Evo dl H H')(hv:Rp K dl H' v t F')(hf:∀ b∈F',H b=none)(hn:F'.Nodup):Rel K dl H₀ hs H' (σ.set i (some v)) (q.set i (.o t)) (rB F i F'):=by
 have r':=r.evo e;have out:∀ j,∀ b∈F',b ∉ F j:=fun j b hb hj=>(r.dw hj).no (hf b hb)
 refine⟨e.d,fun j x u h1 h2=>?_,fun j x h1 h2=>?_,fun j hj=>?_,fun j u h1=>?_,fun p hp=>?_,r'.f,by simp[r.l]⟩
 ·rcases get_set h1 with⟨rfl,rfl,_⟩ |⟨ne,h1⟩
  ·cases h2;exact⟨v,by rw[List.getElem?_set_self (by rw[<- r.l];exact hi)],by rw[aK];exact hv⟩
  ·obtain⟨w,h3,h4⟩:=r'.g j x u h1 h2;exact⟨w,by rw[List.getElem?_set_ne (fun z=>ne z.symm)];exact h3,by rw[aA ne];exact h4⟩
 ·rcases get_set h1 with⟨rfl,rfl,_⟩ |⟨ne,h1⟩
  ·cases h2
  ·rw[aA ne];exact r.n j x h1 h2
 ·rw[List.length_set]at hj;rw[aA (by omega)]
  exact r.z j hj
 ·rcases get_set h1 with⟨rfl,_,_⟩ |⟨ne,h1⟩
  ·rw[aK];exact⟨hn,fun b hb=>r.fz (hf b hb),fun k hk b hb=>by rw[aA hk];exact out k b hb⟩
  ·rw[aA ne];obtain⟨o1,o2,o3⟩:=r.o j u h1;refine⟨o1,o2,fun k hk b hb=>?_⟩
   by_cases ek:k=i
   ·subst ek;rw[aK];exact fun z=>out j b z hb
   ·rw[aA ek];exact o3 k hk b hb
 ·obtain⟨Fp,h1,h2⟩:=r.h p hp;refine⟨Fp,h1.evo r.d e,fun j u hj b hb z=>?_⟩
  rcases get_set hj with⟨rfl,_,_⟩ |⟨ne,hj⟩
  ·rw[aK]at hb;exact gC.no (h1.r.there b z) (hf b hb)
  ·rw[aA ne]at hb;exact h2 j u hj b hb z
theorem Rel.GO{i:Nat}{v:V}{t:T}(r:Rel K dl H₀ hs H σ q F)(hi:i<q.length)(hv:Rp K dl H v t F')(hf:∀(j:Nat)(u:T),q[j]? = some (.o u)->j≠i->∀ b∈F j,b ∉ F'):Rel K dl H₀ hs H (σ.set i (some v)) (q.set i (.r t)) (rB F i F'):=by
 refine⟨r.d,fun j x u h1 h2=>?_,fun j x h1 h2=>?_,fun j hj=>?_,fun j u h1=>?_,fun p hp=>?_,r.f,by simp[r.l]⟩
 ·rcases get_set h1 with⟨rfl,rfl,_⟩ |⟨ne,h1⟩
  ·cases h2;exact⟨v,by rw[List.getElem?_set_self (by rw[<- r.l];exact hi)],by rw[aK];exact hv⟩
  ·obtain⟨w,h3,h4⟩:=r.g j x u h1 h2;exact⟨w,by rw[List.getElem?_set_ne (fun z=>ne z.symm)];exact h3,by rw[aA ne];exact h4⟩
 ·rcases get_set h1 with⟨rfl,rfl,_⟩ |⟨ne,h1⟩
  ·cases h2
  ·rw[aA ne];exact r.n j x h1 h2
 ·rw[List.length_set]at hj;rw[aA (by omega)]
  exact r.z j hj
 ·rcases get_set h1 with⟨rfl,e,_⟩ |⟨ne,h1⟩
  ·cases e
  ·rw[aA ne];obtain⟨o1,o2,o3⟩:=r.o j u h1;refine⟨o1,o2,fun k hk b hb=>?_⟩
   have z:=hf j u h1 ne b hb;by_cases ek:k=i
   ·subst ek;rw[aK];exact z
   ·rw[aA ek];exact o3 k hk b hb
 ·obtain⟨Fp,h1,h2⟩:=r.h p hp;refine⟨Fp,h1,fun j u hj b hb z=>?_⟩
  rcases get_set hj with⟨rfl,e,_⟩ |⟨ne,hj⟩
  ·cases e
  ·rw[aA ne]at hb;exact h2 j u hj b hb z
theorem Rel.hold{v:V}{t:T}(r:Rel K dl H₀ hs H σ q F)(hv:Rp K dl H v t F')(hf:∀(j:Nat)(u:T),q[j]? = some (.o u)->∀ b∈F j,b ∉ F'):Rel K dl H₀ ((v,t)::hs) H σ q F :=
 ⟨r.d,r.g,r.n,r.z,r.o,fun p hp=>by
  rcases List.mem_cons.mp hp with e|hp
  ·subst e;exact⟨F',hv,hf⟩
  ·exact r.h p hp,r.f,r.l⟩
theorem Rel.down{i:Nat}{t:T}(r:Rel K dl H₀ hs H σ q F)(hi:q[i]? = some (.o t)):Rel K dl H₀ hs H σ (q.set i (.r t)) F:=by
 refine⟨r.d,fun j x u h1 h2=>?_,fun j x h1 h2=>?_,fun j hj=>r.z j (by rw[List.length_set]at hj;exact hj),fun j u h1=>?_,fun p hp=>?_,r.f,by simp[r.l]⟩
 ·rcases get_set h1 with⟨rfl,rfl,_⟩ |⟨ne,h1⟩
  ·cases h2;exact r.g j _ t hi rfl
  ·exact r.g j x u h1 h2
 ·rcases get_set h1 with⟨rfl,rfl,_⟩ |⟨ne,h1⟩
  ·cases h2
  ·exact r.n j x h1 h2
 ·rcases get_set h1 with⟨rfl,e,_⟩ |⟨ne,h1⟩
  ·cases e
  ·exact r.o j u h1
 ·obtain⟨Fp,h1,h2⟩:=r.h p hp;refine⟨Fp,h1,fun j u hj=>?_⟩
  rcases get_set hj with⟨rfl,e,_⟩ |⟨ne,hj⟩
  ·cases e
  ·exact h2 j u hj
theorem Rel.write{i:Nat}{v:V}{t t':T}{p:Addr}{o:HO}(r:Rel K dl H₀ hs H σ q F)(hi:q[i]? = some (.o t))(hv:σ[i]? = some (some v))(hp:p∈F i)(ho:∀ xs,H p=some (.lst xs)->∃ ys,o = .lst ys)(hr:Rp K dl (upd H p o) v t' F')(hn:F'.Nodup)
  (hf:∀ b∈F',b∈F i\/(H₀ b=none/\(∀ j,b ∉ F j)/\∀ w u Fp,Rp K dl H w u Fp ->(w,u)∈hs->b ∉ Fp)):Rel K dl H₀ hs (upd H p o) σ (q.set i (.o t')) (rB F i F'):=by
 obtain⟨o1,o2,o3⟩:=r.o i t hi;have hil:i<q.length:=(List.getElem?_eq_some_iff.mp hi).1;obtain⟨v',hv',rp⟩:=r.g i _ t hi rfl;have pn:Nd dl p:=rp.n p hp;have pth:=r.dw hp;have tf:TF H (upd H p o):=⟨fun a vs h=>(by
  rw[aj];exact h;intro z;subst z;rcases pth with⟨_,e⟩ |⟨_,e⟩ <;> rw[h]at e <;> cases e),fun a ob u h=>(by
  rw[aj];exact h;intro z;subst z;rcases pth with⟨_,e⟩ |⟨_,e⟩ <;> rw[h]at e <;> cases e),fun a φ h=>(by
  rw[aj];exact h;intro z;subst z;rcases pth with⟨_,e⟩ |⟨_,e⟩ <;> rw[h]at e <;> cases e),fun a xs h=>(by
  by_cases z:a=p
  ·subst z;obtain⟨ys,e⟩:=ho xs h;exact⟨ys,by rw[aw,e]⟩
  ·exact⟨xs,by rw[aj z];exact h⟩),fun a x h=>⟨x,Int.le_refl _,by
  rw[aj];exact h;intro z;subst z;rcases pth with⟨_,e⟩ |⟨_,e⟩ <;> rw[h]at e <;> cases e⟩⟩
 have st:∀{w:V}{u:T}{Fw:List Addr},Rp K dl H w u Fw->p ∉ Fw->Rp K dl (upd H p o) w u Fw:=fun{w u Fw} h np =>
  ⟨h.r.cD tf (fun _ z=>z) fun b hb ob e=>(by
   have ne:b≠p:=by
    intro z;subst z;exact np hb
   rw[aj ne];exact e),h.n⟩
 refine⟨fun d hd=>(r.d d hd).other (pn d hd).1 (pn d hd).2,fun j x u h1 h2=>?_,fun j x h1 h2=>?_,fun j hj=>?_,fun j u h1=>?_,fun w hw=>?_,⟨fun b ob hb nb nr=>?_,fun b x hb=>?_⟩,by simp[r.l]⟩
 ·rcases get_set h1 with⟨rfl,rfl,_⟩ |⟨ne,h1⟩
  ·cases h2;exact⟨v,hv,by rw[aK];exact hr⟩
  ·obtain⟨w,h3,h4⟩:=r.g j x u h1 h2;exact⟨w,h3,by rw[aA ne];exact st h4 (o3 j ne p hp)⟩
 ·rcases get_set h1 with⟨rfl,rfl,_⟩ |⟨ne,h1⟩
  ·cases h2
  ·rw[aA ne];exact r.n j x h1 h2
 ·rw[List.length_set]at hj;rw[aA (by omega)]
  exact r.z j hj
 ·rcases get_set h1 with⟨rfl,e,_⟩ |⟨ne,h1⟩
  ·rw[aK];refine⟨hn,fun b hb=>?_,fun k hk b hb=>?_⟩
   ·rcases hf b hb with z|z
    ·exact o2 b z
    ·exact z.1
   ·rw[aA hk];rcases hf b hb with z|z
    ·exact o3 k hk b z
    ·exact z.2.1 k
  ·rw[aA ne];obtain⟨p1,p2,p3⟩:=r.o j u h1;refine⟨p1,p2,fun k hk b hb=>?_⟩
   by_cases ek:k=i
   ·subst ek;rw[aK];intro z;rcases hf b z with z|z
    ·exact o3 j ne b z hb
    ·exact z.2.1 j hb
   ·rw[aA ek];exact p3 k hk b hb
 ·obtain⟨Fp,h1,h2⟩:=r.h w hw;refine⟨Fp,st h1 (h2 i t hi p hp),fun j u hj b hb z=>?_⟩
  rcases get_set hj with⟨rfl,e,_⟩ |⟨ne,hj⟩
  ·rw[aK]at hb;rcases hf b hb with y|y
   ·exact h2 j t hi b y z
   ·exact y.2.2 w.1 w.2 Fp h1 hw z
  ·rw[aA ne]at hb;exact h2 j u hj b hb z
 ·rw[aj]
  ·exact r.f.k b ob hb nb nr
  ·intro z;subst z;rw[o2 b hp]at hb;cases hb
 ·obtain⟨y,hy,e⟩:=r.f.r b x hb;refine⟨y,hy,?_⟩;rw[aj]
  ·exact e
  ·intro z;subst z;rw[o2 b hp]at hb;cases hb
end
structure Iq(K:W.Frag)(dl:Dl)(H₀:Hp)(hs:List (V×T))(Dq:nU)(D:Ends):Prop where
 nx:∀ H σ q,gE K dl H₀ hs H σ q->Dq.nx q->D.nx σ H
 bk:∀ H σ q,gE K dl H₀ hs H σ q->Dq.bk q->D.bk σ H
 ct:∀ H σ q,gE K dl H₀ hs H σ q->Dq.ct q->D.ct σ H
 rt:∀ v t F H,Dls dl H->Rp K dl H v t F ->(∀ b∈F,H₀ b=none)->F.Nodup->Frm dl H₀ H->Dq.rt t->D.rt v H
 ru:∀ H σ q F0 v t F,Rel K dl H₀ hs H σ q F0->Rp K dl H v t F ->(∀ b∈F,H₀ b=none)->F.Nodup ->(∀ j,∀ b∈F,b ∉ F0 j)->Dq.ru q t->D.rt v H
def gD(K:W.Frag)(ts:TS)(qs:QS):Prop:=∀(dl:Dl)(H₀:Hp)(hs:List (V×T))(H:Hp)(σ:St)(q:Sq)(Dq:nU)(D:Ends),gE K dl H₀ hs H σ q->qs Dq q->Iq K dl H₀ hs Dq D->ts D σ H
structure QPS(X:Cx)(K:W.Frag)(st:Stmt)(ts:TS)(qs:QS):Prop where
 h:PS X st ts
 s:gD K ts qs
structure mE(X:Cx)(K:W.Frag)(st:List Stmt)(ts:TS)(qs:QS):Prop where
 h:PSs X st ts
 s:gD K ts qs
variable{q:Sq}{pos':Pos}
section
variable{X:Cx}{K:W.Frag}{st:Stmt}{rest sa sb:List Stmt}{t u:TS}{qt qu:QS}{e c:Expr}{te:TE}{qe:QE}{tc:TT}{qc:QT}{pos:Pos}
def vZ:QS:=fun D q=>D.nx q
def oP(t u:QS):QS:=fun D q=>t { D with nx:=u D } q
theorem aH:mE X K [] E4 vZ:=⟨wb,fun _ _ _ H σ q _ _ r hq E=>E.nx H σ q r hq⟩
theorem ag(h1:QPS X K st t qt)(h2:mE X K rest u qu):mE X K (st::rest) (IE t u) (oP qt qu):=⟨bA h1.h h2.h,fun dl H₀ hs H σ q Dq D r hq E =>
 h1.s dl H₀ hs H σ q _ _ r hq ⟨fun H σ q r' hq'=>h2.s dl H₀ hs H σ q _ _ r' hq' E,E.bk,E.ct,E.rt,E.ru⟩⟩
theorem aq(h1:QPS X K st t qt):mE X K [st] t qt:=⟨ff h1.h,h1.s⟩
theorem aD(he:QPF X K e te qe):QPS X K (.Return (some e) pos) (Ck te) (fun D q=>qe q D.rt):=⟨jE he.h,fun dl H₀ hs H σ q Dq D ⟨F,r⟩ hq E =>
 he.s dl H σ q _ _ r.rd hq fun v t F' H' e1 r1 f1 n1 hz=>E.rt v t F' H' e1.d r1 (fun b hb=>r.fz (f1 b hb)) n1 (r.evo e1).f hz⟩
theorem kJ{i:Nat}(he:PE X e (a9 i)):QPS X K (.Return (some e) pos) (Ck (a9 i)) (fun D q=>match q[i]? with|some (.o t)=>D.rt t | _=>False):=⟨jE he,fun dl H₀ hs H σ q Dq D ⟨F,r⟩ hq E=>by
 split at hq
 ·rename_i t e1;obtain⟨v,hv,rp⟩:=r.g i _ t e1 rfl;obtain⟨o1,o2,o3⟩:=r.o i t e1;exact⟨v,hv,E.rt v t (F i) H r.d rp o2 o1 r.f hq⟩
 ·exact hq.elim⟩
def C6(c:QT)(t u:QS):QS:=fun D q=>c q fun b=>if b=true then t D q else u D q
theorem a7(hc:QPT X K c tc qc)(ha:mE X K sa t qt)(hb:mE X K sb u qu):QPS X K (.If c sa sb pos) (IG tc t u) (C6 qc qt qu):=⟨Fi hc.h ha.h hb.h,fun dl H₀ hs H σ q Dq D ⟨F,r⟩ hq E =>
 hc.s dl H σ q _ _ r.rd hq fun b H' e1 hz=>by
  cases b with
  | true=>exact ha.s dl H₀ hs H' σ q Dq D ⟨F,r.evo e1⟩ hz E
  | false=>exact hb.s dl H₀ hs H' σ q Dq D ⟨F,r.evo e1⟩ hz E⟩
def t7(i:Nat)(qe:QE):QS:=fun D q=>qe q fun t=>D.nx (q.set i (.o t))
theorem Rel.C8{hs:List (V×T)}{σ:St}{F:Nat->List Addr}{i:Nat}{v:V}{t:T}(r:Rel K dl H₀ hs H σ q F)(e:Evo dl H H')(hv:Rp K dl H' v t F')(hf:∀ b∈F',H b=none)(hn:F'.Nodup):gE K dl H₀ hs H' (σ.set i (some v)) (q.set i (.o t)):=by
 by_cases hi:i<q.length
 ·exact⟨_,r.put hi e hv hf hn⟩
 ·have hl:=r.l;rw[List.set_eq_of_length_le (by omega),List.set_eq_of_length_le (by omega)]
  exact⟨F,r.evo e⟩
theorem vM{i:Nat}(he:iO K te qe):gD K (e7 te (dO i)) (t7 i qe):=fun dl H₀ hs H σ q Dq D ⟨F,r⟩ hq E=>he dl H σ q _ _ r.rd hq fun v t F' H' e1 r1 f1 n1 hz=>E.nx H' _ _ (r.C8 e1 r1 f1 n1) hz
theorem Gx{i:Nat}(hN:X.N.Nodup)(hi:X.N[i]? = some x)(hx:Loc X.env.scope x)(he:QPF X K e te qe)(hs:swapsWith e (some (.Name x pos')) pos.line X.env=pure false:=by rfl)(hf:X.fn x=true\/X.env.scope.names.lookup x=some .local:=by first|exact .inl rfl|exact .inr rfl|assumption) :
  QPS X K (.Assign [.Name x pos'] e pos) (e7 te (dO i)) (t7 i qe):=⟨f6 hN hi hx he.h hs hf,vM he.s⟩
inductive Lx(tb:QS)(D:nU)(W:Nat->Sq->Prop)(m:Nat)(q:Sq):Prop
 | mk(N:Sq->Prop)(less:∀ q',N q'->∃ m',m'<m/\W m' q')(body:tb { D with nx:=N,ct:=N,bk:=D.nx } q)
inductive WhileI(c:QT)(tb:QS)(D:nU)(q:Sq):Prop
 | mk (W:Nat->Sq->Prop) (h0:∃ m,W m q) (turn:∀ m q,W m q->c q fun b=>if b=true then Lx tb D W m q else D.nx q)
def GF(c:QT)(tb:QS):QS:=fun D q=>WhileI c tb D q
theorem rH(hp:PassesOwn (model X.prog X.w) X.A X.env X.xe)(hc:QPT X K c tc qc)(hb:mE X K rest t qt):QPS X K (.While c rest [] pos) (sY tc t) (GF qc qt):=⟨rN hp hc.h hb.h,fun dl H₀ hs H σ q Dq D r hq E=>by
 obtain⟨W,⟨m0,w0⟩,turn⟩:=hq;refine⟨fun m σ H=>∃ q,gE K dl H₀ hs H σ q/\W m q,⟨m0,q,r,w0⟩,?_⟩
 rintro m σ H ⟨q,⟨F,r⟩,w⟩
 refine hc.s dl H σ q _ _ r.rd (turn m q w) fun b H1 e1 hz=>?_
 cases b with
 | false=>exact E.nx H1 σ q ⟨F,r.evo e1⟩ hz
 | true =>
  obtain⟨N,hN,hz⟩:=hz;refine⟨fun σ' H'=>∃ q',gE K dl H₀ hs H' σ' q'/\N q',fun σ' H' ⟨q',r',n'⟩=>?_,?_⟩
  ·obtain⟨m',hm,w'⟩:=hN q' n';exact⟨m',hm,q',r',w'⟩
  ·exact hb.s dl H₀ hs H1 σ q _ _ ⟨F,r.evo e1⟩ hz ⟨fun H σ q r n=>⟨q,r,n⟩,fun H σ q r n=>E.nx H σ q r n,fun H σ q r n=>⟨q,r,n⟩,E.rt,E.ru⟩⟩
end
abbrev PSp:=List T ->(T->Prop)->Prop
def spQ(K:W.Frag)(ps:PSp):Sp:=fun vs H Q _=>∃(dl:Dl)(ts:List T)(F:List Addr)(Qp:T->Prop),Dls dl H/\Rps K dl H vs ts F/\ps ts Qp /\
 ∀ v t F' H',Evo dl H H'->Rp K dl H' v t F' ->(∀ b∈F',H b=none)->F'.Nodup->Qp t->Q v H'
section
variable{X:Cx}{K:W.Frag}{e:Expr}{es:List Expr}{tl:TA}{ql:QA}{pos p:Pos}{k:Nat}{f:Addr}{fd:FuncData}{prs:List Str}{ps:PSp}
def eM(ps:PSp)(ql:QA):QE:=fun q Q=>ql q fun ts=>ps ts Q
theorem zo(ha:ET K n tl ql):iO K (j7 (spQ K ps) [] E0 tl) (eM ps ql):=fun dl H σ q Q R rd hq k=>ha dl H σ q _ _ rd hq fun vs ts F H1 e1 r1 _ hz=>by
 show spQ K ps (vs ++ []) H1 R E0;rw[List.append_nil];exact⟨dl,ts,F,Q,e1.d,r1,hz,fun v t F' H' e r f n hz=>k v t F' H' (e1.trans e) r (fun b hb=>e1.free (f b hb)) n hz⟩
theorem C4(F:bc X.prog X.w X.K X.mg X.base CX0 k f fd prs (spQ K ps))(hr:cn k X.A)(hg:Gl X x)(hm:X.mg x=some (.ref f))(hk:W.keepIn X.K (.ref f)=true)(hb:Binds X.K fd prs [])(ha:QPA X K (e::es) tl ql)
  (hdb:(x ==("__debug__":Str))=false:=by decide) (he:starEach (e::es) X.env =(false,eval e X.env)::starEach es X.env:=by rfl) (hpl:(backTo pos (starEach es X.env)).any (·.1)=false:=by rfl) :
  QPF X K (.Call (.Name x p) (e::es) [] pos) (j7 (spQ K ps) [] E0 tl) (eM ps ql):=⟨kM F hr hg hm hk hb .nil rV ha.h hdb he hpl,zo ha.s⟩
end
theorem nh{K:W.Frag}{vs:List V}{ts:List T}(D:Dls dl H)(r:Rps K dl H vs ts F)(hn:vs.length<=n):gE K dl H [] H (vs.map some++List.replicate (n - vs.length) none) (ts.map Sl.r++List.replicate (n - vs.length) .no):=by
 have hl:=r.r.len;have main:∀{vs:List V}{ts:List T}{F:List Addr},au K dl H vs ts F ->(∀ b∈F,Nd dl b)->∃ Fs:Nat->List Addr,(∀(i:Nat)(t:T),ts[i]? = some t->∃ v,vs[i]? = some v/\Rp K dl H v t (Fs i))/\∀ i,ts.length<=i->Fs i = []:=by
  intro vs ts F h
  induction ts generalizing vs F with
  | nil=>intro _;exact⟨fun _=>[],fun i t e=>by simp at e,fun _ _=>rfl⟩
  | cons t ts ih =>
   cases h with
   | @cons v0 _ vs0 _ F1 G1 h1 h2 =>
    intro hn;obtain⟨Fs,g1,g2⟩:=ih h2 fun b hb=>hn b (List.mem_append_right _ hb)
    refine⟨fun i=>match i with | 0=>F1|i+1=>Fs i,fun i u e=>?_,fun i hi=>?_⟩
    ·cases i with
     | zero =>
      simp at e;subst e;exact⟨_,by simp,h1,fun b hb=>hn b (List.mem_append_left _ hb)⟩
     | succ i =>
      obtain⟨v,e1,e2⟩:=g1 i u (by simpa using e)
      exact⟨v,by simpa using e1,e2⟩
    ·cases i with
     | zero=>simp at hi
     | succ i=>exact g2 i (by simpa using hi)
 obtain⟨Fs,g1,g2⟩:=main r.r r.n;have lk:∀(i:Nat)(y:Sl),(ts.map Sl.r++List.replicate (n - vs.length) Sl.no)[i]? = some y ->(∃ t,ts[i]? = some t/\y = .r t)\/(ts.length<=i/\y = .no):=fun i y h=>by
  by_cases hi:i<ts.length
  ·rw[List.getElem?_append_left (by simpa using hi),List.getElem?_map,List.getElem?_eq_getElem hi]at h
   exact .inl ⟨ts[i],by simp,(Option.some.inj h).symm⟩
  ·rw[List.getElem?_append_right (by simpa using hi),List.getElem?_replicate]at h
   split at h
   ·exact .inr ⟨by omega,(Option.some.inj h).symm⟩
   ·cases h
 refine⟨Fs,D,fun i y t h1 h2=>?_,fun i y h1 h2=>?_,fun i hi=>?_,fun i t h1=>?_,fun p hp=>(by cases hp),.refl,by simp[hl]⟩
 ·rcases lk i y h1 with⟨u,e,rfl⟩ |⟨_,rfl⟩
  ·cases h2;obtain⟨v,e1,e2⟩:=g1 i t e;refine⟨v,?_,e2⟩;have hi:i<vs.length:=(List.getElem?_eq_some_iff.mp e1).1;rw[List.getElem?_append_left (by simpa using hi),List.getElem?_map,e1]
   rfl
  ·cases h2
 ·rcases lk i y h1 with⟨u,e,rfl⟩ |⟨hi,rfl⟩
  ·cases h2
  ·exact g2 i hi
 ·refine g2 i ?_;simp at hi;omega
 ·rcases lk i _ h1 with⟨u,e,z⟩ |⟨_,z⟩ <;> cases z
variable{P:Program}{mg:Str->Option Value}{base:Heap}{qual:Str}{st:Stmt}{fd:FuncData}{N:List Str}{ps:List Str}
theorem Fun.okQ{w:World}{K:W.Frag}{f:Addr}{k:Nat}{psp:PSp}(F:Fun K x qual st f fd)(S:aJ N ps (ax st))(len:∀ ts Q,psp ts Q->ts.length=ps.length)
  (ji:∀(cdv:Value)(A:Around)(outer:List Env)(s:Shared)(H:Hp)(E:XK),cn k (A.deeper (envOfC qual (ax st) s.heap.objs.size f cdv)) ->
   ∃ t qs,mE (mX CX0 P w K mg base N qual (ax st) f cdv A outer s H E).nox K (bD st) t qs/\∀ ts Q,psp ts Q->qs { nx:=fun _=>Q .n,rt:=Q } (ts.map Sl.r++List.replicate (N.length - ts.length) .no)):bc P w K mg base CX0 (k+1) f fd ps (spQ K psp):=by
 have hPN:ps.length<=N.length:=by have:=congrArg List.length S.pre;rw[List.length_take]at this;omega
 refine F.ok S (fun vs H Q E h=>?_) (fun cdv A outer s H vs Q E hr h=>?_)
 ·obtain⟨dl,ts,F,Qp,_,r,h,_⟩:=h;rw[r.r.len];exact len ts Qp h
 ·obtain⟨dl,ts,Fp,Qp,D,r,h,fin⟩:=h;obtain⟨t,qs,hb,hq⟩:=ji cdv A outer s H E hr;refine⟨t,hb.h,?_⟩;have hlen:=len ts Qp h;have hl:=r.r.len;have z:=hq ts Qp h;have R:=nh (n:=N.length) D r (by omega)
  rw[<- hl]at z;refine hb.s dl H [] H _ _ _ _ R z ⟨fun H' σ q ⟨F,r'⟩ hz=>?_,fun _ _ _ _ hz=>hz.elim,fun _ _ _ _ hz=>hz.elim,fun v t F H' D' r' f' n' fr hz=>?_,fun _ _ _ _ _ _ _ _ _ _ _ _ z=>z.elim⟩
  ·exact fin .non .n [] H' (r'.f.evo r'.d) ⟨.n,fun _ z=>nomatch z⟩ (fun _ z=>nomatch z) List.nodup_nil hz
  ·exact fin v t F H' (fr.evo D') r' f' n' hz
structure qX(K:W.Frag)(dl:Dl)(J:It)(xs:List T)(hv:List (V×T)):Prop where
 go:∀(H:Hp)(i:Nat),Dls dl H ->(∀ p∈hv,∃ F,Rp K dl H p.1 p.2 F)->i<xs.length->J.go i H
 yld:∀(H:Hp)(i:Nat)(x:T)(fp:V×T->List Addr)(v:V)(H':Hp),Dls dl H ->(∀ p∈hv,Rp K dl H p.1 p.2 (fp p))->xs[i]? = some x->J.yld i H v H'->Evo dl H H'/\∃ F,Rp K dl H' v x F/\∀ b∈F,H b=none\/∃ p∈hv,b∈fp p
 stop:∀(H:Hp),Dls dl H ->(∀ p∈hv,∃ F,Rp K dl H p.1 p.2 F)->J.stop xs.length H
variable{lo:Int}
section
variable{X:Cx}{K:W.Frag}
theorem jh{xs:List T}:qX K dl (Itl K a) xs [(.ref a,.l xs)] where
 go:=fun H i D h hi=>by
  obtain⟨F,r⟩:=h _ (List.mem_singleton.mpr rfl);obtain⟨p,vs,G,e,_,h1,h2⟩:=r.r.lst;cases e;exact⟨vs,vs[i]'(by rw[h2.len];exact hi),SqL.of h1,by simp[h2.len,hi]⟩
 yld:=fun H i x fp v H' D h hx y=>by
  have r:=h _ (List.mem_singleton.mpr rfl);obtain⟨p,vs,G,e,eF,h1,h2⟩:=r.r.lst;cases e;obtain⟨rfl,y⟩:=y;obtain⟨w,G',hw,rw',hs⟩:=h2.get hx;have e2:=y vs (SqL.of h1);rw[hw]at e2;cases e2;have sub:∀ b∈G',b∈fp (V.ref a,T.l xs):=fun b hb=>by
   rw[eF];exact List.mem_cons_of_mem _ (hs b hb)
  exact⟨.refl D,G',⟨rw',fun b hb=>r.n b (sub b hb)⟩,fun b hb=>.inr ⟨_,List.mem_singleton.mpr rfl,sub b hb⟩⟩
 stop:=fun H D h=>by
  obtain⟨F,r⟩:=h _ (List.mem_singleton.mpr rfl);obtain⟨p,vs,G,e,_,h1,h2⟩:=r.r.lst;cases e;exact⟨vs,SqL.of h1,by rw[h2.len];exact Nat.le_refl _⟩
theorem FD{xs:List T}:qX K dl (Itl K a) xs [(.ref a,.zl xs)] where
 go:=fun H i D h hi=>by
  obtain⟨F,r⟩:=h _ (List.mem_singleton.mpr rfl);obtain⟨p,o,vs,e,_,h1,h2⟩:=r.r.zls;cases e;exact⟨vs,vs[i]'(by rw[h2.len];exact hi),.inl (.inr ⟨o,h1⟩),by simp[h2.len,hi]⟩
 yld:=fun H i x fp v H' D h hx y=>by
  have r:=h _ (List.mem_singleton.mpr rfl);obtain⟨p,o,vs,e,eF,h1,h2⟩:=r.r.zls;cases e;obtain⟨rfl,y⟩:=y;obtain⟨w,G',hw,rw',hs⟩:=h2.get hx;have e2:=y vs (.inl (.inr ⟨o,h1⟩));rw[hw]at e2;cases e2;exact⟨.refl D,G',⟨rw',fun b hb=>nomatch hs b hb⟩,fun b hb=>nomatch hs b hb⟩
 stop:=fun H D h=>by
  obtain⟨F,r⟩:=h _ (List.mem_singleton.mpr rfl);obtain⟨p,o,vs,e,_,h1,h2⟩:=r.r.zls;cases e;exact⟨vs,.inl (.inr ⟨o,h1⟩),by rw[h2.len];exact Nat.le_refl _⟩
theorem uR{xs:List T}:qX K dl (Itt K a) xs [(.ref a,.t xs)] where
 go:=fun H i D h hi=>by
  obtain⟨F,r⟩:=h _ (List.mem_singleton.mpr rfl);obtain⟨p,vs,e,h1,h2⟩:=r.r.tup;cases e;exact⟨vs,vs[i]'(by rw[h2.len];exact hi),SqT.of h1,by simp[h2.len,hi]⟩
 yld:=fun H i x fp v H' D h hx y=>by
  have r:=h _ (List.mem_singleton.mpr rfl);obtain⟨p,vs,e,h1,h2⟩:=r.r.tup;cases e;obtain⟨rfl,y⟩:=y;obtain⟨w,G',hw,rw',hs⟩:=h2.get hx;have e2:=y vs (SqT.of h1);rw[hw]at e2;cases e2;exact⟨.refl D,G',⟨rw',fun b hb=>r.n b (hs b hb)⟩,fun b hb=>.inr ⟨_,List.mem_singleton.mpr rfl,hs b hb⟩⟩
 stop:=fun H D h=>by
  obtain⟨F,r⟩:=h _ (List.mem_singleton.mpr rfl);obtain⟨p,vs,e,h1,h2⟩:=r.r.tup;cases e;exact⟨vs,SqT.of h1,by rw[h2.len];exact Nat.le_refl _⟩
theorem A2:qX K dl (Itr lo n) ((List.range n).map fun i=>.i (lo+(i:Nat))) [] where
 go:=fun H i D h hi=>by
  show i<n;simpa using hi
 yld:=fun H i x fp v H' D h hx y=>by
  obtain⟨rfl,rfl⟩:=y;rw[List.getElem?_map]at hx;cases e:(List.range n)[i]? with
  | none=>rw[e]at hx;cases hx
  | some j =>
   rw[e]at hx;have hj:j=i:=by
    have:=List.getElem?_eq_some_iff.mp e
    obtain⟨h1,h2⟩:=this;simp at h2;exact h2.symm
   subst hj;cases hx;exact⟨.refl D,[],.c (.i _),fun _ z=>nomatch z⟩
 stop:=fun H D h=>by show n<=_;simp
abbrev QI:=Sq ->(List T->Prop)->Prop
def Ly(K:W.Frag)(wi:TI)(iq:QI):Prop:=∀(dl:Dl)(H:Hp)(σ:St)(q:Sq)(Q:List T->Prop)(R:It->Hp->Prop),RdR K dl H σ q->iq q Q ->
 (∀ xs J hv H',Evo dl H H'->qX K dl J xs hv ->(∀ p∈hv,∃ F,Rp K dl H' p.1 p.2 F)->Q xs->R J H')->wi σ H R
structure QPI(X:Cx)(K:W.Frag)(tg iter:Expr)(wi:TI)(iq:QI):Prop where
 h:PI X tg iter wi
 s:Ly K wi iq
abbrev QJ:=Sq ->(List T->Sq->Prop)->Prop
def NQ(K:W.Frag)(wi:TI)(iq:QJ):Prop:=∀(dl:Dl)(H₀:Hp)(hs:List (V×T))(H:Hp)(σ:St)(q:Sq)(Q:List T->Sq->Prop)(R:It->Hp->Prop),gE K dl H₀ hs H σ q->iq q Q ->
 (∀ xs J hv H' q',gE K dl H₀ (hv++hs) H' σ q'->qX K dl J xs hv->Q xs q'->R J H')->wi σ H R
structure QPJ(X:Cx)(K:W.Frag)(tg iter:Expr)(wi:TI)(iq:QJ):Prop where
 h:PI X tg iter wi
 s:NQ K wi iq
variable{tg e a b:Expr}{te ta tb:TE}{qe qa qb:QE}{tl:TA}{ql:QA}{pos p:Pos}
theorem i7(hK:X.K=K)(h:PE X e te):PI X tg e (nG K te):=by subst hK;exact kL h
theorem oW(hK:X.K=K)(h:PE X e te):PI X tg e (A4 K te):=by subst hK;exact GZ h
def asL(qe:QE):QI:=fun q Q=>qe q fun t=>match t with | .l xs=>Q xs | .zl xs=>Q xs | _=>False
def asT(qe:QE):QI:=fun q Q=>qe q fun t=>match t with | .t xs=>Q xs | _=>False
theorem cG(h:QPE X K e te qe)(hK:X.K=K:=by rfl):QPI X K tg e (nG K te) (asL qe):=⟨i7 hK h.h,fun dl H σ q Q R rd hq k=>h.s dl H σ q _ _ rd hq fun v t F H' e1 r hz=>by
 split at hz
 ·obtain⟨p,vs,G,rfl,rfl,h1,h2⟩:=r.r.lst;exact⟨p,rfl,⟨vs,SqL.of h1⟩,k _ _ _ H' e1 jh (fun p hp=>by rw[List.mem_singleton.mp hp];exact⟨_,r⟩) hz⟩
 ·obtain⟨p,o,vs,rfl,rfl,h1,h2⟩:=r.r.zls;exact⟨p,rfl,⟨vs,.inl (.inr ⟨o,h1⟩)⟩,k _ _ _ H' e1 FD (fun p hp=>by rw[List.mem_singleton.mp hp];exact⟨_,r⟩) hz⟩
 ·exact hz.elim⟩
theorem jB(h:QPE X K e te qe)(hK:X.K=K:=by rfl):QPI X K tg e (A4 K te) (asT qe):=⟨oW hK h.h,fun dl H σ q Q R rd hq k=>h.s dl H σ q _ _ rd hq fun v t F H' e1 r hz=>by
 split at hz
 ·obtain⟨p,vs,rfl,h1,h2⟩:=r.r.tup;exact⟨p,rfl,⟨vs,SqT.of h1⟩,k _ _ _ H' e1 uR (fun p hp=>by rw[List.mem_singleton.mp hp];exact⟨_,r⟩) hz⟩
 ·exact hz.elim⟩
def zw(lo:Int)(n:Nat):List T:=(List.range n).map fun i=>.i (lo+(i:Nat))
theorem fV{i:Nat}{x:T}(h:(zw lo n)[i]? = some x):x = .i (lo+(i:Nat))/\i<n:=by
 unfold zw at h;rw[List.getElem?_map]at h;obtain⟨j,hj,rfl⟩:=Option.map_eq_some_iff.mp h;obtain⟨h1,h2⟩:=List.getElem?_eq_some_iff.mp hj;simp at h1 h2;subst h2;exact⟨rfl,h1⟩
theorem cF:(zw lo n).length=n:=by simp[zw]
def Ll(ql:QA):QI:=fun q Q=>ql q fun ts=>match ts with | [.i n]=>-(2 ^ 62)<=n/\n<2 ^ 62/\Q (zw 0 n.toNat) | _=>False
theorem gK(hg:Gl X "range")(hm:X.mg "range" = none)(ha:QPA X K [a] tl ql)(hs:starEach [a] X.env = [(false,eval a X.env)]:=by rfl):QPI X K tg (.Call (.Name "range" p) [a] [] pos) (A5 tl) (Ll ql):=⟨nt hg hm ha.h hs,fun dl H σ q Q R rd hq k=>ha.s dl H σ q _ _ rd hq fun vs ts F H' e1 r _ hz=>by
 split at hz
 ·obtain⟨v,rfl,r'⟩:=r.one;obtain⟨rfl,_⟩:=r'.r.int;exact⟨_,rfl,hz.1,hz.2.1,k _ _ [] H' e1 A2 (fun _ z=>nomatch z) hz.2.2⟩
 ·exact hz.elim⟩
def asJ(iq:QI):QJ:=fun q Q=>iq q fun xs=>Q xs q
theorem gJ(hg:Gl X "range")(hm:X.mg "range" = none)(ha:QPA X K [a] tl ql)(hs:starEach [a] X.env = [(false,eval a X.env)]:=by rfl):QPJ X K tg (.Call (.Name "range" p) [a] [] pos) (A5 tl) (asJ (Ll ql)):=⟨nt hg hm ha.h hs,fun dl H₀ hs H σ q Q R ⟨F0,r0⟩ hq k=>ha.s dl H σ q _ _ r0.rd hq fun vs ts F H' e1 r _ hz=>by
 split at hz
 ·obtain⟨v,rfl,r'⟩:=r.one;obtain⟨rfl,_⟩:=r'.r.int;exact⟨_,rfl,hz.1,hz.2.1,k _ _ [] H' q ⟨F0,r0.evo e1⟩ A2 hz.2.2⟩
 ·exact hz.elim⟩
theorem CV(h:QPF X K e te qe)(hK:X.K=K:=by rfl):QPJ X K tg e (nG K te) (asJ (asL qe)):=⟨i7 hK h.h,fun dl H₀ hs H σ q Q R ⟨F0,r0⟩ hq k=>h.s dl H σ q _ _ r0.rd hq fun v t F H' e1 r f n hz=>by
 split at hz
 ·have r1:=(r0.evo e1).hold r fun j u hj b hb z=>(r0.dw hb).no (f b z)
  obtain⟨p,vs,G,rfl,rfl,h1,h2⟩:=r.r.lst;exact⟨p,rfl,⟨vs,SqL.of h1⟩,k _ _ _ H' q ⟨F0,r1⟩ jh hz⟩
 ·have r1:=(r0.evo e1).hold r fun j u hj b hb z=>(r0.dw hb).no (f b z)
  obtain⟨p,o,vs,rfl,rfl,h1,h2⟩:=r.r.zls;exact⟨p,rfl,⟨vs,.inl (.inr ⟨o,h1⟩)⟩,k _ _ _ H' q ⟨F0,r1⟩ FD hz⟩
 ·exact hz.elim⟩
theorem oM(h:QPF X K e te qe)(hK:X.K=K:=by rfl):QPJ X K tg e (A4 K te) (asJ (asT qe)):=⟨oW hK h.h,fun dl H₀ hs H σ q Q R ⟨F0,r0⟩ hq k=>h.s dl H σ q _ _ r0.rd hq fun v t F H' e1 r f n hz=>by
 split at hz
 ·have r1:=(r0.evo e1).hold r fun j u hj b hb z=>(r0.dw hb).no (f b z)
  obtain⟨p,vs,rfl,h1,h2⟩:=r.r.tup;exact⟨p,rfl,⟨vs,SqT.of h1⟩,k _ _ _ H' q ⟨F0,r1⟩ uR hz⟩
 ·exact hz.elim⟩
def asN(i:Nat):QJ:=fun q Q=>match q[i]? with
 | some (.o (.l xs))=>Q xs (q.set i (.r (.l xs)))
 | some (.r (.l xs))=>Q xs q
 | _=>False
theorem vU{i:Nat}(h:PE X e (a9 i))(hK:X.K=K:=by rfl):QPJ X K tg e (nG K (a9 i)) (asN i):=⟨i7 hK h,fun dl H₀ hs H σ q Q R ⟨F0,r0⟩ hq k=>by
 unfold asN at hq
 split at hq
 ·rename_i xs e1;obtain⟨v,hv,r⟩:=r0.g i _ _ e1 rfl;obtain⟨o1,o2,o3⟩:=r0.o i _ e1;have r1:=(r0.down e1).hold r fun j u hj b hb=>by
   rcases get_set hj with⟨_,z,_⟩ |⟨ne,hj⟩
   ·cases z
   ·exact(r0.o j u hj).2.2 i (fun z=>ne z.symm) b hb
  obtain⟨p,vs,G,rfl,_,h1,h2⟩:=r.r.lst;exact⟨_,hv,p,rfl,⟨vs,SqL.of h1⟩,k _ _ _ H _ ⟨F0,r1⟩ jh hq⟩
 ·rename_i xs e1;obtain⟨v,hv,r⟩:=r0.g i _ _ e1 rfl;have r1:=r0.hold r fun j u hj b hb=>(r0.o j u hj).2.2 i (fun z=>by subst z;rw[e1]at hj;cases hj) b hb
  obtain⟨p,vs,G,rfl,_,h1,h2⟩:=r.r.lst;exact⟨_,hv,p,rfl,⟨vs,SqL.of h1⟩,k _ _ _ H _ ⟨F0,r1⟩ jh hq⟩
 ·exact hq.elim⟩
inductive Tg where
 | nm(i:Nat)|tp (is:List Nat)
def kn(q:Sq):List Nat->List T->Option Sq
 | [],[]=>some q
 | i::is,x::xs=>if i<q.length then kn (q.set i (.r x)) is xs else none
 | _,_=>none
def Tg.put(g:Tg)(x:T)(q:Sq):Option Sq:=match g with
 | .nm i=>if i<q.length then some (q.set i (.r x))else none
 | .tp is=>match x with | .t xs=>kn q is xs | _=>none
def qi:List Nat->TGs
 | []=>HS
 | i::is=>wH (dO i) (qi is)
def Tg.h(K:W.Frag):Tg->TG
 | .nm i=>dO i
 | .tp is=>Ej K is.length (qi is)
theorem ni{H₀ H:Hp}{hs:List (V×T)}:∀{is:List Nat}{vs:List V}{xs:List T}{G:List Addr}{σ:St}{q q':Sq}{F:Nat->List Addr}{R:St->Hp->Prop},Rel K dl H₀ hs H σ q F->au K dl H vs xs G ->(∀ b∈G,Nd dl b) ->
  (∀(j:Nat)(u:T),q[j]? = some (.o u)->∀ b∈F j,b ∉ G)->kn q is xs=some q' ->(∀ σ',gE K dl H₀ hs H σ' q'->R σ' H)->qi is vs σ H R
 | [],vs,xs,G,σ,q,q',F,R,r,rs,_,_,hp,k=>by
  cases xs with
  | cons _ _=>cases hp
  | nil =>
   cases rs;cases hp;exact⟨rfl,k σ ⟨F,r⟩⟩
 | i::is,vs,xs,G,σ,q,q',F,R,r,rs,hn,ho,hp,k=>by
  cases xs with
  | nil=>cases hp
  | cons x xs =>
   cases rs with
   | cons r1 r2 =>
    unfold kn at hp;by_cases hi:i<q.length
    ·rw[if_pos hi]at hp;refine⟨_,_,rfl,?_⟩;have r':=r.GO hi ⟨r1,fun b hb=>hn b (List.mem_append_left _ hb)⟩ fun j u hj _ b hb z=>ho j u hj b hb (List.mem_append_left _ z)
     refine ni r' r2 (fun b hb=>hn b (List.mem_append_right _ hb)) (fun j u hj b hb z=>?_) hp k
     rcases get_set hj with⟨_,z',_⟩ |⟨ne,hj⟩
     ·cases z'
     ·rw[aA ne]at hb;exact ho j u hj b hb (List.mem_append_right _ z)
    ·rw[if_neg hi]at hp;cases hp
variable{g:Tg}
theorem tV{hs:List (V×T)}{v:V}{x:T}{σ:St}{q':Sq}{F:Nat->List Addr}{R:St->Hp->Prop}(r:Rel K dl H₀ hs H σ q F)(rx:Rp K dl H v x G)
  (ho:∀(j:Nat)(u:T),q[j]? = some (.o u)->∀ b∈F j,b ∉ G) (hp:g.put x q=some q') (k:∀ σ',gE K dl H₀ hs H σ' q'->R σ' H):g.h K v σ H R:=by
 cases g with
 | nm i =>
  replace hp:(if i<q.length then some (q.set i (.r x))else none)=some q':=hp
  by_cases hi:i<q.length
  ·rw[if_pos hi]at hp;cases hp;exact k _ ⟨_,r.GO hi rx fun j u hj _=>ho j u hj⟩
  ·rw[if_neg hi]at hp;cases hp
 | tp is =>
  cases x with
  | t xs =>
   replace hp:kn q is xs=some q':=hp
   obtain⟨p,vs,rfl,h1,h2⟩:=rx.r.tup;have hl:∀{is:List Nat}{xs:List T}{q q':Sq},kn q is xs=some q'->xs.length=is.length:=fun{is}=>by
    induction is with
    | nil=>intro xs q q' h;cases xs with
     | nil=>rfl
     | cons _ _=>cases h
    | cons i is ih=>intro xs q q' h;cases xs with
     | nil=>cases h
     | cons x xs =>
      unfold kn at h;by_cases hi:i<q.length
      ·rw[if_pos hi]at h;simp[ih h]
      ·rw[if_neg hi]at h;cases h
   exact⟨p,vs,rfl,SqT.of h1,by rw[h2.len];exact hl hp,ni r h2 rx.n ho hp k⟩
  | _=>cases hp
end
variable{tg:Expr}{iter:Expr}{body:List Stmt}{g:Tg}{cap:List (Option Nat)}{iq:QI}{tst:TT}{jA:QT}{te:TE}{qe:QE}{N':List Str}{sc:Scope}{elt:Expr}{ifs:List Expr}
section
variable{X:Cx}{K:W.Frag}{hs:List (V×T)}{σ:St}{F:Nat->List Addr}
theorem Rel.nZ{hv:List (V×T)}(r:Rel K dl H₀ (hv++hs) H σ q F):Rel K dl H₀ hs H σ q F:=⟨r.d,r.g,r.n,r.z,r.o,fun p hp=>r.h p (List.mem_append_right _ hp),r.f,r.l⟩
theorem Rel.fps{hv:List (V×T)}(r:Rel K dl H₀ (hv++hs) H σ q F):∃ fp:V×T->List Addr,∀ p∈hv,Rp K dl H p.1 p.2 (fp p)/\∀(i:Nat)(t:T),q[i]? = some (.o t)->∀ b∈F i,b ∉ fp p:=by
 classical
 refine⟨fun p=>if h:p∈hv then(r.h p (List.mem_append_left _ h)).choose else [],fun p hp=>?_⟩
 have z:=(r.h p (List.mem_append_left _ hp)).choose_spec;simp only[dif_pos hp];exact z
inductive NT(g:Tg)(qb:QS)(D:nU)(xs:List T)(q0:Sq):Prop
 | mk(I:Nat->Sq->Prop)(h0:I 0 q0)(step:∀ i x q,xs[i]? = some x->I i q->∃ q',g.put x q=some q'/\qb { D with nx:=I (i+1),ct:=I (i+1),bk:=D.nx } q')(fin:∀ q,I xs.length q->D.nx q)
def MR(iq:QJ)(g:Tg)(qb:QS):QS:=fun D q=>iq q fun xs q0=>NT g qb D xs q0
theorem cv{wi:TI}{iq:QJ}{tb:TS}{qb:QS}{pos:Pos}(hp:PassesOwn (model X.prog X.w) X.A X.env X.xe)(hc:X.calm=true)(hi:QPJ X K tg iter wi iq)(hg:PG X tg (g.h K))(hb:mE X K body tb qb)
  (hs:∀ x,foldedSetIterable iter X.env x=pure x:=by intro _;rfl):QPS X K (.For tg iter body [] pos) (IH wi (g.h K) tb) (MR iq g qb):=⟨Ai hp hc hi.h hg hb.h hs,fun dl H₀ hs H σ q Dq D r hq E=>by
 refine hi.s dl H₀ hs H σ q _ _ r hq fun xs J hv H1 q1 r1 it hz=>?_
 obtain⟨I,i0,turn,fin⟩:=hz;refine⟨fun i m σ H=>m=xs.length - i/\i<=xs.length/\∃ q,gE K dl H₀ (hv++hs) H σ q/\I i q,⟨xs.length,by simp,Nat.zero_le _,q1,r1,i0⟩,?_⟩
 rintro i m σ H ⟨rfl,hi',q,⟨F,r⟩,hI⟩
 have held:∀ p∈hv,∃ F,Rp K dl H p.1 p.2 F:=fun p hp=>let⟨Fp,h,_⟩:=r.h p (List.mem_append_left _ hp);⟨Fp,h⟩
 by_cases hlt:i<xs.length
 ·refine .inr ⟨it.go H i r.d held hlt,fun σ' H'=>∃ q,gE K dl H₀ (hv++hs) H' σ' q/\I (i+1) q,fun σ' H' h=>⟨xs.length - (i+1),by omega,rfl,hlt,h⟩,fun v H' y=>?_⟩
  obtain⟨fp,hfp⟩:=r.fps;have hx:xs[i]? = some xs[i]:=by simp[hlt]
  obtain⟨e1,G,rx,hG⟩:=it.yld H i xs[i] fp v H' r.d (fun p hp=>(hfp p hp).1) hx y
  obtain⟨q',hq',hz⟩:=turn i xs[i] q hx hI;refine tV (r.evo e1) rx (fun j u hj b hb z=>?_) hq' fun σ2 r2=>hb.s dl H₀ (hv++hs) H' σ2 q' _ _ r2 hz ⟨fun H σ q r n=>⟨q,r,n⟩,fun H σ q ⟨F,r⟩ n=>E.nx H σ q ⟨F,r.nZ⟩ n,fun H σ q r n=>⟨q,r,n⟩,E.rt,fun H σ q F0 v t F r=>E.ru H σ q F0 v t F r.nZ⟩
  rcases hG b z with h |⟨p,hp,h⟩
  ·exact(r.dw hb).no h
  ·exact(hfp p hp).2 j u hj b hb h
 ·have e:i=xs.length:=by omega
  subst e;exact .inl ⟨it.stop H r.d held,E.nx H σ q ⟨F,r.nZ⟩ (fin q hI)⟩⟩
def gq(cap:List (Option Nat))(q:Sq):Sq:=cap.map fun o=>match o with
 | none=>.no
 | some i=>match q[i]? with
  | some (.o t)=>.r t
  | some (.r t)=>.r t
  | _=>.no
theorem CN(r:RdR K dl H σ q):RdR K dl H (jm cap σ) (gq cap q):=⟨r.d,fun j x t h1 h2=>by
 unfold gq at h1;rw[List.getElem?_map]at h1;cases e:cap[j]? with
 | none=>rw[e]at h1;cases h1
 | some o =>
  rw[e]at h1;cases o with
  | none=>cases h1;cases h2
  | some i =>
   have go:∀ y:Sl,q[i]? = some y->y.get=some t->∃ v F,(jm cap σ)[j]? = some (some v)/\Rp K dl H v t F:=fun y hy ht=>by
    obtain⟨v,F,h3,h4⟩:=r.g i y t hy ht;refine⟨v,F,?_,h4⟩;unfold jm;rw[List.getElem?_map,e];show some ((σ[i]?).join)=_;rw[h3];rfl
   replace h1:(match q[i]? with|some (.o t)=>Sl.r t|some (.r t)=>.r t | _=>.no)=x:=Option.some.inj h1
   split at h1
   ·rename_i u eq;subst h1;cases h2;exact go _ eq rfl
   ·rename_i u eq;subst h1;cases h2;exact go _ eq rfl
   ·subst h1;cases h2⟩
theorem RdR.set{i:Nat}{v:V}{x:T}{G:List Addr}(r:RdR K dl H σ q)(hl:i < σ.length)(rx:Rp K dl H v x G):RdR K dl H (σ.set i (some v)) (q.set i (.r x)):=⟨r.d,fun j y t h1 h2=>by
 rcases get_set h1 with⟨rfl,rfl,_⟩ |⟨ne,h1⟩
 ·cases h2;exact⟨v,G,by rw[List.getElem?_set_self hl],rx⟩
 ·obtain⟨w,F,h3,h4⟩:=r.g j y t h1 h2;exact⟨w,F,by rw[List.getElem?_set_ne (fun z=>ne z.symm)];exact h3,h4⟩⟩
theorem RdR.any{i:Nat}{o:Option V}(r:RdR K dl H σ q)(hn:q[i]? = some .no):RdR K dl H (σ.set i o) q:=⟨r.d,fun j y t h1 h2=>by
 obtain⟨w,F,h3,h4⟩:=r.g j y t h1 h2;refine⟨w,F,?_,h4⟩;rw[List.getElem?_set_ne]
 ·exact h3
 ·intro z;subst z;rw[hn]at h1;cases h1;cases h2⟩
def Tg.ixs:Tg->List Nat
 | .nm i=>[i]
 | .tp is=>is
theorem rF:∀{is:List Nat}{vs:List V}{xs:List T}{G:List Addr}{σ:St}{q q0 q':Sq}{R:St->Hp->Prop},RdR K dl H σ q->RdR K dl H σ q0->σ.length=q.length->au K dl H vs xs G ->(∀ b∈G,Nd dl b) ->(∀ i∈is,q0[i]? = some .no)->kn q is xs=some q' ->
  (∀ σ',RdR K dl H σ' q'->RdR K dl H σ' q0->σ'.length=σ.length->R σ' H)->qi is vs σ H R
 | [],vs,xs,G,σ,q,q0,q',R,r,r0,_,rs,_,_,hp,k=>by
  cases xs with
  | cons _ _=>cases hp
  | nil =>
   cases rs;cases hp;exact⟨rfl,k σ r r0 rfl⟩
 | i::is,vs,xs,G,σ,q,q0,q',R,r,r0,hl,rs,hn,hf,hp,k=>by
  cases xs with
  | nil=>cases hp
  | cons x xs =>
   cases rs with
   | cons r1 r2 =>
    unfold kn at hp;by_cases hi:i<q.length
    ·rw[if_pos hi]at hp;refine⟨_,_,rfl,?_⟩;refine rF (r.set (by omega) ⟨r1,fun b hb=>hn b (List.mem_append_left _ hb)⟩) (r0.any (hf i List.mem_cons_self)) (by simp[hl]) r2 (fun b hb=>hn b (List.mem_append_right _ hb)) (fun j hj=>hf j (List.mem_cons_of_mem _ hj)) hp fun σ' a b c=>k σ' a b (by simpa using c)
    ·rw[if_neg hi]at hp;cases hp
theorem rM:∀{is:List Nat}{xs:List T}{q q':Sq},kn q is xs=some q'->xs.length=is.length
 | [],[],_,_,_=>rfl
 | [],_::_,_,_,h=>by cases h
 | _::_,[],_,_,h=>by cases h
 | i::is,x::xs,q,q',h=>by
  unfold kn at h;by_cases hi:i<q.length
  ·rw[if_pos hi]at h;simp[rM h]
  ·rw[if_neg hi]at h;cases h
theorem I0{v:V}{x:T}{q':Sq}{R:St->Hp->Prop}(r:RdR K dl H σ q)(hl:σ.length=q.length)(rx:Rp K dl H v x G)(hf:∀ i∈g.ixs,q[i]? = some .no)(hp:g.put x q=some q')
  (k:∀ σ',RdR K dl H σ' q'->RdR K dl H σ' q->σ'.length=σ.length->R σ' H):g.h K v σ H R:=by
 cases g with
 | nm i =>
  replace hp:(if i<q.length then some (q.set i (.r x))else none)=some q':=hp
  by_cases hi:i<q.length
  ·rw[if_pos hi]at hp;cases hp;exact k _ (r.set (by omega) rx) (r.any (hf i (List.mem_singleton.mpr rfl))) (by simp)
  ·rw[if_neg hi]at hp;cases hp
 | tp is =>
  cases x with
  | t xs =>
   replace hp:kn q is xs=some q':=hp
   obtain⟨p,vs,rfl,h1,h2⟩:=rx.r.tup;exact⟨p,vs,rfl,SqT.of h1,by rw[h2.len];exact rM hp,rF r r hl h2 rx.n hf hp k⟩
  | _=>cases hp
def zZ:QT:=fun _ Q=>Q true
theorem zd:iM K vG zZ:=fun dl H σ q Q R rd hq k=>k true H (.refl rd.d) hq
inductive CompI(cap:List (Option Nat))(g:Tg)(tst:QT)(qe:QE)(q:Sq)(Q:T->Prop)(xs:List T):Prop
 | mk (hl:xs.length<sizeLine) (I:Nat->List T->Prop) (h0:I 0 []) (step:∀ i x ys,xs[i]? = some x->I i ys->∃ q',g.put x (gq cap q)=some q'/\tst q' fun b=>if b=true then qe q' fun y=>I (i+1) (ys ++ [y])else I (i+1) ys) (fin:∀ ys,I xs.length ys->Q (.l ys))
def v7(cap:List (Option Nat))(iq:QI)(g:Tg)(tst:QT)(qe:QE):QE:=fun q Q=>iq q fun xs=>CompI cap g tst qe q Q xs
theorem rn{wi:TI}(hi:Ly K wi iq)(ht:iM K tst jA)(he:iO K te qe)(hf:(g.ixs.all fun i=>cap[i]? == some none)=true):iO K (nc cap wi (g.h K) tst te) (v7 cap iq g jA qe):=by
 intro dl H σ q Q R rd hq k;refine hi dl H σ q _ _ rd hq fun xs J hv H1 e1 it held hz=>?_
 obtain⟨hlen,I,i0,turn,fin⟩:=hz;have rd1:=CN (cap:=cap) (rd.evo e1);have hno:∀ i∈g.ixs,(gq cap q)[i]? = some .no:=fun i hi=>by
  have z:=List.all_eq_true.mp hf i hi;have z:cap[i]? = some none:=by simpa using z
  unfold gq;rw[List.getElem?_map,z];rfl
 have hcl:(jm cap σ).length =(gq cap q).length:=by simp[jm,gq]
 refine⟨fun i m vs σ' H'=>m=xs.length - i/\i<=xs.length/\∃ ts F,Evo dl H1 H'/\RdR K dl H' σ' (gq cap q)/\σ'.length =(gq cap q).length/\(∀ p∈hv,∃ F,Rp K dl H' p.1 p.2 F)/\Rps K dl H' vs ts F/\(∀ b∈F,H b=none)/\F.Nodup/\vs.length<=i/\I i ts,
  ⟨xs.length,by simp,Nat.zero_le _,[],[],.refl e1.d,rd1,hcl,held,⟨.nil,fun _ z=>nomatch z⟩,(fun _ z=>nomatch z),List.nodup_nil,Nat.le_refl _,i0⟩,?_⟩
 rintro i m vs σ' H' ⟨rfl,hi',ts,F,e2,rd2,hl2,sy,rs,fr,nd,hvl,hI⟩
 by_cases hlt:i<xs.length
 ·refine .inr ⟨it.go H' i e2.d sy hlt,by omega,fun vs2 σ2 H2=>∃ ts F,Evo dl H1 H2/\RdR K dl H2 σ2 (gq cap q)/\σ2.length =(gq cap q).length/\(∀ p∈hv,∃ F,Rp K dl H2 p.1 p.2 F)/\Rps K dl H2 vs2 ts F/\(∀ b∈F,H b=none)/\F.Nodup/\vs2.length<=i+1/\I (i+1) ts,
   fun vs2 σ2 H2 h=>⟨xs.length - (i+1),by omega,rfl,hlt,h⟩,fun v H2 y=>?_⟩
  have hx:xs[i]? = some xs[i]:=by simp[hlt]
  obtain⟨fp,hfp⟩:∃ fp:V×T->List Addr,∀ p∈hv,Rp K dl H' p.1 p.2 (fp p):=by
   classical
   refine⟨fun p=>if h:p∈hv then(sy p h).choose else [],fun p hp=>?_⟩
   simp only[dif_pos hp];exact(sy p hp).choose_spec
  obtain⟨e3,G,rx,hG⟩:=it.yld H' i xs[i] fp v H2 e2.d hfp hx y;obtain⟨q',hq',hz⟩:=turn i xs[i] ts hx hI;have FF:∀{H3:Hp},Evo dl H' H3->∀ p∈hv,∃ F,Rp K dl H3 p.1 p.2 F:=fun{H3} e p hp=>let⟨F,r⟩:=sy p hp;⟨F,r.evo e2.d e⟩
  refine I0 (rd2.evo e3) hl2 rx hno hq' fun σ3 r3 r30 l3=>?_
  refine ht dl H2 σ3 q' _ _ r3 hz fun b H4 e4 hz=>?_
  cases b with
  | false=>exact⟨ts,F,(e2.trans e3).trans e4,r30.evo e4,by omega,FF (e3.trans e4),(rs.evo e2.d e3).evo e3.d e4,fr,nd,by omega,hz⟩
  | true =>
   refine he dl H4 σ3 q' _ _ (r3.evo e4) hz fun w t G' H5 e5 rw' f5 n5 hz=>?_
   have E:=(e2.trans e3).trans (e4.trans e5);have rs5:=((rs.evo e2.d e3).evo e3.d (e4.trans e5));refine⟨ts ++ [t],F++(G' ++ []),E,r30.evo (e4.trans e5),by omega,FF (e3.trans (e4.trans e5)),⟨rs5.r.append (.cons rw'.r .nil),fun b hb=>?_⟩,fun b hb=>?_,?_,by simp;omega,hz⟩
   ·rcases List.mem_append.mp hb with hb|hb
    ·exact rs.n b hb
    ·rw[List.append_nil]at hb;exact rw'.n b hb
   ·rcases List.mem_append.mp hb with hb|hb
    ·exact fr b hb
    ·rw[List.append_nil]at hb;exact((e1.trans e2).trans (e3.trans e4)).free (f5 b hb)
   ·rw[List.append_nil];refine List.nodup_append.mpr ⟨nd,n5,fun x hx y hy exy=>?_⟩
    subst exy;have rs4:=(rs.evo e2.d e3).evo e3.d e4;exact gC.no (rs4.r.there x hx) (f5 x hy)
 ·have e:i=xs.length:=by omega
  subst e;refine .inl ⟨it.stop H' e2.d sy,by omega,fun D hD=>?_⟩
  exact k _ _ _ _ ((e1.trans e2).new hD) (rs.lst e2.d hD) (fun b hb=>by
   rcases List.mem_cons.mp hb with e|hb
   ·rw[e];exact(e1.trans e2).free hD
   ·exact fr b hb) (rs.fresh hD nd) (fin ts hI)
structure QB(X:Cx)(K:W.Frag)(N':List Str)(sc:Scope)(tg:Expr)(g:Tg)(ifs:List Expr)(tst:TT)(jA:QT)(elt:Expr)(te:TE)(qe:QE):Prop where
 b:∀ cl C s₂ H₂ fp,PG (blk X N' sc cl C s₂ H₂ fp) tg (g.h K)/\PTs (blk X N' sc cl C s₂ H₂ fp) ifs tst/\PE (blk X N' sc cl C s₂ H₂ fp) elt te
 t:iM K tst jA
 e:iO K te qe
theorem bH(h:∀ cl C s₂ H₂ fp,PG (blk X N' sc cl C s₂ H₂ fp) tg (g.h K)/\QPF (blk X N' sc cl C s₂ H₂ fp) K elt te qe):QB X K N' sc tg g [] vG zZ elt te qe :=
 ⟨fun cl C s₂ H₂ fp=>⟨(h cl C s₂ H₂ fp).1,wa,(h cl C s₂ H₂ fp).2.h⟩,zd,(h [] 0 X.s₀ (fun _=>none) []).2.s⟩
theorem t6{c:Expr}(h:∀ cl C s₂ H₂ fp,PG (blk X N' sc cl C s₂ H₂ fp) tg (g.h K)/\QPT (blk X N' sc cl C s₂ H₂ fp) K c tst jA/\QPF (blk X N' sc cl C s₂ H₂ fp) K elt te qe):QB X K N' sc tg g [c] tst jA elt te qe :=
 ⟨fun cl C s₂ H₂ fp=>⟨(h cl C s₂ H₂ fp).1,v9 (h cl C s₂ H₂ fp).2.1.h,(h cl C s₂ H₂ fp).2.2.h⟩,(h [] 0 X.s₀ (fun _=>none) []).2.1.s,(h [] 0 X.s₀ (fun _=>none) []).2.2.s⟩
theorem bt{pos:Pos}{wi:TI}(hc:X.calm=true)(hi:QPI X K tg iter wi iq)(mW:jw X sc N' cap)(hb:QB X K N' sc tg g ifs tst jA elt te qe)
  (hf:(g.ixs.all fun i=>cap[i]? == some none)=true:=by rfl)
  (eT:sc.kind = .function:=by rfl) (eU:∀ y∈sc.names,y.2 ≠ .cell:=by decide) (fv:∀ y∈sc.names,y.2 = .local->sc.names.lookup y.1=some .local:=by decide)
  (fC:(sc.names.all fun y=>y.2 != .free ||(X.env.kindOf y.1==some .cell||X.env.kindOf y.1==some .free))=true:=by rfl)
  (hs:∀ x,foldedSetIterable iter X.env x=pure x:=by intro _;rfl):QPF X K (.ListComp elt [⟨tg,iter,ifs,0⟩] sc pos) (nc cap wi (g.h K) tst te) (v7 cap iq g jA qe) :=
 ⟨we hc hi.h mW hb.b eT eU fv fC hs,rn hi.s hb.t hb.e hf⟩
theorem gI{i:Nat}{y:Str}{pos dS py:Pos}{wi:TI}(hN:X.N.Nodup)(hi':X.N[i]? = some y)(hy:Loc X.env.scope y)
  (hc:X.calm=true) (hi:QPI X K tg iter wi iq) (mW:jw X sc N' cap) (hb:QB X K N' sc tg g ifs tst jA elt te qe)
  (hf':(g.ixs.all fun i=>cap[i]? == some none)=true:=by rfl)
  (hsw:swapsWith (.ListComp elt [⟨tg,iter,ifs,0⟩] sc pos) (some (.Name y py)) dS.line X.env=pure true:=by rfl)
  (hf:X.fn y=true\/X.env.scope.names.lookup y=some .local:=by first|exact .inl rfl|exact .inr rfl|assumption)
  (eT:sc.kind = .function:=by rfl) (eU:∀ y∈sc.names,y.2 ≠ .cell:=by decide) (fv:∀ y∈sc.names,y.2 = .local->sc.names.lookup y.1=some .local:=by decide)
  (fC:(sc.names.all fun y=>y.2 != .free ||(X.env.kindOf y.1==some .cell||X.env.kindOf y.1==some .free))=true:=by rfl)
  (hs:∀ x,foldedSetIterable iter X.env x=pure x:=by intro _;rfl):QPS X K (.Assign [.Name y py] (.ListComp elt [⟨tg,iter,ifs,0⟩] sc pos) dS) (e7 (nc cap wi (g.h K) tst te) (dO i)) (t7 i (v7 cap iq g jA qe)) :=
 ⟨wc hN hi' hy hc hi.h mW hb.b hsw hf eT eU fv fC hs,vM (rn hi.s hb.t hb.e hf')⟩
end
section
variable{X:Cx}{K:W.Frag}{hs:List (V×T)}{σ:St}{F:Nat->List Addr}{e o:Expr}{pos apos aQ:Pos}
theorem az.uniq{v:V}{t:T}{F:List Addr}(h:az K dl H v t F):∀{F':List Addr},az K dl H v t F'->F=F' :=
 az.rec (motive_1:=fun v t F _=>∀{F'},az K dl H v t F'->F=F') (motive_2:=fun v t F _=>∀{F'},au K dl H v t F'->F=F') (motive_3:=fun v t F _=>∀{F'},aL K dl H v t F'->F=F')
  (fun h=>(h.im rfl).symm) (fun _ _ h=>(h.im rfl).symm) (fun _ _ h=>(h.im rfl).symm) (fun _ _ h=>(h.im rfl).symm) (fun _ _ h=>(h.im rfl).symm)
  (fun h1 _ ih _ h=>by obtain⟨a,vs,e,h2,r⟩:=h.tup;cases e;rw[h1]at h2;cases h2;exact ih r)
  (fun h1 _ ih _ h=>by obtain⟨a,vs,G,e,rfl,h2,r⟩:=h.lst;cases e;rw[h1]at h2;cases h2;rw[ih r])
  (fun h1 _ ih _ h=>by obtain⟨a,vs,G,e,rfl,h2,r⟩:=h.dic;cases e;rw[h1]at h2;cases h2;rw[ih r])
  (fun _ _ h=>(h.im rfl).symm) (fun _ _ h=>(h.im rfl).symm) (fun _ _ h=>(h.im rfl).symm) (fun _ _ _ _ h=>(h.im rfl).symm) (fun _ _ h=>(h.im rfl).symm) (fun _ _ _ _ h=>(h.im rfl).symm)
  (fun _ _ _ h=>(h.im rfl).symm) (fun _ _ _ _ h=>(h.im rfl).symm) (fun h1 _ ih _ h=>by obtain⟨vs,G,e,rfl,h2,r⟩:=h.dpp;rw[h1]at h2;cases h2;rw[ih r]) (fun h1 _ ih _ h=>by obtain⟨vs,G,e,rfl,h2,r⟩:=h.lpp;rw[h1]at h2;cases h2;rw[ih r]) (fun _ _ _ _ h=>(h.im rfl).symm)
  (fun h=>by cases h;rfl) (fun _ _ i1 i2 _ h=>by cases h with|cons h2 r2=>rw[i1 h2,i2 r2])
  (fun h=>by cases h;rfl) (fun _ _ i1 i2 _ h=>by cases h with|cons h2 r2=>rw[i1 h2,i2 r2]) h
theorem Rel.Ef(r:Rel K dl H₀ hs H σ q F)(e:Evo dl H H'){p:V×T}(hp:p∈hs){Fp:List Addr}(h:Rp K dl H' p.1 p.2 Fp){b:Addr}(hb:H b=none):b ∉ Fp:=fun z=>by
 obtain⟨Fq,h1,_⟩:=r.h p hp;have e1:=(h1.evo r.d e).r.uniq h.r;subst e1;exact gC.no (h1.r.there b z) hb
theorem Rel.il{i:Nat}{p:Addr}{ws:List V}{xs ys:List T}{G':List Addr}(r:Rel K dl H₀ hs H σ q F)(hi:q[i]? = some (.o (.l xs)))(hv:σ[i]? = some (some (.ref p)))(hF:F i=p::G)(e:Evo dl H H')
  (rs:au K dl H' ws ys G') (hn:G'.Nodup) (hG:∀ b∈G',b∈G\/(H b=none/\Nd dl b)):gE K dl H₀ hs (upd H' p (.lst ws)) σ (q.set i (.o (.l ys))):=by
 have r':=r.evo e;obtain⟨o1,o2,o3⟩:=r.o i _ hi;obtain⟨v',hv',rp⟩:=r'.g i _ _ hi rfl;rw[hv]at hv';cases hv';obtain⟨p2,vs2,G2,e2,eF,h1,h2⟩:=rp.r.lst;cases e2;rw[hF]at eF;cases eF;rw[hF]at o1;have pG:p ∉ G:=(List.nodup_cons.mp o1).1;have pth:gC H p:=r.dw (i:=i) (by rw[hF];exact List.mem_cons_self)
 have pG':p ∉ G':=fun z=>by
  rcases hG p z with z|z
  ·exact pG z
  ·exact pth.no z.1
 have pn:Nd dl p:=rp.n p (by rw[hF];exact List.mem_cons_self)
 have tf:TF H' (upd H' p (.lst ws)):=⟨fun a us h=>(by
  rw[aj];exact h;intro z;subst z;rw[h]at h1;cases h1),fun a ob u h=>(by
  rw[aj];exact h;intro z;subst z;rw[h]at h1;cases h1),fun a φ h=>(by
  rw[aj];exact h;intro z;subst z;rw[h]at h1;cases h1),fun a xs' h=>(by
  by_cases z:a=p
  ·subst z;exact⟨_,aw⟩
  ·exact⟨xs',by rw[aj z];exact h⟩),fun a x h=>⟨x,Int.le_refl _,by
  rw[aj];exact h;intro z;subst z;rw[h]at h1;cases h1⟩⟩
 have rs2:au K dl (upd H' p (.lst ws)) ws ys G':=rs.cD tf (fun _ z=>z) fun b hb ob eb=>by
  have ne:b≠p:=by
   intro z;subst z;exact pG' hb
  rw[aj ne];exact eb
 refine⟨_,r'.write (t':=.l ys) (F':=p::G') hi hv (by rw[hF];exact List.mem_cons_self) (fun _ _=>⟨_,rfl⟩) ⟨.l aw rs2,fun b hb=>?_⟩ (List.nodup_cons.mpr ⟨pG',hn⟩) fun b hb=>?_⟩
 ·rcases List.mem_cons.mp hb with z|hb
  ·rw[z];exact pn
  ·rcases hG b hb with z|z
   ·exact rp.n b (by rw[hF];exact List.mem_cons_of_mem _ z)
   ·exact z.2
 ·rcases List.mem_cons.mp hb with z|hb
  ·rw[z,hF];exact .inl List.mem_cons_self
  ·rcases hG b hb with z|z
   ·rw[hF];exact .inl (List.mem_cons_of_mem _ z)
   ·exact .inr ⟨r.fz z.1,fun j hj=>(r.dw hj).no z.1,fun w u Fp h1 h2=>r.Ef e (p:=(w,u)) h2 h1 z.1⟩
def oR(i:Nat)(qe:QE):QS:=fun D q=>match q[i]? with
 | some (.o (.l xs))=>xs.length<sizeLine/\qe q fun t=>D.nx (q.set i (.o (.l (xs ++ [t]))))
 | _=>False
theorem ux(hK:X.K=K){i:Nat}(ho:PE X o (a9 i))(he:PE X e te)(bN:attributeBase o "append" X.env (eval o X.env)=eval o X.env:=by rfl)
  (gm:((backTo aQ (starEach [e] X.env)).all (fun x=>!x.1)&&(backToKw aQ (keywordEach [] X.env)).all (fun x=>x.1.isSome)
   && decide (([e]:List Expr).length+([]:List Keyword).length+(if([]:List Keyword).isEmpty then 0 else 1)<30))=true:=by rfl)
  (bM:(apos.endLine==aQ.line)=true:=by rfl) (hs:starEach [e] X.env =(false,eval e X.env)::starEach [] X.env:=by rfl) (cf:(backTo aQ (starEach [] X.env)).any (·.1)=false:=by rfl) :
  PE X (.Call (.Attribute o "append" apos) [e] [] aQ) (tBM K "list" kI (a9 i) (bP te eD)):=by
 subst hK;exact rT PySem.F.plainAttrs_list PySem.F.slot_list_append PySem.F.type_list_append yh ho (a8 he cH hs) bN gm bM hs cf
theorem tE{i:Nat}(he:iO K te qe):gD K (fO (tBM K "list" kI (a9 i) (bP te eD))) (oR i qe):=fun dl H₀ hs H σ q Dq D ⟨F,r⟩ hq E=>by
 unfold oR at hq
 split at hq
 ·rename_i xs ei;obtain⟨hz,hq⟩:=hq;obtain⟨v,hv,rp⟩:=r.g i _ _ ei rfl;obtain⟨o1,o2,o3⟩:=r.o i _ ei;obtain⟨p,vs,G,rfl,eF,h1,h2⟩:=rp.r.lst;refine⟨_,hv,.inl ⟨rfl,vs,SqL.of h1⟩,he dl H σ q _ _ r.rd hq fun w t F' H' e1 r1 f1 n1 hz'=>?_⟩
  have pn:Nd dl p:=rp.n p (by rw[eF];exact List.mem_cons_self)
  refine⟨p,vs,w,rfl,rfl,e1.k p _ h1 pn (fun _ z=>nomatch z),by rw[h2.len];exact hz,?_⟩
  have hG:∀ b∈G,Nd dl b:=fun b hb=>rp.n b (by rw[eF];exact List.mem_cons_of_mem _ hb)
  have rs2:au K dl H' vs xs G:=h2.cD (e1.tf r.d) (fun _ z=>z) fun b hb o eo=>e1.k b o eo (hG b hb) (.of (h2.there b hb) eo)
  refine E.nx _ σ _ (r.il ei hv eF e1 (rs2.append (.cons r1.r .nil)) ?_ fun b hb=>?_) hz'
  ·rw[List.append_nil];rw[eF]at o1;refine List.nodup_append.mpr ⟨(List.nodup_cons.mp o1).2,n1,fun x hx y hy exy=>?_⟩
   subst exy;exact gC.no (h2.there x hx) (f1 x hy)
  ·rcases List.mem_append.mp hb with hb|hb
   ·exact .inl hb
   ·rw[List.append_nil]at hb;exact .inr ⟨f1 b hb,r1.n b hb⟩
 ·exact hq.elim
theorem a6{i:Nat}{dS:Pos}(ho:PE X o (a9 i))(he:QPF X K e te qe)(hK:X.K=K:=by rfl)(bN:attributeBase o "append" X.env (eval o X.env)=eval o X.env:=by rfl)
  (gm:((backTo aQ (starEach [e] X.env)).all (fun x=>!x.1)&&(backToKw aQ (keywordEach [] X.env)).all (fun x=>x.1.isSome)
   && decide (([e]:List Expr).length+([]:List Keyword).length+(if([]:List Keyword).isEmpty then 0 else 1)<30))=true:=by rfl)
  (bM:(apos.endLine==aQ.line)=true:=by rfl) (hs:starEach [e] X.env =(false,eval e X.env)::starEach [] X.env:=by rfl) (cf:(backTo aQ (starEach [] X.env)).any (·.1)=false:=by rfl)
  (hsw:swapsWith (.Call (.Attribute o "append" apos) [e] [] aQ) none dS.line X.env=pure false:=by rfl) :
  QPS X K (.Expr (.Call (.Attribute o "append" apos) [e] [] aQ) dS) (fO (tBM K "list" kI (a9 i) (bP te eD))) (oR i qe):=⟨i5 (ux hK ho he.h bN gm bM hs cf) hsw,tE he.s⟩
def oQ(i:Nat)(qe:QE):QS:=fun D q=>match q[i]? with
 | some (.o (.l xs))=>qe q fun t=>match t with
  | .l ys=>xs.length+ys.length<=sizeLine/\D.nx (q.set i (.o (.l (xs++ys))))
  | _=>False
 | _=>False
theorem lO(hK:X.K=K){i:Nat}(ho:PE X o (a9 i))(he:PE X e te)(bN:attributeBase o "extend" X.env (eval o X.env)=eval o X.env:=by rfl)
  (gm:((backTo aQ (starEach [e] X.env)).all (fun x=>!x.1)&&(backToKw aQ (keywordEach [] X.env)).all (fun x=>x.1.isSome)
   && decide (([e]:List Expr).length+([]:List Keyword).length+(if([]:List Keyword).isEmpty then 0 else 1)<30))=true:=by rfl)
  (bM:(apos.endLine==aQ.line)=true:=by rfl) (hs:starEach [e] X.env =(false,eval e X.env)::starEach [] X.env:=by rfl) (cf:(backTo aQ (starEach [] X.env)).any (·.1)=false:=by rfl) :
  PE X (.Call (.Attribute o "extend" apos) [e] [] aQ) (tBM K "list" gH (a9 i) (bP te eD)):=by
 subst hK;exact rT PySem.F.plainAttrs_list PySem.F.slot_list_extend PySem.F.type_list_extend yg ho (a8 he cH hs) bN gm bM hs cf
theorem tD{i:Nat}(he:iO K te qe):gD K (fO (tBM K "list" gH (a9 i) (bP te eD))) (oQ i qe):=fun dl H₀ hs H σ q Dq D ⟨F,r⟩ hq E=>by
 unfold oQ at hq
 split at hq
 ·rename_i xs ei;obtain⟨v,hv,rp⟩:=r.g i _ _ ei rfl;obtain⟨o1,o2,o3⟩:=r.o i _ ei;obtain⟨p,vs,G,rfl,eF,h1,h2⟩:=rp.r.lst;refine⟨_,hv,.inl ⟨rfl,vs,SqL.of h1⟩,he dl H σ q _ _ r.rd hq fun w t F' H' e1 r1 f1 n1 hz'=>?_⟩
  split at hz'
  ·rename_i ys _;obtain⟨p2,ws,G2,rfl,rfl,h3,h4⟩:=r1.r.lst;have pn:Nd dl p:=rp.n p (by rw[eF];exact List.mem_cons_self)
   refine⟨p,p2,vs,ws,rfl,rfl,e1.k p _ h1 pn (fun _ z=>nomatch z),h3,by rw[h2.len,h4.len];exact hz'.1,?_⟩
   have hG:∀ b∈G,Nd dl b:=fun b hb=>rp.n b (by rw[eF];exact List.mem_cons_of_mem _ hb)
   have rs2:au K dl H' vs xs G:=h2.cD (e1.tf r.d) (fun _ z=>z) fun b hb o eo=>e1.k b o eo (hG b hb) (.of (h2.there b hb) eo)
   refine E.nx _ σ _ (r.il ei hv eF e1 (rs2.append h4) ?_ fun b hb=>?_) hz'.2
   ·rw[eF]at o1;refine List.nodup_append.mpr ⟨(List.nodup_cons.mp o1).2,(List.nodup_cons.mp n1).2,fun x hx y hy exy=>?_⟩
    subst exy;exact gC.no (h2.there x hx) (f1 x (List.mem_cons_of_mem _ hy))
   ·rcases List.mem_append.mp hb with hb|hb
    ·exact .inl hb
    ·exact .inr ⟨f1 b (List.mem_cons_of_mem _ hb),r1.n b (List.mem_cons_of_mem _ hb)⟩
  ·exact hz'.elim
 ·exact hq.elim
theorem nk{i:Nat}{dS:Pos}(ho:PE X o (a9 i))(he:QPF X K e te qe)(hK:X.K=K:=by rfl)(bN:attributeBase o "extend" X.env (eval o X.env)=eval o X.env:=by rfl)
  (gm:((backTo aQ (starEach [e] X.env)).all (fun x=>!x.1)&&(backToKw aQ (keywordEach [] X.env)).all (fun x=>x.1.isSome)
   && decide (([e]:List Expr).length+([]:List Keyword).length+(if([]:List Keyword).isEmpty then 0 else 1)<30))=true:=by rfl)
  (bM:(apos.endLine==aQ.line)=true:=by rfl) (hs:starEach [e] X.env =(false,eval e X.env)::starEach [] X.env:=by rfl) (cf:(backTo aQ (starEach [] X.env)).any (·.1)=false:=by rfl)
  (hsw:swapsWith (.Call (.Attribute o "extend" apos) [e] [] aQ) none dS.line X.env=pure false:=by rfl) :
  QPS X K (.Expr (.Call (.Attribute o "extend" apos) [e] [] aQ) dS) (fO (tBM K "list" gH (a9 i) (bP te eD))) (oQ i qe):=⟨i5 (lO hK ho he.h bN gm bM hs cf) hsw,tD he.s⟩
end
variable{qo:QE}{to:TE}
section
variable{X:Cx}{K:W.Frag}{hs:List (V×T)}{σ:St}{F:Nat->List Addr}{a b e o c:Expr}{ta tb tk tv:TE}{qa qb qk qv:QE}{pos apos aQ:Pos}
theorem au.last:∀{ts:List T}{x:T}{vs:List V}{F:List Addr},au K dl H vs (ts ++ [x]) F->∃ us w F1 F2,vs=us ++ [w]/\au K dl H us ts F1/\az K dl H w x F2/\F=F1++F2
 | [],x,vs,F,h=>by
  cases h with
  | cons h1 h2 =>
   cases h2;exact⟨[],_,[],_,rfl,.nil,h1,by simp⟩
 | t::ts,x,vs,F,h=>by
  cases h with
  | cons h1 h2 =>
   obtain⟨us,w,F1,F2,rfl,r1,r2,rfl⟩:=au.last h2;exact⟨_::us,w,_,F2,rfl,.cons h1 r1,r2,by rw[List.append_assoc]⟩
def GH(i j:Nat):QS:=fun D q=>match q[i]? with
 | some (.o (.l xs))=>∃ ys x,xs=ys ++ [x]/\T.ims xs=true/\i≠j/\D.nx ((q.set i (.o (.l ys))).set j (.o x))
 | _=>False
theorem iD{xs ys:List T}:T.ims (xs++ys) =(T.ims xs&&T.ims ys):=by
 induction xs with
 | nil=>rfl
 | cons x r ih=>show(x.im&&T.ims (r++ys)) =((x.im&&T.ims r)&&T.ims ys);rw[ih,Bool.and_assoc]
theorem Cy{i:Nat}:gD K (e7 (y4 K "list" Gs (a9 i)) (dO j)) (GH i j):=fun dl H₀ hs H σ q Dq D ⟨F,r⟩ hq E=>by
 unfold GH at hq
 split at hq
 ·rename_i xs ei;obtain⟨ys,x,rfl,him,hij,hq⟩:=hq;obtain⟨v,hv,rp⟩:=r.g i _ _ ei rfl;obtain⟨p,vs,G,rfl,eF,h1,h2⟩:=rp.r.lst;obtain⟨us,w,F1,F2,rfl,r1,r2,rfl⟩:=h2.last;rw[iD,Bool.and_eq_true]at him;obtain rfl:=r1.im him.1;have hx:x.im=true:=by have:=him.2;simpa [T.ims]using this
  obtain rfl:=r2.im hx;refine⟨_,hv,.inl ⟨rfl,_,SqL.of h1⟩,p,_,w,rfl,rfl,h1,by simp,?_⟩
  rw[List.dropLast_concat];obtain⟨F3,r3⟩:=r.il (H':=H) (ws:=us) (ys:=ys) (G':=[]) ei hv eF (.refl r.d) r1 List.nodup_nil (fun _ z=>nomatch z)
  have tf:az K dl (upd H p (.lst us)) w x []:=by
   have tf:TF H (upd H p (.lst us)):=⟨fun a us' h=>(by
    rw[aj];exact h;intro z;subst z;rw[h]at h1;cases h1),fun a ob u h=>(by
    rw[aj];exact h;intro z;subst z;rw[h]at h1;cases h1),fun a φ h=>(by
    rw[aj];exact h;intro z;subst z;rw[h]at h1;cases h1),fun a xs' h=>(by
    by_cases z:a=p
    ·subst z;exact⟨_,aw⟩
    ·exact⟨xs',by rw[aj z];exact h⟩),fun a x h=>⟨x,Int.le_refl _,by
    rw[aj];exact h;intro z;subst z;rw[h]at h1;cases h1⟩⟩
   exact r2.cD tf (fun _ z=>z) fun _ z=>nomatch z
  exact E.nx _ _ _ (r3.C8 (i:=j) (.refl r3.d) (.c tf) (fun _ z=>nomatch z) List.nodup_nil) hq
 ·exact hq.elim
theorem Gy{i:Nat}(hN:X.N.Nodup)(hi:X.N[j]? = some x)(hx:Loc X.env.scope x)(ho:PE X o (a9 i))(hK:X.K=K:=by rfl)(bN:attributeBase o "pop" X.env (eval o X.env)=eval o X.env:=by rfl)(bM:(apos.endLine==aQ.line)=true:=by rfl)
  (hs:swapsWith (.Call (.Attribute o "pop" apos) [] [] aQ) (some (.Name x pos')) pos.line X.env=pure false:=by rfl) (hf:X.fn x=true\/X.env.scope.names.lookup x=some .local:=by first|exact .inl rfl|exact .inr rfl|assumption) :
  QPS X K (.Assign [.Name x pos'] (.Call (.Attribute o "pop" apos) [] [] aQ) pos) (e7 (y4 K "list" Gs (a9 i)) (dO j)) (GH i j) :=
 ⟨by subst hK;exact f6 hN hi hx (um PySem.F.plainAttrs_list PySem.F.slot_list_pop PySem.F.type_list_pop AJ ho bN bM) hs hf,Cy⟩
def zY(g:Tg)(qe:QE):QS:=fun D q=>qe q fun t=>t.im=true/\∃ q',g.put t q=some q'/\D.nx q'
theorem Cv(he:fK K te qe):gD K (e7 te (g.h K)) (zY g qe):=fun dl H₀ hs H σ q Dq D ⟨F,r⟩ hq E=>he dl H σ q _ _ r.rd hq fun v t F' H' e1 r1 ⟨him,q',hq',hz⟩=>by
 obtain rfl:=r1.r.im him;exact tV (r.evo e1) r1 (fun _ _ _ _ _ z=>nomatch z) hq' fun σ' r'=>E.nx _ _ _ r' hz
theorem lu(he:QPE X K e te qe)(hg:PG X tg (g.h K))(hs:swapsWithSole [tg] e pos.line X.env=pure false:=by rfl)(hw:swappedStores [tg] e X.env=pure none:=by rfl)
  (h1:(assignEach [tg] X.env).map (·.2) = [assign tg X.env]:=by rfl):QPS X K (.Assign [tg] e pos) (e7 te (g.h K)) (zY g qe):=⟨lE he.h hg hs hw h1,Cv he.s⟩
def Jo(i j:Nat)(qa qb:QE):QS:=fun D q=>qa q fun t=>t.im=true/\qb q fun u=>u.im=true/\D.nx ((q.set i (.o t)).set j (.o u))
theorem Cz{i:Nat}(ha:fK K ta qa)(hb:fK K tb qb):gD K (F9 i j (bP ta (bP tb eD))) (Jo i j qa qb):=fun dl H₀ hs H σ q Dq D ⟨F,r⟩ hq E=>by
 refine ha dl H σ q _ _ r.rd hq fun v t F1 H1 e1 r1 ⟨m1,hq⟩=>hb dl H1 σ q _ _ (r.rd.evo e1) hq fun w u F2 H2 e2 r2 hPP=>?_
 obtain⟨m2,hq⟩:=hPP;obtain rfl:=r1.r.im m1;obtain rfl:=r2.r.im m2;refine⟨v,w,rfl,?_⟩;obtain⟨F1,R1⟩:=r.C8 (i:=i) (e1.trans e2) (r1.evo e1.d e2) (fun _ z=>nomatch z) List.nodup_nil
 exact E.nx _ _ _ (R1.C8 (.refl R1.d) r2 (fun _ z=>nomatch z) List.nodup_nil) hq
def T.key:T->Option Key
 | .i x=>some (.inl x)
 | .s x=>some (.inr x)
 | _=>none
theorem az.key{v:V}{t:T}{F:List Addr}{k:Key}(h:az K dl H v t F)(e:t.key=some k):v=kV k:=by
 cases h <;> first |(cases e;rfl)|cases e
def cc(ks:List (Key×T))(k:Key):Option T:=(ks.find? fun p=>decide (p.1=k)).map (·.2)
def xU(ks:List (Key×T))(k:Key)(t:T):List (Key×T):=if(ks.any fun p=>decide (p.1=k))=true then ks.map (fun p=>if p.1=k then(p.1,t)else p)else ks ++ [(k,t)]
theorem aL.look{vs:List (Key×V)}{ts:List (Key×T)}{F:List Addr}(k:Key)(h:aL K dl H vs ts F):(cc ts k=none/\c7 vs k=none)\/∃ t v G,cc ts k=some t/\c7 vs k=some v/\az K dl H v t G/\∀ b∈G,b∈F :=
 h.ind (M:=fun vs ts F=>(cc ts k=none/\c7 vs k=none)\/∃ t v G,cc ts k=some t/\c7 vs k=some v/\az K dl H v t G/\∀ b∈G,b∈F) (.inl ⟨rfl,rfl⟩) fun k0 v x vs ts F G h r ih=>by
  by_cases e:k0=k
  ·subst e;exact .inr ⟨_,_,_,by simp[cc],by simp[c7],h,fun b hb=>List.mem_append_left _ hb⟩
  ·rcases ih with⟨h1,h2⟩ |⟨t,v,G,h1,h2,h3,h4⟩
   ·refine .inl ⟨?_,?_⟩
    ·unfold cc at h1 ⊢;rw[List.find?_cons,decide_eq_false e];exact h1
    ·unfold c7 at h2 ⊢;rw[List.find?_cons,decide_eq_false e];exact h2
   ·refine .inr ⟨t,v,G,?_,?_,h3,fun b hb=>List.mem_append_right _ (h4 b hb)⟩
    ·unfold cc at h1 ⊢;rw[List.find?_cons,decide_eq_false e];exact h1
    ·unfold c7 at h2 ⊢;rw[List.find?_cons,decide_eq_false e];exact h2
mutual
def T.imk:List (Key×T)->Bool
 | []=>true
 | (_,x)::r=>x.im&&T.imk r
end
theorem aL.im{vs:List (Key×V)}{ts:List (Key×T)}{F:List Addr}(h:aL K dl H vs ts F):T.imk ts=true->F = []:=h.ind (M:=fun _ t F=>T.imk t=true->F = []) (fun _=>rfl) (fun _ _ _ _ _ _ _ h _ ih=>l9 h.im ih)
theorem aL.keys{vs:List (Key×V)}{ts:List (Key×T)}{F:List Addr}(h:aL K dl H vs ts F)(k:Key):(vs.any fun p=>decide (p.1=k))=ts.any fun p=>decide (p.1=k) :=
 h.ind (M:=fun vs ts _=>(vs.any fun p=>decide (p.1=k))=ts.any fun p=>decide (p.1=k)) rfl fun _ _ _ _ _ _ _ _ _ ih=>by rw[List.any_cons,List.any_cons,ih]
theorem aL.put{k:Key}{w:V}{t:T}(hw:az K dl H w t []):∀{vs:List (Key×V)}{ts:List (Key×T)},aL K dl H vs ts []->aL K dl H (putK vs k w) (xU ts k t) []:=by
 have mp:∀{vs:List (Key×V)}{ts:List (Key×T)}{F:List Addr},aL K dl H vs ts F->F = []->aL K dl H (vs.map fun p=>if p.1=k then(p.1,w)else p) (ts.map fun p=>if p.1=k then(p.1,t)else p) []:=by
  intro vs ts F h
  induction ts generalizing vs F with
  | nil=>intro _;cases h;exact .nil
  | cons p ts ih =>
   cases h with
   | @cons k0 v x vs _ F1 F2 h1 h2 =>
    intro e;obtain⟨e1,e2⟩:=List.append_eq_nil_iff.mp e;subst e1 e2;have z:=ih h2 rfl;rw[List.map_cons,List.map_cons];by_cases e0:k0=k
    ·show aL K dl H ((if k0=k then(k0,w)else(k0,v))::_) ((if k0=k then(k0,t)else(k0,x))::_) ([] ++ [])
     rw[if_pos e0,if_pos e0];exact .cons hw z
    ·show aL K dl H ((if k0=k then(k0,w)else(k0,v))::_) ((if k0=k then(k0,t)else(k0,x))::_) ([] ++ [])
     rw[if_neg e0,if_neg e0];exact .cons h1 z
 have sn:∀{vs:List (Key×V)}{ts:List (Key×T)}{F:List Addr},aL K dl H vs ts F->aL K dl H (vs ++ [(k,w)]) (ts ++ [(k,t)]) F:=by
  intro vs ts F h
  induction ts generalizing vs F with
  | nil=>cases h;exact .cons (F:=[]) hw .nil
  | cons p ts ih =>
   cases h with
   | cons h1 h2=>exact .cons h1 (ih h2)
 intro vs ts h;unfold putK xU;rw[h.keys k]
 split
 ·exact mp h rfl
 ·exact sn h
theorem Rel.Gr{i:Nat}{p:Addr}{ws:List (Key×V)}{xs ys:List (Key×T)}(r:Rel K dl H₀ hs H σ q F)(hi:q[i]? = some (.o (.d xs)))(hv:σ[i]? = some (some (.ref p)))(e:Evo dl H H')
  (rs:aL K dl H' ws ys []):gE K dl H₀ hs (upd H' p (.dK ws)) σ (q.set i (.o (.d ys))):=by
 have r':=r.evo e;obtain⟨v',hv',rp⟩:=r'.g i _ _ hi rfl;rw[hv]at hv';cases hv';obtain⟨p2,vs2,G2,e2,eF,h1,h2⟩:=rp.r.dic;cases e2;have pn:Nd dl p:=rp.n p (by rw[eF];exact List.mem_cons_self)
 have tf:TF H' (upd H' p (.dK ws)):=⟨fun a us h=>(by
  rw[aj];exact h;intro z;subst z;rw[h]at h1;cases h1),fun a ob u h=>(by
  rw[aj];exact h;intro z;subst z;rw[h]at h1;cases h1),fun a φ h=>(by
  rw[aj];exact h;intro z;subst z;rw[h]at h1;cases h1),fun a xs' h=>(by
  have ne:a≠p:=by
   intro z;subst z;rw[h]at h1;cases h1
  exact⟨xs',by rw[aj ne];exact h⟩),fun a x h=>⟨x,Int.le_refl _,by
  rw[aj];exact h;intro z;subst z;rw[h]at h1;cases h1⟩⟩
 have rs2:aL K dl (upd H' p (.dK ws)) ws ys []:=rs.cD tf (fun _ z=>z) fun _ z=>nomatch z
 exact⟨_,r'.write (t':=.d ys) (F':=[p]) hi hv (by rw[eF];exact List.mem_cons_self) (fun xs' h=>by rw[h1]at h;cases h) ⟨.d aw rs2,fun b hb=>by rw[List.mem_singleton.mp hb];exact pn⟩ (by simp) fun b hb=>by rw[List.mem_singleton.mp hb,eF];exact .inl List.mem_cons_self⟩
def Ji(neg:Bool):R2:=fun y x H Q=>∃ a o,x = .ref a/\hU H a y o/\Q (.bl (if neg then !o.isSome else o.isSome)) H
theorem Ha(hu:X.A.units+1<cLine):OpR X (compareOp .In) (Ji false):=by
 intro gV s σ H y x u v Q I ry rx h;obtain⟨a,o,rfl,g,q⟩:=h;cases rx;exact NF hu I g ry fun s' I'=>⟨.bl _,H,I',rfl,q⟩
def Lk:T->Option Str
 | .s x=>some x
 | _=>none
abbrev txs:List T->Option (List Str):=picks Lk
theorem au.txs{vs:List V}{ts:List T}{F:List Addr}{bs:List Str}(h:au K dl H vs ts F)(e:L2.txs ts=some bs):vs=bs.map V.str :=
 h.picks (f:=Lk) (fun v t F a h e=>by cases t <;> first |(cases e;exact h.str.1)|cases e) e
theorem Cj(bs:List Str):txs (bs.map T.s)=some bs:=by
 induction bs with
 | nil=>rfl
 | cons b r ih=>show(txs (r.map T.s)).map (b :: ·)=_;rw[ih];rfl
def Jq(qo qe:QE):QE:=fun q Q=>qo q fun s=>match s with
 | .s sep=>qe q fun t=>match t with
  | .l xs=>∃ ys,txs xs=some ys/\(ys.map (·.length)).sum+ys.length*sep.length<=16777216/\Q (.s (Txt.join sep ys))
  | _=>False
 | _=>False
theorem C1(ho:QPE X K o to qo)(he:QPE X K e te qe)(hK:X.K=K:=by rfl)(bN:attributeBase o "join" X.env (eval o X.env)=eval o X.env:=by rfl)
  (gm:((backTo aQ (starEach [e] X.env)).all (fun x=>!x.1)&&(backToKw aQ (keywordEach [] X.env)).all (fun x=>x.1.isSome)
   && decide (([e]:List Expr).length+([]:List Keyword).length+(if([]:List Keyword).isEmpty then 0 else 1)<30))=true:=by rfl)
  (bM:(apos.endLine==aQ.line)=true:=by rfl) (hs:starEach [e] X.env =(false,eval e X.env)::starEach [] X.env:=by rfl) (cf:(backTo aQ (starEach [] X.env)).any (·.1)=false:=by rfl) :
  QPF X K (.Call (.Attribute o "join" apos) [e] [] aQ) (tBM K "str" (rJoin K) to (bP te eD)) (Jq qo qe):=⟨by
 subst hK;exact rT PySem.F.plainAttrs_str PySem.F.slot_str_join PySem.F.type_str_join DT ho.h (a8 he.h cH hs) bN gm bM hs cf,fun dl H σ q Q R rd hq k=>ho.s dl H σ q _ _ rd hq fun v t F H1 e1 r1 hq=>by
  split at hq
  ·obtain⟨rfl,_⟩:=r1.r.str;refine⟨rfl,he.s dl H1 σ q _ _ (rd.evo e1) hq fun w u F2 H2 e2 r2 hq=>?_⟩
   split at hq
   ·obtain⟨ys,hy,hz,hq⟩:=hq;obtain⟨p,vs,G,rfl,eF,h1,h2⟩:=r2.r.lst;have ev:=h2.txs hy;subst ev;exact⟨_,p,ys,rfl,rfl,SqL.of h1,hz,k _ _ [] H2 (e1.trans e2) (.c (.s _)) (fun _ z=>nomatch z) List.nodup_nil hq⟩
   ·exact hq.elim
  ·exact hq.elim⟩
def Ff(i:Nat)(qk qv:QE):QS:=fun D q=>qv q fun t=>match q[i]? with
 | some (.o (.l xs))=>qk q fun u=>match u with
  | .i k=>∃ j,ixN xs.length k=some j/\T.ims xs=true/\t.im=true/\D.nx (q.set i (.o (.l (xs.set j t))))
  | _=>False
 | _=>False
end
def sC(vs ws:List V):Bool:=vs.length==ws.length&&(List.range vs.length).all fun j=>match vs[j]?,ws[j]? with|some x,some y=>eqV x y | _,_=>false
variable{its:List Value}
section
variable{X:Cx}{K:W.Frag}
theorem Vals.at'{vs:List V}(r:Vals vs its)(h:j<its.toArray.size):∃ v,vs[j]? = some v/\RelV v its.toArray[j]:=by
 have hl:=r.length;have hj:j<its.length:=by simpa using h
 have hv:j<vs.length:=by omega
 obtain⟨u,h1,h2⟩:=r.get (i:=j) (x:=vs[j]) (by simp[hv])
 have:its[j]? = some its[j]:=by simp[hj]
 rw[this]at h1;cases h1;exact⟨vs[j],by simp[hv],by simpa using h2⟩
theorem kO{vs:List V}{v:V}(h:vs.all cy=true)(e:vs[j]? = some v):cy v=true:=List.all_eq_true.mp h v (List.mem_of_getElem? e)
def Jh(K:W.Frag):R2:=fun x y H Q=>∃ p q vs ws,x = .ref p/\y = .ref q/\((SqL K H p vs/\SqL K H q ws)\/(SqT K H p vs/\SqT K H q ws))/\vs.all cy=true/\ws.all cy=true/\Q (.bl (sC vs ws)) H
theorem G9(hu:X.A.units+1<cLine):OpR X (compareOp .Eq) (Jh X.K):=by
 intro gV s σ H x y v u Q I rx ry h;obtain⟨p,q,vs,ws,rfl,rfl,hs,f1,f2,k⟩:=h;cases rx;cases ry;rcases hs with⟨h1,h2⟩ |⟨h1,h2⟩
 ·obtain⟨its,r1,p1,_⟩:=I.list h1;obtain⟨bu,r2,p2,_⟩:=I.list h2;have l1:=r1.length;have l2:=r2.length;by_cases hl:its.length=bu.length
  ·refine SeqAt.eq_listAt (e:=fun j=>match vs[j]?,ws[j]? with|some x,some y=>eqV x y | _,_=>false) p1.isList p2.isList (by simpa using hl) (by omega) (fun j g1 g2=>?_) ⟨.bl _,H,I,rfl,?_⟩
   ·obtain⟨a,ea,ra⟩:=r1.at' g1;obtain⟨b,eb,rb⟩:=r2.at' g2;simp only[ea,eb];exact jU ra rb (kO f1 ea) (kO f2 eb)
   ·have e:sC vs ws =(List.range its.toArray.size).all fun j=>match vs[j]?,ws[j]? with|some x,some y=>eqV x y | _,_=>false:=by
     unfold sC;rw[show(vs.length==ws.length)=true from by simp;omega,Bool.true_and,List.size_toArray,l1]
    rw[<- e];exact k
  ·refine SeqAt.eq_list_lengthsAt p1.isList p2.isList (by simpa using hl) (by omega) ⟨.bl _,H,I,rfl,?_⟩
   have e:sC vs ws=false:=by
    unfold sC;rw[show(vs.length==ws.length)=false from by simp;omega,Bool.false_and]
   rw[<- e];exact k
 ·obtain⟨its,r1,p1,_⟩:=I.tuple h1;obtain⟨bu,r2,p2,_⟩:=I.tuple h2;have l1:=r1.length;have l2:=r2.length;refine SeqAt.eq_tupleAt (e:=fun j=>match vs[j]?,ws[j]? with|some x,some y=>eqV x y | _,_=>false) (show s.heap.IsTuple p its.toArray from p1) (show s.heap.IsTuple q bu.toArray from p2) (by omega) (fun j g1 g2=>?_) ⟨.bl _,H,I,rfl,?_⟩
  ·obtain⟨a,ea,ra⟩:=r1.at' g1;obtain⟨b,eb,rb⟩:=r2.at' g2;simp only[ea,eb];exact jU ra rb (kO f1 ea) (kO f2 eb)
  ·have e:sC vs ws =((List.range (min its.toArray.size bu.toArray.size)).all (fun j=>match vs[j]?,ws[j]? with|some x,some y=>eqV x y | _,_=>false)&&its.toArray.size==bu.toArray.size):=by
    unfold sC;rw[List.size_toArray,List.size_toArray,<- l1,<- l2,Bool.and_comm];by_cases hl:vs.length=ws.length
    ·rw[hl,Nat.min_self]
    ·rw[show(vs.length==ws.length)=false from by simpa using hl,Bool.and_false,Bool.and_false]
   rw[<- e];exact k
def eqF(xs ys:List T):Bool:=sC (xs.map T.v) (ys.map T.v)
def C7:Q2:=fun t u Q=>match t,u with
 | .l xs,.l ys=>(fls xs&&fls ys)=true/\Q (.b (eqF xs ys))
 | .t xs,.t ys=>(fls xs&&fls ys)=true/\Q (.b (eqF xs ys))
 | t,u=>qEq t u Q
def Gv(K:W.Frag):R2:=fun x y H Q=>rEq x y H Q\/Jh K x y H Q
theorem uu(hu:X.A.units+1<cLine)(hK:X.K=K):OpR X (compareOp .Eq) (Gv K):=by subst hK;exact Fo.or (G9 hu)
theorem oo:cM K (Gv K) C7:=by
 intro dl H x y t u F G Q R D r1 r2 hq k;unfold C7 at hq
 split at hq
 ·obtain⟨p,vs,G1,rfl,rfl,h1,h2⟩:=r1.r.lst;obtain⟨p',vs',G2,rfl,rfl,h3,h4⟩:=r2.r.lst;obtain⟨f,hq⟩:=hq;rw[Bool.and_eq_true]at f;obtain⟨rfl,rfl⟩:=h2.vs f.1;obtain⟨rfl,rfl⟩:=h4.vs f.2;exact .inr ⟨p,p',_,_,rfl,rfl,.inl ⟨SqL.of h1,SqL.of h3⟩,me f.1,me f.2,k _ _ [] H (.refl D) (.c (.b _)) (fun _ z=>nomatch z) List.nodup_nil hq⟩
 ·obtain⟨p,vs,rfl,h1,h2⟩:=r1.r.tup;obtain⟨p',vs',rfl,h3,h4⟩:=r2.r.tup;obtain⟨f,hq⟩:=hq;rw[Bool.and_eq_true]at f;obtain⟨rfl,rfl⟩:=h2.vs f.1;obtain⟨rfl,rfl⟩:=h4.vs f.2;exact .inr ⟨p,p',_,_,rfl,rfl,.inr ⟨SqT.of h1,SqT.of h3⟩,me f.1,me f.2,k _ _ [] H (.refl D) (.c (.b _)) (fun _ z=>nomatch z) List.nodup_nil hq⟩
 ·exact .inl (Gm dl H x y t u F G Q R D r1 r2 hq k)
end
end L2
namespace PySem
open Sem (wp)
section
variable{prog:Program}{w:World}{A:Around}{E:Value->Shared->Prop}
theorem kr:typeLookup (.type "tuple") "keys" = pure none:=am_miss_of_fast (by decide +kernel)
theorem lX:typeLookup (.type "list") "keys" = pure none:=am_miss_of_fast (by decide +kernel)
set_option maxRecDepth 8000 in
theorem ku{s:Shared}{a:Addr}{o:Obj}{xs:Array Value}{k:Nat}{Q:Option Value->Shared->Prop}
  (hx:s.heap.get? a=some o) (hc:o.cls = .type "tuple") (Ba:o.data = .seq xs k) (hd:o.dict=none) (hA:A.handled=none)
  (h:∀ h' tk,(∀ b o,s.heap.get? b=some o->h'.get? b=some o)->Q none { s with heap:=h',toks:=tk }) :
  wpAny (model prog w) A (getAttr? (.ref a) "keys") Q E s:=by
 obtain⟨c,dct,dat,sl⟩:=o;simp only at hc Ba hd;subst hc Ba hd;obtain⟨hp,g,d,tk,os⟩:=s;have hT:∀ tk',(⟨hp,g,d,tk',os⟩:Shared).TypeIs (.ref a) "tuple":=fun _=>⟨_,hx,rfl⟩
 have f1:=sub_AttributeError;have f3:=F.slot_tuple_getattribute.lookup;have f4:=F.slot_tuple_getattribute.bind (.ref a);have f5:=am_tuple_getattr_none;unfold getAttr? getAttrBy? getAttrBy
 repeat (any_goals (first|assumption|exact hT _ |((with_reducible show wpAny _ _ (call (Value.builtin "tuple.__getattribute__") _ _) _ _ _);refine call_meets F.slot_tuple_getattribute (hT _) am_entry_tuple_getattribute (F.args_tuple_getattribute_2 _ _) (meets_getattribute_miss_tuple a xs k sl "keys" _ kr (by decide +kernel) (by decide +kernel)) ⟨hx,hA,fun h' tk' e hx'=>?_⟩)|wp_step))
 obtain⟨t',u',he⟩:=hx'.there;show wpAny _ _ (getattributeRaised _ _ _ _ _ _ _) _ _ _;unfold getattributeRaised
 repeat (any_goals (first|assumption|wp_step))
 exact h _ _ hx'.keeps
set_option maxRecDepth 8000 in
theorem lV{s:Shared}{a:Addr}{o:Obj}{xs:Array Value}{k:Nat}{Q:Option Value->Shared->Prop}
  (hx:s.heap.get? a=some o) (hc:o.cls = .type "list") (Ba:o.data = .seq xs k) (hd:o.dict=none) (hA:A.handled=none)
  (h:∀ h' tk,(∀ b o,s.heap.get? b=some o->h'.get? b=some o)->Q none { s with heap:=h',toks:=tk }) :
  wpAny (model prog w) A (getAttr? (.ref a) "keys") Q E s:=by
 obtain⟨c,dct,dat,sl⟩:=o;simp only at hc Ba hd;subst hc Ba hd;obtain⟨hp,g,d,tk,os⟩:=s;have hT:∀ tk',(⟨hp,g,d,tk',os⟩:Shared).TypeIs (.ref a) "list":=fun _=>⟨_,hx,rfl⟩
 have f1:=sub_AttributeError;have f3:=F.slot_list_getattribute.lookup;have f4:=F.slot_list_getattribute.bind (.ref a);have f5:=am_list_getattr_none;unfold getAttr? getAttrBy? getAttrBy
 repeat (any_goals (first|assumption|exact hT _ |((with_reducible show wpAny _ _ (call (Value.builtin "list.__getattribute__") _ _) _ _ _);refine call_meets F.slot_list_getattribute (hT _) am_entry_list_getattribute (F.args_list_getattribute_2 _ _) (meets_getattribute_miss_list a xs k sl "keys" _ lX (by decide +kernel) (by decide +kernel)) ⟨hx,hA,fun h' tk' e hx'=>?_⟩)|wp_step))
 obtain⟨t',u',he⟩:=hx'.there;show wpAny _ _ (getattributeRaised _ _ _ _ _ _ _) _ _ _;unfold getattributeRaised
 repeat (any_goals (first|assumption|wp_step))
 exact h _ _ hx'.keeps
end
end PySem
namespace PySem
open Sem (wp)
namespace F
theorem cJ:entryFor table "dict.update.loop" = some Builtin.«dict.update.loop»:=entryFor_of_tree (by kernel_rfl)
theorem a5:plainId "dict.update.loop" = true:=by decide +kernel
end F
section
variable{prog:Program}{w:World}{A:Around}{R:Result->Shared->Prop}{I:Addr}{fp wr:List Addr}{n:Nat}{P:Nat->Value->Prop}{St:Nat->Heap->Prop}{κ:Type}[DecidableEq κ]{knd:KeyKind prog w κ}
theorem mR(kvs:List (κ×Value))(k:κ)(v:Value):(stored kvs k v).length<=kvs.length+1:=by
 unfold stored
 split <;> simp
theorem mU(kvs:List (κ×Value)):∀(more:List (κ×Value)),(merged kvs more).length<=kvs.length+more.length:=by
 intro more
 induction more generalizing kvs with
 | nil=>exact Nat.le_refl _
 | cons p r ih =>
  have h1:=ih (stored kvs p.1 p.2);have h2:=mR kvs p.1 p.2;show(merged (stored kvs p.1 p.2) r).length<=_;simp only[List.length_cons];omega
theorem d6(W:Walks prog w A.in1 I fp wr n P St)(S:Addr)(hSf:S ∉ fp)(res:Value)(h0:Heap)(kvs pairs:List (κ×Value))(hsz:kvs.length+pairs.length<=sizeLine)(hnl:pairs.length=n)
  (hp:∀ i v,P i v->∃(a:Addr)(o:Obj)(key val:Value)(k:κ)(m:Nat),v = .ref a/\pairs[i]? = some (k,val)/\knd.is k key=true/\h0.get? a=some o/\o.cls = .type "tuple" /\ o.data = .seq #[key,val] m/\a ∉ wr/\a≠S) :
  ∀(j i:Nat)(s:Shared),n - i=j->i<=n->St i s.heap->s.heap.DictOf knd S (merged kvs (pairs.take i)) ->(∀ b o,b ∉ wr->b≠S->h0.get? b=some o->s.heap.get? b=some o) ->
  (∀ h' tk,(∀ b o,b ∉ wr->b≠S->s.heap.get? b=some o->h'.get? b=some o)->h'.DictOf knd S (merged kvs pairs)->R (.ok (.ret res)) { s with heap:=h',toks:=tk }) ->
  codeAny (model prog w) A (.builtin "dict.update.loop" ⟨[.ref S,.ref I,rawInt i,res],[]⟩) R s:=by
 have hSw:S ∉ wr:=fun h=>hSf (W.sub _ h)
 intro j
 induction j with
 | zero =>
  intro i s hk hi hst hS hk0 hR;have hin:i=n:=by omega
  subst hin;refine codeAny_builtin F.cJ ?_;rw[Around.under_plainId F.a5 _];show wpAny _ A.in1 (pyNext (.ref I) >>= _) _ _ s;refine wpAny_bind (W.done s _ _ hst fun h' tk hk'=>?_)
  show wpAny _ A.in1 (Builtin.Dict.addKeywords S [] >>= _) _ _ _;refine wpAny_bind (wpAny_pure (wpAny_pure (hR h' tk (fun b o hb _ e=>hk' b o hb e) ?_)))
  rw[<- hnl,List.take_length]at hS;obtain⟨o,es,ep,ho,r⟩:=hS;exact⟨o,es,ep,hk' S o hSw ho,r⟩
 | succ j ih =>
  intro i s hk hi hst hS hk0 hR;have hlt:i<n:=by omega
  refine codeAny_builtin F.cJ ?_;rw[Around.under_plainId F.a5 _];show wpAny _ A.in1 (pyNext (.ref I) >>= _) _ _ s;refine wpAny_bind (W.item i s _ _ hlt hst fun v h' tk hP HG hk'=>?_)
  obtain⟨a,o,key,val,k,m,rfl,hpi,HL,ho,hc,hd,haw,haS⟩:=hp i v hP;have ho':h'.get? a=some o:=hk' a o haw (hk0 a o haw haS ho);have hS':h'.DictOf knd S (merged kvs (pairs.take i)):=by
   obtain⟨o,es,ep,ho,r⟩:=hS;exact⟨o,es,ep,hk' S o hSw ho,r⟩
  show wpAny _ A.in1 (holding [Value.ref a] _ >>= _) _ _ _;refine wpAny_bind (wpAny_holding ?_);refine wpAny_bind (wpAny_tryCatch ?_);unfold Builtin.Dict.pairItems;refine wpAny_bind (wpAny_typeOf (T:="tuple") ⟨o,ho',hc⟩ ?_);rw[if_pos (by decide)]
  refine wpAny_bind (wpAny_seqItems ho' hd (wpAny_pure ?_));show wpAny _ A.in1 (holding [key,val] (dictSet S key val)) _ _ _;have hml:(merged kvs (pairs.take i)).length<=sizeLine:=by
   have h1:=mU kvs (pairs.take i);rw[List.length_take]at h1;omega
  refine wpAny_holding (wpAny_dictSet_pairs (hsz:=hml) HL hS' fun h'' KN hsb=>?_)
  have e:=merged_take_succ kvs pairs i (k,val) hpi;rw[<- e]at KN;have fr:∀ b o,b≠S->h'.get? b=some o->h''.get? b=some o:=fun b o hb eb=>(hsb.2 b hb).trans eb
  refine wpAny_pure ⟨plainId_quiet F.a5 _,ih (i+1) _ (by omega) hlt (W.frame _ _ _ HG fun b hb o eb=>fr b o (fun z=>hSf (z▸hb)) eb) KN (fun b o hb hbS eb=>fr b o hbS (hk' b o hb (hk0 b o hb hbS eb))) fun h3 tk3 hk3 hS3=>?_⟩
  exact hR h3 tk3 (fun b o hb hbS eb=>hk3 b o hb hbS (fr b o hbS (hk' b o hb eb))) hS3
end
end PySem
namespace PySem
open Sem (wp)
section
variable{prog:Program}{w:World}{A:Around}{E:Value->Shared->Prop}{s:Shared}{κ:Type}[DecidableEq κ]{knd:KeyKind prog w κ}
theorem eh{S p:Addr}{its:Array Value}{kvs pairs:List (κ×Value)}{id:String}{res:Value}{R:Result->Shared->Prop}(hh:A.handled=none)(hS:s.heap.DictOf knd S kvs)(hpS:p≠S)
  (ho:∃(o:Obj)(n:Nat),s.heap.get? p=some o/\o.dict=none/\o.data = .seq its n/\(o.cls = .type "tuple" \/ o.cls = .type "list")) (hsz:kvs.length+pairs.length<=sizeLine) (hnl:pairs.length=its.size)
  (hp:∀(i:Nat)(v:Value),its[i]? = some v->∃(a:Addr)(o:Obj)(key val:Value)(k:κ)(m:Nat),v = .ref a/\pairs[i]? = some (k,val)/\knd.is k key=true/\s.heap.get? a=some o/\o.cls = .type "tuple" /\ o.data = .seq #[key,val] m)
  (hR:∀ h' tk,(∀ b o,b≠S->s.heap.get? b=some o->h'.get? b=some o)->h'.DictOf knd S (merged kvs pairs)->R (.ok (.ret res)) { s with heap:=h',toks:=tk }) :
  wpAny (model prog w) A.in1 (Builtin.Dict.updateFrom id S (.ref p) [] res) (fun fin s'=>match fin with | .done f=>R (.ok f) s' | .again c'=>c'.quiet=true/\codeAny (model prog w) A c' R s') (fun e s'=>R (.error e) s') s:=by
 obtain⟨o,n,hg,hdn,hdt,hcl⟩:=ho;have N1:p<s.heap.objs.size:=Heap.lt_size hg;have N3:S<s.heap.objs.size:=by obtain⟨_,_,_,e,_⟩:=hS;exact Heap.lt_size e
 have fin:∀(h1:Heap)(tk:Nat)(h2:Heap)(I:Addr)(St:Nat->Heap->Prop),(∀ b o,s.heap.get? b=some o->h1.get? b=some o) ->(∀ b o,h1.get? b=some o->h2.get? b=some o)->h1.objs.size<=I->Walks prog w A.in1 I [I,p] [I] its.size (fun i v=>its[i]? = some v) St->St 0 h2 ->
   codeAny (model prog w) A (.builtin "dict.update.loop" ⟨[.ref S,.ref I,rawInt 0,res],[]⟩) R { s with heap:=h2,toks:=tk }:=by
  intro h1 tk h2 I St k1 k2 hI W hst;have lt1:∀ b o,s.heap.get? b=some o->b≠I:=fun b o e z=>by
   have:b<h1.objs.size:=Heap.lt_size (k1 b o e)
   exact absurd (Nat.lt_of_lt_of_le this hI) (by rw[z];exact Nat.lt_irrefl _)
  have hSI:S ∉ [I,p]:=fun z=>by
   obtain⟨o,_,_,e,_⟩:=hS;rcases List.mem_cons.mp z with z|z
   ·exact lt1 S o e z
   ·exact hpS (List.mem_singleton.mp z).symm
  refine d6 (knd:=knd) W S hSI res s.heap kvs pairs hsz hnl (fun i v hP=>?_) its.size 0 _ rfl (Nat.zero_le _) hst ?_ (fun b o _ _ e=>k2 b o (k1 b o e)) fun h' tk' hk hS'=>?_
  ·obtain⟨a,oa,key,val,k,m,e1,e2,e3,e4,e5,e6⟩:=hp i v hP;refine⟨a,oa,key,val,k,m,e1,e2,e3,e4,e5,e6,fun z=>lt1 a oa e4 (List.mem_singleton.mp z),fun z=>?_⟩
   obtain⟨o,_,_,e,hc,hd,_⟩:=hS;rw[<- z,e4]at e;cases e;rw[e6]at hd;cases hd
  ·obtain⟨o,es,ep,e,r⟩:=hS;exact⟨o,es,ep,k2 _ _ (k1 _ _ e),r⟩
  ·exact hR h' tk' (fun b o hb e=>hk b o (fun z=>lt1 b o e (List.mem_singleton.mp z)) hb (k2 b o (k1 b o e))) hS'
 unfold Builtin.Dict.updateFrom;rcases hcl with hcl|hcl
 ·refine wpAny_bind (wpAny_typeOf (T:="tuple") ⟨o,hg,hcl⟩ ?_);rw[if_pos (by decide)]
  refine wpAny_bind (ku hg hcl hdt hdn hh fun h1 tk k1=>?_)
  rw[if_pos (show(none:Option Value).isNone=true from rfl)];refine wpAny_bind (wpAny_rule ?_);have hT:h1.IsTuple p its:=⟨o,k1 _ _ hg,hcl,n,hdt⟩;refine wpAny_bind (wpAny_pyIter_tuple hT ?_);refine wpAny_pure ⟨plainId_quiet F.a5 _,?_⟩;exact fin h1 tk _ h1.objs.size _ k1 (fun b o e=>Heap.get?_push_of_some _ e) (Nat.le_refl _) (Walks.tuple (show A.in1.handled=none from hh) _ p (Nat.ne_of_lt (Heap.lt_size (k1 _ _ hg))) its) ⟨⟨_,Heap.get?_push_size _ rfl,rfl,rfl⟩,hT.push _⟩
 ·refine wpAny_bind (wpAny_typeOf (T:="list") ⟨o,hg,hcl⟩ ?_);rw[if_pos (by decide)]
  refine wpAny_bind (lV hg hcl hdt hdn hh fun h1 tk k1=>?_)
  rw[if_pos (show(none:Option Value).isNone=true from rfl)];refine wpAny_bind (wpAny_rule ?_);have hT:h1.IsList p its:=⟨o,k1 _ _ hg,hcl,n,hdt⟩;refine wpAny_bind (wpAny_pyIter_list hT ?_);refine wpAny_pure ⟨plainId_quiet F.a5 _,?_⟩;exact fin h1 tk _ h1.objs.size _ k1 (fun b o e=>Heap.get?_push_of_some _ e) (Nat.le_refl _) (Walks.list (show A.in1.handled=none from hh) _ p (Nat.ne_of_lt (Heap.lt_size (k1 _ _ hg))) its) ⟨⟨_,Heap.get?_push_size _ rfl,rfl,rfl⟩,hT.push _⟩
end
end PySem
namespace L2
open PySem PySem.Spec PyProof.Rows
variable{gV:List (Addr×Obj)}{H:Hp}{a:Addr}
section
variable{X:Cx}{K:W.Frag}
theorem Inv.F6{σ:St}{s:Shared}{xs:List V}(I:Inv X gV σ H s)(h:H a=some (.tup xs)):∃ its:List Value,Vals xs its/\iR s.heap a its.toArray/\xs.length<=sizeLine:=by
 obtain⟨z,its,r,p⟩:=(show aV X.prog X.w H s.heap a (.tup xs)from I.hok a _ h);exact⟨its,r,p,z⟩
theorem rW{σ:St}{s:Shared}(I:Inv X gV σ H s):∀{ps:List Addr}{kvs:List (Key×V)}{us:List Value},Vals (ps.map V.ref) us->ps.length=kvs.length ->(∀(i:Nat)(p:Addr)(kv:Key×V),ps[i]? = some p->kvs[i]? = some kv->H p=some (.tup [kV kv.1,kv.2])) ->
  ∃ pairs:List (Key×Value),KV kvs pairs/\∀(i:Nat)(v:Value),us[i]? = some v->∃(a:Addr)(o:Obj)(key val:Value)(k:Key)(m:Nat),v = .ref a/\pairs[i]? = some (k,val)/\(aY X.prog X.w).is k key=true/\s.heap.get? a=some o/\o.cls = .type "tuple" /\ o.data = .seq #[key,val] m:=by
 intro ps
 induction ps with
 | nil =>
  intro kvs us r hl _;have e:kvs = []:=by cases kvs with|nil=>rfl|cons _ _=>simp at hl
  subst e;cases r;exact⟨[],.nil,fun i v h=>by simp at h⟩
 | cons p ps ih =>
  intro kvs us r hl h;cases kvs with
  | nil=>simp at hl
  | cons kv kvs =>
   cases r with
   | @cons _ u _ us r1 r2 =>
    obtain⟨pairs,h1,h2⟩:=ih (kvs:=kvs) (us:=us) r2 (by simpa using hl) fun i p kv e1 e2=>h (i+1) p kv (by simpa using e1) (by simpa using e2)
    have hp:=h 0 p kv (by simp) (by simp)
    obtain⟨its,ri,⟨o,ho,hc,m,hd⟩,_⟩:=I.tuple (SqT.of (K:=X.K) hp);cases ri with
    | @cons _ key _ rest k1 k2 =>
     cases k2 with
     | @cons _ val _ NV k3 k4 =>
      cases k4;refine⟨(kv.1,val)::pairs,.cons ⟨rfl,k3⟩ h1,fun i v hv=>?_⟩
      cases i with
      | zero =>
       simp at hv;subst hv
       cases(show u=Value.ref p from r1)
       exact⟨p,o,key,val,kv.1,m,rfl,by simp,lZ k1,ho,hc,hd⟩
      | succ i =>
       obtain⟨a,oa,Nf,MF,k,m',e1,e2,e3⟩:=h2 i v (by simpa using hv)
       exact⟨a,oa,Nf,MF,k,m',e1,by simpa using e2,e3⟩
def oH:List V->Hp->VK->Prop:=fun xs H Q=>∃(p:Addr)(ps:List Addr)(kvs:List (Key×V)),xs = [.ref p]/\(H p=some (.tup (ps.map V.ref))\/H p=some (.lst (ps.map V.ref)))/\ps.length=kvs.length /\
 (∀(i:Nat)(a:Addr)(kv:Key×V),ps[i]? = some a->kvs[i]? = some kv->H a=some (.tup [kV kv.1,kv.2]))/\∀ d,H d=none->Q (.ref d) (upd H d (.dK (cI [] kvs)))
theorem bU(hc:X.calm=true):bW X (.type "dict") oH:=by
 intro gV s σ H xs us Q I r h;obtain⟨p,ps,kvs,rfl,hp,hl,hps,q⟩:=h;obtain⟨u,rfl,ru⟩:=vals1 r;cases ru;have hh:X.A.handled=none:=I.ok.hd hc;obtain⟨its,rv,hz,ob⟩:∃ its:List Value,Vals (ps.map V.ref) its/\(ps.map V.ref).length<=sizeLine/\∃(o:Obj)(n:Nat),s.heap.get? p=some o/\o.dict=none/\o.data = .seq its.toArray n/\(o.cls = .type "tuple" \/ o.cls = .type "list"):=by
  rcases hp with hp|hp
  ·obtain⟨its,rv,⟨⟨o,ho,h1,n,h2⟩,o',ho',h3⟩,hz⟩:=I.F6 hp;rw[ho]at ho';cases ho';exact⟨its,rv,hz,o,n,ho,h3,h2,.inl h1⟩
  ·obtain⟨hz,its,n,rv,e⟩:=(show aV X.prog X.w H s.heap p (.lst (ps.map V.ref))from I.hok p _ hp);exact⟨its,rv,hz,_,n,e,rfl,rfl,.inr rfl⟩
 obtain⟨pairs,kv,uT⟩:=rW I rv hl hps;refine callType_codes (Q₁:=fun obj s₁=>obj = .ref s.heap.objs.size/\s₁ ={ s with heap:=s.heap.push { cls:=.type "dict",data:=.dict #[] } }) F.kt_called_dict (F.kt_typeCall_dict_1 _) F.entry_dict_init (kt_code_dict_new _ ⟨rfl,rfl⟩) ?_
 rintro obj s₁ ⟨rfl,rfl⟩
 have uU:(s.heap.push { cls:=.type "dict",data:=.dict #[] }).DictOf (aY X.prog X.w) s.heap.objs.size []:=Heap.DictOf.new s.heap;refine⟨uU.typeIs,F.args_dict_init_2 _ _,?_⟩;unfold Builtin.«dict.__init__»;refine wpAny_bind ?_;unfold Builtin.Dict.selfAndRest;refine wpAny_bind (wpAny_notOrdered_dict uU.typeIs ?_);show wpAny _ _ (pure (s.heap.objs.size,[Value.ref p])) _ _ _;refine wpAny_pure ?_;show wpAny _ _ (Builtin.Dict.updateFrom "dict.__init__" s.heap.objs.size (.ref p) [] .none) _ _ _;obtain⟨o,n,ho,hdn,hdt,hcl⟩:=ob;have hlv:=rv.length;rw[List.length_map]at hlv hz;have hkl:=kv.length;refine eh (A:=X.A.in1) (knd:=aY X.prog X.w) (kvs:=[]) (pairs:=pairs) (its:=its.toArray) hh uU (Nat.ne_of_lt (Heap.lt_size ho)) ⟨o,n,Heap.get?_push_of_some _ ho,hdn,hdt,hcl⟩ (by simp only[List.length_nil];omega) (by rw[List.size_toArray];omega) (fun i v hv=>?_) fun h' tk hk hd=>?_
 ·obtain⟨a,oa,key,val,k,m,e1,e2,e3,e4,e5,e6⟩:=uT i v (by simpa using hv)
  exact⟨a,oa,key,val,k,m,e1,e2,e3,Heap.get?_push_of_some _ e4,e5,e6⟩
 ·refine⟨rfl,.ref s.heap.objs.size,_,I.laid (t':=tk) (h':=h') (a:=s.heap.objs.size) (o:=.dK (cI [] kvs)) (fun b u e=>hk b u (Nat.ne_of_lt (Heap.lt_size e)) (Heap.get?_push_of_some _ e)) (Nat.le_refl _) ?_,rfl,q _ (I.hok.fresh (Nat.le_refl _))⟩
  refine mf ?_ ?_ (KV.merge kv .nil) hd
  ·have:=cW kvs []
   simp only[List.length_nil]at this;omega
  ·have:=I.big
   exact beq_eq_false_iff_ne.mpr (Nat.ne_of_gt this)
end
def cR:List T->Option (List (Key×T))
 | []=>some []
 | .t [k,x]::r=>match k.key,cR r with
  | some k,some r=>some ((k,x)::r)
  | _,_=>none
 | _=>none
def bL(ks more:List (Key×T)):List (Key×T):=more.foldl (fun acc p=>xU acc p.1 p.2) ks
section
variable{X:Cx}{K:W.Frag}{dl:Dl}
theorem au.pairs:∀{vs:List V}{xs:List T}{F:List Addr}{kts:List (Key×T)},au K dl H vs xs F->F = []->cR xs=some kts ->
  ∃(ps:List Addr)(kvs:List (Key×V)),vs=ps.map V.ref/\ps.length=kvs.length/\(∀(i:Nat)(a:Addr)(kv:Key×V),ps[i]? = some a->kvs[i]? = some kv->H a=some (.tup [kV kv.1,kv.2]))/\aL K dl H kvs kts []
 | _,_,_,kts,.nil,_,h=>by
  cases h;exact⟨[],[],rfl,rfl,fun i a kv h=>by simp at h,.nil⟩
 | _,x::xs,_,kts,.cons (F:=F1) h r,e,q=>by
  obtain⟨e1,e2⟩:=List.append_eq_nil_iff.mp e;unfold cR at q
  split at q
  ·rename_i z;cases z
  ·rename_i k y r' z;cases z
   split at q
   ·rename_i k0 r0 ek er;cases q;obtain⟨ps,kvs,rfl,hl,ht,hk⟩:=au.pairs r e2 er;obtain⟨a,ws,rfl,ha,hws⟩:=h.tup;cases hws with
    | @cons w1 _ _ _ G1 G2 w1r w2r =>
     cases w2r with
     | @cons w2 _ _ _ G3 G4 h2 h3 =>
      cases h3;have e3:=w1r.key ek;subst e3;obtain⟨z1,z2⟩:=List.append_eq_nil_iff.mp e1;rw[List.append_nil]at z2;subst z1 z2;refine⟨a::ps,(k0,w2)::kvs,rfl,by simp[hl],fun i b kv h1 h2=>?_,.cons (F:=[]) h2 hk⟩
      cases i with
      | zero =>
       simp at h1 h2;subst h1 h2;exact ha
      | succ i=>exact ht i b kv (by simpa using h1) (by simpa using h2)
   ·cases q
  ·cases q
theorem aL.bL{kvs':List (Key×V)}{kts':List (Key×T)}{kvs:List (Key×V)}{kts:List (Key×T)}{F:List Addr}(h:aL K dl H kvs kts F):F = []->∀{vs:List (Key×V)}{ts:List (Key×T)},aL K dl H vs ts []->aL K dl H (cI vs kvs) (L2.bL ts kts) [] :=
 h.ind (M:=fun kvs kts F=>F = []->∀{vs:List (Key×V)}{ts:List (Key×T)},aL K dl H vs ts []->aL K dl H (cI vs kvs) (L2.bL ts kts) []) (fun _ _ _ h=>h) fun _ _ _ _ _ _ _ h1 _ ih e _ _ h=>by
  obtain⟨e1,e2⟩:=List.append_eq_nil_iff.mp e;subst e1;exact ih e2 (aL.put h1 h)
def v5:QC:=fun ts Q=>match ts with
 | [.t xs]=>T.ims xs=true/\∃ kts,cR xs=some kts/\Q (.d (bL [] kts))
 | [.l xs]=>T.ims xs=true/\∃ kts,cR xs=some kts/\Q (.d (bL [] kts))
 | _=>False
theorem cu:kA K oH v5:=by
 intro dl H vs ts F Q R D r hq k;have go:∀(p:Addr)(ws:List V)(xs:List T),vs = [.ref p] ->(H p=some (.tup ws)\/H p=some (.lst ws))->au K dl H ws xs [] ->(∃ kts,cR xs=some kts/\Q (.d (bL [] kts)))->oH vs H R:=by
  rintro p ws xs rfl hp rs ⟨kts,e,hq⟩
  obtain⟨ps,kvs,rfl,hl,ht,hk⟩:=rs.pairs rfl e;refine⟨p,ps,kvs,rfl,hp,hl,ht,fun d hd=>?_⟩
  have ev:=(Evo.refl D).new (o:=.dK (cI [] kvs)) hd;have h2:aL K dl H (cI [] kvs) (bL [] kts) []:=aL.bL (kvs':=[]) (kts':=[]) hk rfl .nil;exact k _ _ [d] _ ev ⟨.d aw (h2.cD (ev.tf D) (fun _ z=>z) fun _ z=>nomatch z),fun b hb=>by rw[List.mem_singleton.mp hb];exact D.nd0 hd⟩ (fun b hb=>by rw[List.mem_singleton.mp hb];exact hd) (by simp) hq
 unfold v5 at hq
 split at hq
 ·obtain⟨v,rfl,r'⟩:=r.one;obtain⟨p,ws,rfl,h1,h2⟩:=r'.r.tup;have e:=h2.im hq.1;subst e;exact go p ws _ rfl (.inl h1) h2 hq.2
 ·obtain⟨v,rfl,r'⟩:=r.one;obtain⟨p,ws,G,rfl,_,h1,h2⟩:=r'.r.lst;have e:=h2.im hq.1;subst e;exact go p ws _ rfl (.inr h1) h2 hq.2
 ·exact hq.elim
end
variable{j:Nat}{x:Str}{py:Pos}{P:Program}{mg:Str->Option Value}{base:Heap}{fd:FuncData}{ps:List Str}
section
variable{X:Cx}{K:W.Frag}{a b:Expr}{ta tb:TE}{qa qb:QE}{pos:Pos}
theorem GA{i:Nat}{y:Str}{px pt:Pos}{kt k2 pt2}(hc:X.calm=true)(hN:X.N.Nodup)(hi:X.N[i]? = some x)(hj:X.N[j]? = some y)(hij:i≠j)
  (hx:X.env.scope.names.lookup x=some .local) (hy:X.env.scope.names.lookup y=some .local) (ha:QPE X K a ta qa) (hb:QPE X K b tb qb)
  (hw:swappedStores [.Tuple [.Name x px,.Name y py] kt pt] (.Tuple [a,b] k2 pt2) X.env=pure (some [x,y]))
  (hs:swapsWithSole [.Tuple [.Name x px,.Name y py] kt pt] (.Tuple [a,b] k2 pt2) pos.line X.env=pure false:=by rfl)
  (h1:starEach [a,b] X.env =(false,eval a X.env)::starEach [b] X.env:=by rfl) (h2:starEach [b] X.env =(false,eval b X.env)::starEach [] X.env:=by rfl) :
  QPS X K (.Assign [.Tuple [.Name x px,.Name y py] kt pt] (.Tuple [a,b] k2 pt2) pos) (F9 i j (bP ta (bP tb eD))) (Jo i j qa qb) :=
 ⟨GQ hc hN hi hj hij hx hy (a8 ha.h (a8 hb.h cH h2) h1) hw hs,Cz ha.s hb.s⟩
def jF:PSp:=fun ts Q=>match ts with
 | [.cN,.i m]=>0<m/\m<18446744073709551616/\∀ r,0<=r->r<m->Q (.i r)
 | _=>False
theorem iG{w:World}{K:W.Frag}{k:Nat}{f:Addr}(F:bc P w K mg base CX0 k f fd ps y8):bc P w K mg base CX0 k f fd ps (spQ K jF):=by
 refine F.imp fun vs H Q E h=>?_
 obtain⟨dl,ts,Fp,Qp,D,r,h,fin⟩:=h;unfold jF at h
 split at h
 ·obtain⟨v,w',F1,F2,rfl,r1,r2⟩:=r.two;obtain⟨a,l,rfl,hm,_⟩:=r1.r.dea;obtain⟨rfl,_⟩:=r2.r.int;refine⟨a,l,_,rfl,D _ hm,h.1,h.2.1,fun r H' r0 r1' D' K'=>fin _ _ [] H' ⟨fun b o e n _=>K' b o e (n _ hm).1 (n _ hm).2,fun p hp=>?_,fun b x e=>⟨x,Int.le_refl _,by
   obtain⟨s2,n2,l2,Q2⟩:=D _ hm;exact K' b _ e (f9 e Q2.hd (fun z=>nomatch z)) (f9 e Q2.hl (fun z=>nomatch z))⟩⟩ (.c (.i _)) (fun _ z=>nomatch z) List.nodup_nil (h.2.2 r r0 r1')⟩
  by_cases e:p =(a,l)
  ·rw[e];exact D'
  ·obtain⟨s1,n1,l1,Q1⟩:=D p hp;obtain⟨s2,n2,l2,Q2⟩:=D _ hm;obtain⟨s3,n3,l3,Q3⟩:=D';have pa:p.1≠a:=fun z=>by
    have z1:=Q1.hd;have z2:=Q2.hd;rw[z]at z1;rw[z1]at z2;have z3:dk s1 n1 p.2=dk s2 n2 l:=by injection (Option.some.inj z2)
    have z4:=congrArg (fun kv=>c7 kv (.inr "left":Key)) z3
    simp only[wK]at z4;exact e (Prod.ext z (V.ref.inj (Option.some.inj z4)))
   have pl:p.1≠l:=f9 Q1.hd Q2.hl (fun z=>nomatch z)
   have p2a:p.2≠a:=f9 Q1.hl Q2.hd (fun z=>nomatch z)
   by_cases p2l:p.2=l
   ·exact⟨s1,n1,l3,K' _ _ Q1.hd pa pl,by rw[p2l];exact Q3.hl,Q1.s0,Q1.s1,Q1.n0,Q3.l0⟩
   ·exact⟨s1,n1,l1,K' _ _ Q1.hd pa pl,K' _ _ Q1.hl p2a p2l,Q1.s0,Q1.s1,Q1.n0,Q1.l0⟩
 ·exact h.elim
end
section
variable{X:Cx}{K:W.Frag}{a b c e o:Expr}{ta tb tk tv te:TE}{qa qb qk qv qe:QE}{pos pos':Pos}
theorem au.set{dl:Dl}{H:Hp}{w:V}{t:T}(hw:az K dl H w t []):∀{vs:List V}{xs:List T}{F:List Addr}(j:Nat),au K dl H vs xs F->F = []->au K dl H (vs.set j w) (xs.set j t) []
 | _,_,_,_,.nil,_=>.nil
 | _,_,_,0,.cons h r,e=>by
  obtain⟨e1,e2⟩:=List.append_eq_nil_iff.mp e;subst e1 e2;exact .cons (F:=[]) hw r
 | _,_,_,j+1,.cons h r,e=>by
  obtain⟨e1,e2⟩:=List.append_eq_nil_iff.mp e;subst e1 e2;exact .cons (F:=[]) h (au.set hw j r rfl)
theorem zf{i:Nat}(hk:fK K tk qk)(hv:fK K tv qv):gD K (e7 tv (uZ (a9 i) tk rG)) (Ff i qk qv):=fun dl H₀ hs H σ q Dq D ⟨F,r⟩ hq E=>by
 refine hv dl H σ q _ _ r.rd hq fun w t F1 H1 e1 r1 hq=>?_
 split at hq
 ·rename_i xs ei;obtain⟨v,hv',rp⟩:=(r.evo e1).g i _ _ ei rfl;refine⟨v,hv',hk dl H1 σ q _ _ (r.rd.evo e1) hq fun y u F2 H2 e2 r2 hq=>?_⟩
  split at hq
  ·obtain⟨j,hj,hm,ht,hq⟩:=hq;obtain⟨rfl,_⟩:=r2.r.int;obtain rfl:=r1.r.im ht;have rp2:=rp.evo e1.d e2;obtain⟨p,vs,G,rfl,eF,h1,h2⟩:=rp2.r.lst;have eG:=h2.im hm;subst eG;refine⟨p,vs,_,j,rfl,rfl,h1,by rw[h2.len];exact hj,?_⟩
   exact E.nx _ _ _ (r.il ei hv' eF (e1.trans e2) (au.set (r1.evo e1.d e2).r j h2 rfl) List.nodup_nil fun _ z=>nomatch z) hq
  ·exact hq.elim
 ·exact hq.elim
theorem CQ{i:Nat}(ho:PE X o (a9 i))(hk:QPE X K a tk qk)(hv:QPE X K b tv qv)(hs:swapsWithSole [.Subscript o a pos'] b pos.line X.env=pure false:=by rfl)(hw:swappedStores [.Subscript o a pos'] b X.env=pure none:=by rfl)
  (h1:(assignEach [.Subscript o a pos'] X.env).map (·.2) = [assign (.Subscript o a pos') X.env]:=by rfl)
  (ha:∀ v,assign (.Subscript o a pos') X.env v =(do
   let ov <- holding [v] (eval o X.env)
   let iv <- holding [v,ov] (eval a X.env)
   standAt pos'
   holding [v,ov,iv] (setItem ov iv v)
   release [v,ov,iv] []):=by intro _;rfl):QPS X K (.Assign [.Subscript o a pos'] b pos) (e7 tv (uZ (a9 i) tk rG)) (Ff i qk qv) :=
 ⟨lE hv.h (ug ho hk.h set_list ha) hs hw h1,zf hk.s hv.s⟩
end
variable{elts:List Expr}{pos':Pos}{t1:Bool}{t2:Bool}
section
variable{X:Cx}{K:W.Frag}{dl:Dl}
def iV(xs ys:List T):List T:=(xs.zip ys).map fun p=>.t [p.1,p.2]
theorem Ce{xs ys:List T}{i:Nat}{z:T}(h:(iV xs ys)[i]? = some z):∃ x y,xs[i]? = some x/\ys[i]? = some y/\z = .t [x,y]:=by
 unfold iV at h;rw[List.getElem?_map]at h;obtain⟨p,hp,rfl⟩:=Option.map_eq_some_iff.mp h;rw[List.getElem?_zip_eq_some]at hp;exact⟨p.1,p.2,hp.1,hp.2,rfl⟩
theorem iU{xs ys:List T}:(iV xs ys).length=min xs.length ys.length:=by simp[iV]
theorem HC{b:Addr}{xs ys:List T}:qX K dl (Itz K true true a b) (iV xs ys) [(.ref a,.t xs),(.ref b,.t ys)] where
 go:=fun H i D h hi=>by
  obtain⟨F,r⟩:=h (.ref a,.t xs) (by simp)
  obtain⟨F',r'⟩:=h (.ref b,.t ys) (by simp)
  obtain⟨p,vs,e,h1,h2⟩:=r.r.tup;cases e;obtain⟨p',vs',e',h1',h2'⟩:=r'.r.tup;cases e';rw[iU]at hi;have l1:i<vs.length:=by rw[h2.len];omega
  have l2:i<vs'.length:=by rw[h2'.len];omega
  exact⟨vs,vs',vs[i],vs'[i],SqT.of h1,SqT.of h1',by simp[l1],by simp[l2]⟩
 yld:=fun H i x fp v H' D h hx y=>by
  have r:=h (.ref a,.t xs) (by simp)
  have r':=h (.ref b,.t ys) (by simp)
  obtain⟨p,vs,e,h1,h2⟩:=r.r.tup;cases e;obtain⟨p',vs',e',h1',h2'⟩:=r'.r.tup;cases e';obtain⟨x1,y1,hx1,hy1,rfl⟩:=Ce hx;obtain⟨w1,G1,hw1,rw1,hs1⟩:=h2.get hx1;obtain⟨w2,G2,hw2,rw2,hs2⟩:=h2'.get hy1;obtain⟨q,u1,u2,hq,rfl,rfl,y1',y2'⟩:=y;have e1:=y1' vs (SqT.of h1);rw[hw1]at e1;cases e1;have e2:=y2' vs' (SqT.of h1');rw[hw2]at e2;cases e2;have rs:Rps K dl H [w1,w2] [x1,y1] (G1++(G2 ++ [])):=Rps.cons ⟨rw1,fun b hb=>r.n b (hs1 b hb)⟩ (Rps.cons ⟨rw2,fun b hb=>r'.n b (hs2 b hb)⟩ ⟨.nil,fun _ z=>nomatch z⟩)
  refine⟨(Evo.refl D).new hq,_,rs.tup D hq,fun c hb=>.inr ?_⟩
  rw[List.append_nil]at hb;rcases List.mem_append.mp hb with z|z
  ·exact⟨_,by simp,hs1 c z⟩
  ·exact⟨(.ref b,.t ys),by simp,hs2 c z⟩
 stop:=fun H D h=>by
  obtain⟨F,r⟩:=h (.ref a,.t xs) (by simp)
  obtain⟨F',r'⟩:=h (.ref b,.t ys) (by simp)
  obtain⟨p,vs,e,h1,h2⟩:=r.r.tup;cases e;obtain⟨p',vs',e',h1',h2'⟩:=r'.r.tup;cases e';refine⟨vs,vs',SqT.of h1,SqT.of h1',?_⟩;rw[iU,h2.len,h2'.len];omega
variable{tg e a b:Expr}{te ta tb:TE}{qe qa qb:QE}{tl:TA}{ql:QA}{pos p:Pos}
def asZ(ql:QA):QI:=fun q Q=>ql q fun ts=>match ts with | [.t xs,.t ys]=>Q (iV xs ys) | _=>False
theorem Dt{x1}{ta:TA}(hK:X.K=K)(hg:Gl X "zip")(hm:X.mg "zip" = none)(dC:bootBuiltins "zip" = some (.type "zip"))(ha:PA X [a,b] ta)(hs:starEach [a,b] X.env = [(false,eval a X.env),(false,eval b X.env)])(hs2:starEach [b] X.env = [(false,eval b X.env)]) :
  PI X (.Tuple elts x1 pos') (.Call (.Name "zip" p) [a,b] [] pos) (HF K t1 t2 ta):=by subst hK;exact GY hg hm dC ha hs hs2
theorem GD{x1}(hg:Gl X "zip")(hm:X.mg "zip" = none)(dC:bootBuiltins "zip" = some (.type "zip"))(ha:QPA X K [a,b] tl ql)(hs:starEach [a,b] X.env = [(false,eval a X.env),(false,eval b X.env)]:=by rfl)(hs2:starEach [b] X.env = [(false,eval b X.env)]:=by rfl)(hK:X.K=K:=by rfl) :
  QPI X K (.Tuple elts x1 pos') (.Call (.Name "zip" p) [a,b] [] pos) (HF K true true tl) (asZ ql):=⟨Dt hK hg hm dC ha.h hs hs2,fun dl H σ q Q R rd hq k=>ha.s dl H σ q _ _ rd hq fun vs ts F H' e1 r _ hz=>by
 split at hz
 ·obtain⟨v,w,F1,F2,rfl,r1,r2⟩:=r.two;obtain⟨l1,vs1,rfl,h1,h2⟩:=r1.r.tup;obtain⟨l2,vs2,rfl,h3,h4⟩:=r2.r.tup;exact⟨l1,l2,rfl,⟨vs1,SqT.of h1⟩,⟨vs2,SqT.of h3⟩,k _ _ _ H' e1 HC (fun p hp=>by
   simp only[List.mem_cons,List.not_mem_nil,or_false]at hp;rcases hp with rfl|rfl
   ·exact⟨_,r1⟩
   ·exact⟨_,r2⟩) hz⟩
 ·exact hz.elim⟩
end
variable{H2:Hp}{F:List Addr}
section
variable{X:Cx}{K:W.Frag}{e a b:Expr}{tl:TA}{ql:QA}{pos p dF p2:Pos}{dl:Dl}
def rL(ql:QA):QE:=fun q Q=>ql q fun ts=>match ts with | [.t xs,.t ys]=>T.ims xs=true/\T.ims ys=true/\Q (.l (iV xs ys)) | _=>False
theorem xQ{vs:List V}{xs:List T}(h:au K dl H2 vs xs F):F = []->∀{ws:List V}{ys:List T}{G:List Addr},au K dl H2 ws ys G->G = []->∀{ps:List Addr},ps.length=min vs.length ws.length ->
  (∀(j:Nat) p x y,ps[j]? = some p->vs[j]? = some x->ws[j]? = some y->H2 p=some (.tup [x,y]))->au K dl H2 (ps.map V.ref) (iV xs ys) [] :=
 h.ind (M:=fun vs xs F=>F = []->∀{ws:List V}{ys:List T}{G:List Addr},au K dl H2 ws ys G->G = []->∀{ps:List Addr},ps.length=min vs.length ws.length ->
  (∀(j:Nat) p x y,ps[j]? = some p->vs[j]? = some x->ws[j]? = some y->H2 p=some (.tup [x,y]))->au K dl H2 (ps.map V.ref) (iV xs ys) []) (fun _ _ _ _ _ _ ps hl _=>by
   have e:ps = []:=List.length_eq_zero_iff.mp (by rw[hl];exact Nat.zero_min _)
   subst e;exact .nil) fun v x vs xs F G h _ ih e ws ys G' h' e' ps hl hp=>by
  obtain⟨e1,e2⟩:=List.append_eq_nil_iff.mp e;subst e1;cases h' with
  | nil =>
   have e:ps = []:=List.length_eq_zero_iff.mp (by rw[hl];exact Nat.min_zero _)
   subst e;exact .nil
  | cons h' r' =>
   obtain⟨e3,e4⟩:=List.append_eq_nil_iff.mp e';subst e3;cases ps with
   | nil=>simp at hl
   | cons p ps =>
    exact au.cons (F:=[]) (.t (hp 0 p _ _ rfl rfl rfl) (au.cons (F:=[]) h (au.cons (F:=[]) h' .nil))) (ih e2 r' e4 (by simp at hl;omega) fun j p x y h1 h2 h3=>hp (j+1) p x y h1 h2 h3)
theorem rl(ha:ET K 2 tl ql):iO K (kZ K tl) (rL ql):=by
 intro dl H σ q Q R rd hq k;refine ha dl H σ q _ _ rd hq fun vs ts F H1 e1 r1 _ hz=>?_
 split at hz
 ·rename_i xs ys;obtain⟨v,w,F1,F2,rfl,r1',r2'⟩:=r1.two;obtain⟨l1,vs1,rfl,h1,h2⟩:=r1'.r.tup;obtain⟨l2,vs2,rfl,h3,h4⟩:=r2'.r.tup;obtain⟨i1,i2,hz⟩:=hz;obtain rfl:=h2.im i1;obtain rfl:=h4.im i2;refine⟨l1,l2,vs1,vs2,rfl,SqT.of h1,SqT.of h3,fun H2 L ps hL hl hn hf hk hLL hp=>?_⟩
  have sm:∀ b o,H1 b=some o->H2 b=some o:=fun b o e=>by
   rw[hk b (fun z=>by rw[(hf b z).1]at e;cases e) (fun z=>by rw[z,hL]at e;cases e)]
   exact e
  have ev:Evo dl H1 H2:=⟨fun b o e _ _=>sm b o e,fun p hp=>(by
   obtain⟨s,n,ls,D⟩:=e1.d p hp;exact⟨s,n,ls,sm _ _ D.hd,sm _ _ D.hl,D.s0,D.s1,D.n0,D.l0⟩),fun b x e=>⟨x,Int.le_refl _,sm _ _ e⟩⟩
  obtain⟨_,NY,z1,b1,c1⟩:=(r1'.evo e1.d ev).r.tup;cases z1;rw[sm _ _ h1]at b1;cases b1;obtain⟨_,NX,z2,b2,c2⟩:=(r2'.evo e1.d ev).r.tup;cases z2;rw[sm _ _ h3]at b2;cases b2;exact k _ _ [L] H2 (e1.trans ev) ⟨.l hLL (xQ c1 rfl c2 rfl hl hp),fun b hb=>by rw[List.mem_singleton.mp hb];exact e1.d.nd0 hL⟩ (fun b hb=>by rw[List.mem_singleton.mp hb];exact e1.free hL) (by simp) hz
 ·exact hz.elim
theorem t5(hK:X.K=K)(hg:Gl X "list")(hm:X.mg "list" = none)(hg2:Gl X "zip")(hm2:X.mg "zip" = none)(ha:QPA X K [a,b] tl ql)
  (hs:starEach [a,b] X.env = [(false,eval a X.env),(false,eval b X.env)]:=by rfl) (hs2:starEach [b] X.env = [(false,eval b X.env)]:=by rfl)
  (hs3:starEach [.Call (.Name "zip" p2) [a,b] [] dF] X.env =(false,eval (.Call (.Name "zip" p2) [a,b] [] dF) X.env)::starEach [] X.env:=by rfl) (hc:X.calm=true:=by rfl) :
  QPF X K (.Call (.Name "list" p) [.Call (.Name "zip" p2) [a,b] [] dF] [] pos) (kZ K tl) (rL ql):=⟨by subst hK;exact uk hg hm hg2 hm2 ha.h hs hs2 hs3 hc,rl ha.s⟩
end
def k7(K:W.Frag):Sp:=fun vs H Q _=>∃(a:Addr)(ns:List Int),vs = [.ref a]/\FzL K H a (ns.map V.int)/\ns.length<=63/\∀ H',Q (.bl true) H'
theorem KP{K:W.Frag}{xs:List V}(h:EU H)(hS:SqL K H a xs):FzL K H a xs:=by
 rcases hS with(z |⟨o,z⟩)|z
 ·rcases h a with e |⟨o,ys,e⟩
  ·rw[e]at z;cases z
  ·rw[e]at z;cases z
 ·exact .inl ⟨o,z⟩
 ·exact .inr z
variable{H':Hp}
theorem FzL.same{K:W.Frag}{xs:List V}(h:FzL K H a xs)(s:iP H H'):FzL K H' a xs:=by
 rcases h with⟨o,z⟩|z
 ·exact .inl ⟨o,s _ _ z⟩
 ·exact .inr z
variable{qual:Str}{st:Stmt}{N:List Str}{n:Nat}
theorem Fun.Nb{w:World}{K:W.Frag}{f:Addr}{k:Nat}{s1:Stmt}{rest:List Stmt}(F:Fun K x qual st f fd)(S:aJ N ["_law_script"] (ax st))(hN:N.length=n+2)(hst:bD st=s1::rest)
  (ji:∀(cdv:Value)(A:Around)(outer:List Env)(s:Shared)(H:Hp)(E:XK),cn k (A.deeper (envOfC qual (ax st) s.heap.objs.size f cdv)) ->
   ∃ t1 t qs,PS (mX CX0 P w K mg base N qual (ax st) f cdv A outer s H E).nox s1 t1/\mE (mX CX0 P w K mg base N qual (ax st) f cdv A outer s H E).nox K rest t qs /\
    (∀(a:Addr)(ns:List Int)(D:Ends),SqL K H a (ns.map V.int)->ns.length<=63 ->(∀(d l:Addr)(H':Hp),H d=none->H l=none->jv H' d l->iP H H'->D.nx ([some (.ref a),some (.ref d)]++List.replicate n none) H')->t1 D ([some (.ref a),none]++List.replicate n none) H) /\
    ∀ ns:List Int,ns.length<=63->qs { nx:=fun _=>False,rt:=fun t=>t = .b true } ([.r (.z ns),.r .cN]++List.replicate n .no)):bc P w K mg base CX0 (k+1) f fd ["_law_script"] (k7 K):=by
 refine F.ok S (fun vs H Q E h=>?_) (fun cdv A outer s H vs Q E hr h=>?_)
 ·obtain⟨a,ns,rfl,_⟩:=h;rfl
 ·obtain⟨a,ns,rfl,hS,hlen,k⟩:=h;obtain⟨t1,t,qs,h1,hb,r1,hq⟩:=ji cdv A outer s H E hr;rw[hst];refine⟨_,bA h1 hb.h,?_⟩;have es:start N [V.ref a] = [some (.ref a),none]++List.replicate n none:=by
   unfold start;rw[hN];rfl
  rw[es];refine r1 a ns _ hS.sq hlen fun d l H' hd hl D1 sm=>?_
  have Dq:Dls [(d,l)] H':=fun p hp=>by rw[List.mem_singleton.mp hp];exact D1
  have rp:Rps K [(d,l)] H' [.ref a,.ref d] [.z ns,.cN] ([]++([] ++ [])):=⟨.cons (.z (hS.same sm)) (.cons (.x (l:=l) (List.mem_singleton.mpr rfl)) .nil),fun _ z=>nomatch z⟩
  have R:=nh (n:=n+2) Dq rp (by simp)
  refine hb.s [(d,l)] H' [] H' _ _ _ _ R (hq ns hlen) ⟨fun _ _ _ _ z=>z.elim,fun _ _ _ _ z=>z.elim,fun _ _ _ _ z=>z.elim,fun v t F H2 _ r' _ _ _ hz=>?_,fun _ _ _ _ _ _ _ _ _ _ _ _ z=>z.elim⟩
  subst hz;obtain⟨rfl,_⟩:=r'.r.bl;exact k H2
def vOf:Value->V
 | .none=>.non
 | .bool b=>.bl b
 | .int i _=>.int i
 | .str x _=>.str x
 | _=>.ty ""
variable{u:Value}
theorem vF{v:V}(r:RelV v u)(f:cy v=true):vOf u=v:=by
 cases v with
 | non=>cases r;rfl
 | bl b=>cases r;rfl
 | int i=>obtain⟨t,rfl⟩:=r;rfl
 | str x=>obtain⟨t,rfl⟩:=r;rfl
 | _=>exact absurd (show false=true from f) Bool.false_ne_true
variable{us:List Value}
theorem Vals.M7{vs:List V}(r:Vals vs us):∀{u:Value},u∈us->∃ v∈vs,RelV v u:=by
 induction r with
 | nil=>intro u h;cases h
 | cons r1 _ ih =>
  intro u h;rcases List.mem_cons.mp h with e|h
  ·subst e;exact⟨_,List.mem_cons_self,r1⟩
  ·obtain⟨v,hv,rv⟩:=ih h;exact⟨v,List.mem_cons_of_mem _ hv,rv⟩
theorem Vals.DW{vs:List V}(r:Vals vs us)(f:vs.all cy=true):us.map vOf=vs:=by
 induction r with
 | nil=>rfl
 | cons r1 _ ih =>
  rw[List.all_cons,Bool.and_eq_true]at f;rw[List.map_cons,vF r1 f.1,ih f.2]
section
variable{X:Cx}{K:W.Frag}{o e:Expr}{apos aQ pos:Pos}{tl te:TE}{ql qe:QE}
def zI(K:W.Frag):V->List V->Hp->VK->Prop:=fun x vs H Q=>∃ l xs y j,x = .ref l/\vs = [y]/\SqL K H l xs/\xs.all cy=true/\cy y=true/\xs.findIdx? (fun z=>eqV z y)=some j/\Q (.int (j:Nat)) H
theorem AL:MtR X "list.index" (zI X.K):=by
 intro gV s σ H x vs v us Q I rx rv h;obtain⟨l,xs,y,j,rfl,rfl,hl,fx,fy,hj,q⟩:=h;cases rx;obtain⟨u,rfl,ru⟩:=rv.one;obtain⟨its,r,pl,hz⟩:=I.list hl;obtain⟨⟨c,dd,dat,sl⟩,ho,hc,n,hd⟩:=pl.isList;simp only at hc hd;subst hc hd;have hj':its.findIdx? (fun v=>eqV (vOf v) y)=some j:=by
  rw[<- r.DW fx,List.findIdx?_map]at hj;exact hj
 obtain⟨hlt,hit,hno⟩:=List.findIdx?_eq_some_iff_getElem.mp hj';have hlen:=r.length;have hn:=fu;refine call_meets PySem.F.slot_list_index ⟨_,ho,rfl⟩ PySem.F.entry_list_index (PySem.F.args_list_index_2 _ _) (SeqAt.list_indexAt l its.toArray n dd sl u (fun v=>eqV (vOf v) y) j (by simpa using hlt) (by omega) (by simpa using hit) (fun m hm hmj=>?_)) ⟨ho,fun z hz=>?_,?_⟩
 ·have:=hno m hmj
  simpa using this
 ·obtain⟨w,hw,rw'⟩:=r.M7 (by simpa using hz)
  have fw:=List.all_eq_true.mp fx w hw;rw[vF rw' fw];exact jU rw' ru fw fy
 ·exact⟨.int _,H,I.tok _,⟨_,rfl⟩,q⟩
def MQ(ql qe:QE):QE:=fun q Q=>ql q fun t=>match t with
 | .l xs=>qe q fun u=>fls xs=true/\u.fl=true/\∃ j,xs.findIdx? (fun z=>eqV z.v u.v)=some j/\Q (.i (j:Nat))
 | _=>False
theorem yu{xs:List T}(f:fls xs=true):(xs.map T.v).all cy=true:=by
 rw[List.all_map,List.all_eq_true];exact fun x hx=>qj (List.all_eq_true.mp f x hx)
theorem zW(ho:QPE X K o tl ql)(he:QPE X K e te qe)(hK:X.K=K:=by rfl)(bN:attributeBase o "index" X.env (eval o X.env)=eval o X.env:=by rfl)
  (gm:((backTo aQ (starEach [e] X.env)).all (fun x=>!x.1)&&(backToKw aQ (keywordEach [] X.env)).all (fun x=>x.1.isSome)
   && decide (([e]:List Expr).length+([]:List Keyword).length+(if([]:List Keyword).isEmpty then 0 else 1)<30))=true:=by rfl)
  (bM:(apos.endLine==aQ.line)=true:=by rfl) (hs:starEach [e] X.env =(false,eval e X.env)::starEach [] X.env:=by rfl) (cf:(backTo aQ (starEach [] X.env)).any (·.1)=false:=by rfl) :
  QPF X K (.Call (.Attribute o "index" apos) [e] [] aQ) (tBM K "list" (zI K) tl (bP te eD)) (MQ ql qe) :=
 ⟨by subst hK;exact rT PySem.F.plainAttrs_list PySem.F.slot_list_index PySem.F.type_list_index AL ho.h (a8 he.h cH hs) bN gm bM hs cf,fun dl H σ q Q R rd hq k=>ho.s dl H σ q _ _ rd hq fun v t F H1 e1 r1 hq=>by
  split at hq
  ·obtain⟨p,vs,G,rfl,eF,h1,h2⟩:=r1.r.lst;refine⟨.inl ⟨rfl,vs,SqL.of h1⟩,he.s dl H1 σ q _ _ (rd.evo e1) hq fun y u F2 H2 e2 r2 hPP=>?_⟩
   obtain⟨f1,f2,j,hj,hq⟩:=hPP;have rp:=r1.evo e1.d e2;obtain⟨p',vs',G',e',eF',h1',h2'⟩:=rp.r.lst;cases e';obtain⟨ev,_⟩:=h2'.vs f1;obtain⟨ey,_⟩:=r2.r.v f2;subst ev ey;refine⟨p,_,_,j,rfl,rfl,SqL.of h1',yu f1,qj f2,by rw[List.findIdx?_map];exact hj,?_⟩
   exact k _ _ [] H2 (e1.trans e2) (.c (.i _)) (fun _ z=>nomatch z) List.nodup_nil hq
  ·exact hq.elim⟩
end
variable{tp:Bool}
section
variable{X:Cx}{K:W.Frag}{dl:Dl}
def fD(xs:List T):List T:=xs.zipIdx.map fun p=>.t [.i (p.2:Nat),p.1]
theorem dE{xs:List T}{i:Nat}{z:T}(h:(fD xs)[i]? = some z):∃ x,xs[i]? = some x/\z = .t [.i (i:Nat),x]:=by
 unfold fD at h;rw[List.getElem?_map]at h;obtain⟨p,hp,rfl⟩:=Option.map_eq_some_iff.mp h;rw[List.getElem?_zipIdx]at hp;obtain⟨x,hx,rfl⟩:=Option.map_eq_some_iff.mp hp;exact⟨x,hx,by simp⟩
theorem bO{xs:List T}:(fD xs).length=xs.length:=by simp[fD]
theorem wB{xs:List T}:qX K dl (Ite K true a) (fD xs) [(.ref a,.t xs)] where
 go:=fun H i D h hi=>by
  obtain⟨F,r⟩:=h (.ref a,.t xs) (by simp)
  obtain⟨p,vs,e,h1,h2⟩:=r.r.tup;cases e;rw[bO]at hi;have l1:i<vs.length:=by rw[h2.len];omega
  exact⟨vs,vs[i],SqT.of h1,by simp[l1]⟩
 yld:=fun H i x fp v H' D h hx y=>by
  have r:=h (.ref a,.t xs) (by simp)
  obtain⟨p,vs,e,h1,h2⟩:=r.r.tup;cases e;obtain⟨x1,hx1,rfl⟩:=dE hx;obtain⟨w1,G1,hw1,rw1,hs1⟩:=h2.get hx1;obtain⟨q,u1,hq,rfl,rfl,y1'⟩:=y;have e1:=y1' vs (SqT.of h1);rw[hw1]at e1;cases e1;have rs:Rps K dl H [.int (i:Nat),w1] [.i (i:Nat),x1] ([]++(G1 ++ [])):=Rps.cons ⟨.i _,fun _ z=>nomatch z⟩ (Rps.cons ⟨rw1,fun b hb=>r.n b (hs1 b hb)⟩ ⟨.nil,fun _ z=>nomatch z⟩)
  refine⟨(Evo.refl D).new hq,_,rs.tup D hq,fun c hb=>.inr ?_⟩
  rw[List.append_nil]at hb;exact⟨_,by simp,hs1 c hb⟩
 stop:=fun H D h=>by
  obtain⟨F,r⟩:=h (.ref a,.t xs) (by simp)
  obtain⟨p,vs,e,h1,h2⟩:=r.r.tup;cases e;exact⟨vs,SqT.of h1,by rw[bO,h2.len];exact Nat.le_refl _⟩
variable{tg e a b c:Expr}{te ta tb:TE}{qe qa qb:QE}{tl:TA}{ql:QA}{pos p:Pos}
def NK(ql:QA):QI:=fun q Q=>ql q fun ts=>match ts with | [.t xs]=>Q (fD xs) | _=>False
theorem i8{x1}{ta:TA}(hK:X.K=K)(hg:Gl X "enumerate")(hm:X.mg "enumerate" = none)(dC:bootBuiltins "enumerate" = some (.type "enumerate"))(ha:PA X [a] ta)(hs:starEach [a] X.env = [(false,eval a X.env)]) :
  PI X (.Tuple elts x1 pos') (.Call (.Name "enumerate" p) [a] [] pos) (nH K tp ta):=by subst hK;exact Du hg hm dC ha hs
theorem vV{x1}(hg:Gl X "enumerate")(hm:X.mg "enumerate" = none)(dC:bootBuiltins "enumerate" = some (.type "enumerate"))(ha:QPA X K [a] tl ql)(hs:starEach [a] X.env = [(false,eval a X.env)]:=by rfl)(hK:X.K=K:=by rfl) :
  QPI X K (.Tuple elts x1 pos') (.Call (.Name "enumerate" p) [a] [] pos) (nH K true tl) (NK ql):=⟨i8 hK hg hm dC ha.h hs,fun dl H σ q Q R rd hq k=>ha.s dl H σ q _ _ rd hq fun vs ts F H' e1 r _ hz=>by
 split at hz
 ·obtain⟨v,rfl,r1⟩:=r.one;obtain⟨l1,vs1,rfl,h1,h2⟩:=r1.r.tup;exact⟨l1,rfl,⟨vs1,SqT.of h1⟩,k _ _ _ H' e1 wB (fun p hp=>by rw[List.mem_singleton.mp hp];exact⟨_,r1⟩) hz⟩
 ·exact hz.elim⟩
theorem au.snoc{v:V}{t:T}(hv:az K dl H v t []){vs:List V}{ts:List T}(h:au K dl H vs ts F):F = []->au K dl H (vs ++ [v]) (ts ++ [t]) [] :=
 h.ind (M:=fun vs ts F=>F = []->au K dl H (vs ++ [v]) (ts ++ [t]) []) (fun _=>.cons (F:=[]) (G:=[]) hv .nil) fun _ _ _ _ _ _ h _ ih e=>by
  obtain⟨e1,e2⟩:=List.append_eq_nil_iff.mp e;subst e1;exact .cons (F:=[]) (G:=[]) h (ih e2)
theorem au.rev{vs:List V}{ts:List T}(h:au K dl H vs ts F):F = []->au K dl H vs.reverse ts.reverse [] :=
 h.ind (M:=fun vs ts F=>F = []->au K dl H vs.reverse ts.reverse []) (fun _=>.nil) fun _ _ _ _ _ _ h _ ih e=>by
  obtain⟨e1,e2⟩:=List.append_eq_nil_iff.mp e;subst e1;rw[List.reverse_cons,List.reverse_cons];exact au.snoc h (ih e2) rfl
theorem Bg{v:V}(h:cy v=true):eqV v v=true:=by cases v <;> first|rfl|exact absurd h Bool.false_ne_true|simp[eqV]
def zJ:V->List V->Hp->VK->Prop:=fun x vs H Q=>∃(a p:Addr)(ps:List Addr)(kvs more:List (Key×V)),x = .ref a/\vs = [.ref p]/\H a=some (.dK kvs)/\H p=some (.lst (ps.map V.ref))/\ps.length=more.length /\
 (∀(i:Nat)(b:Addr)(kv:Key×V),ps[i]? = some b->more[i]? = some kv->H b=some (.tup [kV kv.1,kv.2]))/\kvs.length+more.length<=sizeLine/\Q .non (upd H a (.dK (cI kvs more)))
theorem AN(hc:X.calm=true):MtR X "dict.update" zJ:=by
 intro gV s σ H x vs v us Q I rx rv h;obtain⟨a,p,ps,kvs,more,rfl,rfl,ha,hp,hl,hps,hz,q⟩:=h;cases rx;obtain⟨u,rfl,ru⟩:=rv.one;cases ru;have hh:X.A.handled=none:=I.ok.hd hc;obtain⟨z1,hd1,vs1,r1,d1⟩:=Bk I.hok ha;obtain⟨hzp,its,n,rvl,e⟩:=(show aV X.prog X.w H s.heap p (.lst (ps.map V.ref))from I.hok p _ hp);obtain⟨pairs,kv,uT⟩:=rW I rvl hl hps;have hlv:=rvl.length;rw[List.length_map]at hlv;have hkl:more.length=pairs.length:=Paired.length kv;have l1:kvs.length=vs1.length:=Paired.length r1;have hpa:p≠a:=f9 hp ha (fun z=>nomatch z)
 refine call_meetsIn PySem.F.slot_dict_update d1.typeIs PySem.F.entry_dict_update (PySem.F.args_dict_update_2 _ _) (S:=fun A R s'=>s'=s/\A=X.A/\R=wants (EP X gV σ Q) X.xe) (fun A R s' ⟨e1,e2,e3⟩=>?_) ⟨rfl,rfl,rfl⟩
 subst e1 e2 e3;unfold Builtin.«dict.update»;refine wpAny_bind ?_;unfold Builtin.Dict.selfAndRest;refine wpAny_bind (wpAny_notOrdered_dict d1.typeIs ?_);show wpAny _ _ (pure (a,[Value.ref p])) _ _ _;refine wpAny_pure ?_;show wpAny _ _ (Builtin.Dict.updateFrom "dict.update" a (.ref p) [] .none) _ _ _;refine eh (A:=X.A) (knd:=aY X.prog X.w) (kvs:=vs1) (pairs:=pairs) (its:=its.toArray) hh d1 hpa ⟨_,n,e,rfl,rfl,.inr rfl⟩ (by omega) (by rw[List.size_toArray];omega) (fun i v hv=>?_) fun h' tk hk hd=>?_
 ·obtain⟨b,ob,key,val,k,m,e1,e2,e3,e4,e5,e6⟩:=uT i v (by simpa using hv)
  exact⟨b,ob,key,val,k,m,e1,e2,e3,e4,e5,e6⟩
 ·refine⟨.non,_,?_,rfl,q⟩;have hz':(cI kvs more).length<=sizeLine:=Nat.le_trans (cW more kvs) hz;have he:∃ q,h'.get? a=some q:=let⟨q,_,_,hq,_⟩:=hd;⟨q,hq⟩
  exact I.write (t':=tk) (x:=a) (e:=a) (by rw[ha];exact True.intro) (.inl rfl) (fun b q hb z=>hk b q hb z) he (mf hz' hd1 (KV.merge kv r1) hd)
def GG(i:Nat)(qe:QE):QS:=fun D q=>match q[i]? with
 | some (.o (.d xs))=>qe q fun t=>match t with
  | .l ys=>T.imk xs=true/\T.ims ys=true/\∃ kts,cR ys=some kts/\xs.length+kts.length<=sizeLine/\D.nx (q.set i (.o (.d (bL xs kts))))
  | _=>False
 | _=>False
variable{o:Expr}{apos aQ:Pos}
theorem Cu{i:Nat}(he:iO K te qe):gD K (fO (tBM K "dict" zJ (a9 i) (bP te eD))) (GG i qe):=fun dl H₀ hs H σ q Dq D ⟨F,r⟩ hq E=>by
 unfold GG at hq
 split at hq
 ·rename_i xs ei;obtain⟨v,hv,rp⟩:=r.g i _ _ ei rfl;obtain⟨p,vs,G,rfl,eF,h1,h2⟩:=rp.r.dic;refine⟨_,hv,.inr (.inr (.inl ⟨rfl,.inl ⟨_,h1⟩⟩)),he dl H σ q _ _ r.rd hq fun w t F' H' e1 r1 f1 n1 hz'=>?_⟩
  split at hz'
  ·rename_i ys;obtain⟨im1,im2,kts,ek,hl,hz'⟩:=hz';have rp2:=rp.evo r.d e1;obtain⟨p',vs',G',e',eF',h1',h2'⟩:=rp2.r.dic;cases e';obtain rfl:=h2'.im im1;obtain⟨p2,ws,G2,rfl,eG2,h3,h4⟩:=r1.r.lst;obtain rfl:=h4.im im2;obtain⟨ps,more,rfl,hlen,ht,hk⟩:=h4.pairs rfl ek;refine⟨p,p2,ps,vs',more,rfl,rfl,h1',h3,hlen,ht,by rw[h2'.len,hk.len];exact hl,?_⟩
   exact E.nx _ _ _ (r.Gr ei hv e1 (aL.bL (kvs':=[]) (kts':=[]) hk rfl h2')) hz'
  ·exact hz'.elim
 ·exact hq.elim
theorem Gw{i:Nat}{dS:Pos}(hc:X.calm=true)(ho:PE X o (a9 i))(he:QPF X K e te qe)(hK:X.K=K:=by rfl)(bN:attributeBase o "update" X.env (eval o X.env)=eval o X.env:=by rfl)
  (gm:((backTo aQ (starEach [e] X.env)).all (fun x=>!x.1)&&(backToKw aQ (keywordEach [] X.env)).all (fun x=>x.1.isSome)
   && decide (([e]:List Expr).length+([]:List Keyword).length+(if([]:List Keyword).isEmpty then 0 else 1)<30))=true:=by rfl)
  (bM:(apos.endLine==aQ.line)=true:=by rfl) (hs:starEach [e] X.env =(false,eval e X.env)::starEach [] X.env:=by rfl) (cf:(backTo aQ (starEach [] X.env)).any (·.1)=false:=by rfl)
  (hsw:swapsWith (.Call (.Attribute o "update" apos) [e] [] aQ) none dS.line X.env=pure false:=by rfl) :
  QPS X K (.Expr (.Call (.Attribute o "update" apos) [e] [] aQ) dS) (fO (tBM K "dict" zJ (a9 i) (bP te eD))) (GG i qe) :=
 ⟨i5 (by subst hK;exact rT PySem.F.plainAttrs_dict PySem.F.slot_dict_update PySem.F.type_dict_update (AN hc) ho (a8 he.h cH hs) bN gm bM hs cf) hsw,Cu he.s⟩
end
variable{d:Addr}{l:Addr}
section
variable{X:Cx}{K:W.Frag}{dl:Dl}{v:V}
theorem az.NC{o:Obj}{vs:List (Key×V)}{ts:List (Key×T)}(h:az K dl H v (.fd o vs ts) F):∃ a,v = .ref a/\F = []/\H a=some (.frz o (.dK vs))/\aL K dl H vs ts []:=by cases h with|fd h r=>exact⟨_,rfl,rfl,h,r⟩
variable{tg e a b:Expr}{te ta tb:TE}{qe qa qb:QE}{pos:Pos}
theorem jv.oth{a:Addr}{o:HO}(D:jv H d l)(h1:a≠d)(h2:a≠l):jv (upd H a o) d l:=by
 obtain⟨s,n,ls,Q⟩:=D;exact⟨s,n,ls,by rw[aj h1.symm];exact Q.hd,by rw[aj h2.symm];exact Q.hl,Q.s0,Q.s1,Q.n0,Q.l0⟩
end
section
variable{X:Cx}{K:W.Frag}{dl:Dl}{v:V}
theorem au.lookup{f:Str}:∀{ns:List Str}{vs:List V}{ts:List T}{F:List Addr}{u:T},au K dl H vs ts F ->(ns.zip ts).lookup f=some u->∃ w G,(ns.zip vs).lookup f=some w/\az K dl H w u G/\∀ b∈G,b∈F
 | [],_,_,_,_,_,h=>by simp at h
 | _::_,_,_,_,_,.nil,h=>by simp at h
 | n::ns,_,_,_,u,.cons h1 r,h=>by
  rw[List.zip_cons_cons,List.lookup_cons]at h ⊢;cases e:(f==n)with
  | true =>
   rw[e]at h;cases h;exact⟨_,_,rfl,h1,fun b hb=>List.mem_append_left _ hb⟩
  | false =>
   rw[e]at h;obtain⟨w,G,a1,a2,a3⟩:=au.lookup (ns:=ns) r h;exact⟨w,G,a1,a2,fun b hb=>List.mem_append_right _ (a3 b hb)⟩
end
variable{dl:Dl}{H₀:Hp}{q:Sq}
theorem Rel.HZ{K:W.Frag}{hs:List (V×T)}{σ:St}{F:Nat->List Addr}(r:Rel K dl H₀ hs H σ q F)(i:Nat):Rel K dl H₀ hs H (σ.set i none) (q.set i .no) (rB F i []):=by
 refine⟨r.d,fun j x t h1 h2=>?_,fun j x h1 h2=>?_,fun j hj=>?_,fun j u h1=>?_,fun p hp=>?_,r.f,by simp[r.l]⟩
 ·rcases get_set h1 with⟨rfl,rfl,_⟩ |⟨ne,h1⟩
  ·cases h2
  ·obtain⟨w,h3,h4⟩:=r.g j x t h1 h2;exact⟨w,by rw[List.getElem?_set_ne (fun z=>ne z.symm)];exact h3,by rw[aA ne];exact h4⟩
 ·rcases get_set h1 with⟨rfl,rfl,_⟩ |⟨ne,h1⟩
  ·rw[aK]
  ·rw[aA ne];exact r.n j x h1 h2
 ·by_cases ej:j=i
  ·rw[ej,aK]
  ·rw[aA ej];rw[List.length_set]at hj;exact r.z j hj
 ·rcases get_set h1 with⟨rfl,e,_⟩ |⟨ne,h1⟩
  ·cases e
  ·rw[aA ne];obtain⟨o1,o2,o3⟩:=r.o j u h1;refine⟨o1,o2,fun k hk b hb=>?_⟩
   by_cases ek:k=i
   ·rw[ek,aK];exact fun z=>nomatch z
   ·rw[aA ek];exact o3 k hk b hb
 ·obtain⟨Fp,h1,h2⟩:=r.h p hp;refine⟨Fp,h1,fun j u hj b hb z=>?_⟩
  rcases get_set hj with⟨rfl,e,_⟩ |⟨ne,hj⟩
  ·cases e
  ·rw[aA ne]at hb;exact h2 j u hj b hb z
section
variable{X:Cx}{K:W.Frag}{a b e:Expr}{ta tb te:TE}{qa qb qe:QE}{pos:Pos}
def MP(qa qb:QE):QE:=fun q Q=>qa q fun t=>qb q fun u=>match t,u with
 | .l xs,.i k=>∃ x,atI xs k=some x/\Q x
 | _,_=>False
theorem jC(ha:QPF X K a ta qa)(hb:QPE X K b tb qb)(hs:jt b:=by intro _ _;rfl)(hK:X.K=K:=by rfl):QPF X K (.Subscript a b pos) (tOp (rIx K) ta tb) (MP qa qb):=by
 refine⟨by subst hK;exact rS A0 ha.h hb.h hs,fun dl H σ q Q R rd hq k=>?_⟩
 refine ha.s dl H σ q _ _ rd hq fun v t F H1 e1 r1 f1 n1 hq1=>?_
 refine hb.s dl H1 σ q _ _ (rd.evo e1) hq1 fun w u G H2 e2 r2 hq2=>?_
 have r1:=r1.evo e1.d e2
 split at hq2
 ·obtain⟨rfl,rfl⟩:=r2.r.int;obtain⟨p,vs,G,rfl,rfl,h1,h2⟩:=r1.r.lst;obtain⟨z,hz,hq⟩:=hq2;obtain⟨j,hj,hi⟩:=jq hz h2.len.symm;obtain⟨v,G',hv,rv,hs⟩:=h2.HR hj;have sub:∀ c∈G',c∈p::G:=fun c hc=>List.mem_cons_of_mem _ (hs.subset hc)
  exact .inl ⟨p,vs,_,v,rfl,rfl,SqL.of h1,mz hi hv,k v z G' H2 (e1.trans e2) (Rp.sub rv r1.n sub) (fun c hc=>f1 c (sub c hc)) ((List.nodup_cons.mp n1).2.sublist hs) hq⟩
 ·exact hq2.elim
end
variable{p1:Pos}{p2:Pos}{dF:Pos}
section
variable{X:Cx}{K:W.Frag}{a e:Expr}{te:TE}{qe:QE}{tl:TA}{ql:QA}{pos p:Pos}
def Lm(ql:QA):QJ:=fun q Q=>ql q fun ts=>match ts with | [.t xs]=>T.ims xs=true/\Q (fD xs) q | _=>False
theorem CW{x1}(hg:Gl X "enumerate")(hm:X.mg "enumerate" = none)(dC:bootBuiltins "enumerate" = some (.type "enumerate"))(ha:QPA X K [a] tl ql)(hs:starEach [a] X.env = [(false,eval a X.env)]:=by rfl)(hK:X.K=K:=by rfl) :
  QPJ X K (.Tuple elts x1 pos') (.Call (.Name "enumerate" p) [a] [] pos) (nH K true tl) (Lm ql):=⟨i8 hK hg hm dC ha.h hs,fun dl H₀ hs H σ q Q R ⟨F0,r0⟩ hq k=>ha.s dl H σ q _ _ r0.rd hq fun vs ts F H' e1 r _ hz=>by
 split at hz
 ·obtain⟨i1,hz⟩:=hz;obtain⟨v,rfl,r1⟩:=r.one;obtain rfl:=r1.r.im (t:=.t _) i1;have q1:=(r0.evo e1).hold r1 fun j u hj b hb z=>nomatch z
  obtain⟨l1,vs1,rfl,h1,h2⟩:=r1.r.tup;exact⟨l1,rfl,⟨vs1,SqT.of h1⟩,k _ _ _ H' q ⟨F0,q1⟩ wB hz⟩
 ·exact hz.elim⟩
def GK(qe:QE):QE:=fun q Q=>qe q fun t=>match t with | .l xs=>T.ims xs=true/\Q (.l xs.reverse) | _=>False
theorem rR(hK:X.K=K)(hc:X.calm=true)(hg1:Gl X "list")(hm1:X.mg "list" = none)(hg2:Gl X "reversed")(hm2:X.mg "reversed" = none)(he:PE X e te)
  (hs1:starEach [e] X.env = [(false,eval e X.env)]) (hs2:starEach [.Call (.Name "reversed" p2) [e] [] dF] X.env = [(false,eval (.Call (.Name "reversed" p2) [e] [] dF) X.env)]) :
  PE X (.Call (.Name "list" p1) [.Call (.Name "reversed" p2) [e] [] dF] [] pos) (k6 K te):=by subst hK;exact lI hc hg1 hm1 hg2 hm2 he hs1 hs2
theorem j9{p1 p2 dF:Pos}(hc:X.calm=true)(hg1:Gl X "list")(hm1:X.mg "list" = none)(hg2:Gl X "reversed")(hm2:X.mg "reversed" = none)(he:QPE X K e te qe)
  (hs1:starEach [e] X.env = [(false,eval e X.env)]:=by rfl) (hs2:starEach [.Call (.Name "reversed" p2) [e] [] dF] X.env = [(false,eval (.Call (.Name "reversed" p2) [e] [] dF) X.env)]:=by rfl) (hK:X.K=K:=by rfl) :
  QPF X K (.Call (.Name "list" p1) [.Call (.Name "reversed" p2) [e] [] dF] [] pos) (k6 K te) (GK qe) :=
 ⟨rR hK hc hg1 hm1 hg2 hm2 he.h hs1 hs2,fun dl H σ q Q R rd hq k=>he.s dl H σ q _ _ rd hq fun v t F H1 e1 r hz=>by
  split at hz
  ·obtain⟨i1,hz⟩:=hz;obtain⟨l,vs,G,rfl,rfl,h1,h2⟩:=r.r.lst;obtain rfl:=h2.im i1;refine⟨l,vs,rfl,SqL.of h1,fun p hp=>?_⟩
   have rs:Rps K dl H1 vs.reverse _ []:=⟨h2.rev rfl,fun _ z=>nomatch z⟩
   exact k _ _ [p] _ (e1.new hp) (rs.lst e1.d hp) (fun b hb=>by rw[List.mem_singleton.mp hb];exact e1.free hp) (by simp) hz
  ·exact hz.elim⟩
end
variable{A:Around}
section
variable{X:Cx}{K:W.Frag}
variable{tg e o:Expr}{te to:TE}{qe qo:QE}
theorem eJ{vs:List V}{ts:List T}(h:au K dl H vs ts F){v:V}(hv:vs[j]? = some v):∃ t G,ts[j]? = some t/\az K dl H v t G:=by
 have hl:=h.len;have hj:j<ts.length:=by rw[<- hl];exact(List.getElem?_eq_some_iff.mp hv).1
 obtain⟨w,G,hw,r,_⟩:=h.get (show ts[j]? = some ts[j]from by simp[hj])
 rw[hv]at hw;cases hw;exact⟨_,G,by simp[hj],r⟩
theorem nI{k:Nat}(hr:cn k A):A.units+150<cLine:=by have:=hr.un;omega
variable{es:List Expr}{tl:TA}{ql:QA}
end
section
variable{X:Cx}{σ:St}{s:Shared}{x:Int}
theorem Inv.Fy(I:Inv X gV σ H s){u:HO}(ha:H a=some u)(hu:∀ o v,u ≠ .frz o v):∀ o v,X.H₀ a≠some (.frz o v):=fun o v e=>by
 have:=I.base.iE a o v e
 rw[ha]at this;exact hu o v (Option.some.inj this)
theorem Inv.yY(I:Inv X gV σ H s)(ha:H a=some (.lst [.int x])):Inv X gV σ (upd H a (.room x)) s:=by
 obtain⟨_,its,n,r,e⟩:=(show aV X.prog X.w H s.heap a (.lst [.int x])from I.hok a _ ha);exact I.vQ ha (fun _ z=>nomatch z) (fun _ z=>nomatch z) (fun _ z=>nomatch z) (I.Fy ha (fun _ _ z=>nomatch z)) ⟨its,n,r,e⟩
theorem Inv.Hg(I:Inv X gV σ H s)(ha:H a=some (.room x)):Inv X gV σ (upd H a (.lst [.int x])) s:=by
 obtain⟨its,n,r,e⟩:=(show aV X.prog X.w H s.heap a (.room x)from I.hok a _ ha);exact I.vQ ha (fun _ z=>nomatch z) (fun _ z=>nomatch z) (fun _ z=>nomatch z) (I.Fy ha (fun _ _ z=>nomatch z)) ⟨by show 1<=sizeLine;decide,its,n,r,e⟩
end
section
variable{X:Cx}{K:W.Frag}{a b e o:Expr}{ta tb te:TE}{qa qb qe:QE}{pos:Pos}
def zF:R2:=fun x y H Q=>∃ p r,x = .ref p/\y = .int 0/\H p=some (.room r)/\Q (.int r) H
theorem wz:IxR X zF:=by
 intro value slice gV s σ H x y v u Q I rx ry h hs;obtain⟨p,m,rfl,rfl,hq,q⟩:=h;cases rx;obtain⟨t,rfl⟩:=ry;obtain⟨its,n,r,e⟩:=(show aV X.prog X.w H s.heap p (.room m)from I.hok p _ hq);have pl:PlainL s.heap p its.toArray:=⟨_,n,e,rfl,rfl,rfl⟩;obtain⟨w,ew,rw'⟩:=r.get (show [V.int m][0]? = some (.int m)from rfl);have hl:=r.length;have hn:=fu;have fin:EP X gV σ Q w s:=⟨.int m,H,I,rw',q⟩;have hl':its.length=1:=hl.symm;exact item_listR pl.isList (Int.le_refl 0) (by decide) (by simpa using ew) fin hs
def zA:ES:=fun o i v H Q=>∃ p x y,o = .ref p/\i = .int 0/\v = .int y/\H p=some (.room x)/\Q (upd H p (.room y))
theorem zq:Ii X zA:=by
 intro gV s σ H o i v ov iv u Q I ro ri rv h;obtain⟨p,x,y,rfl,rfl,rfl,hp,q⟩:=h;have I1:=I.Hg hp;refine thn (set_list (X:=X) gV s σ _ (.ref p) (.int 0) (.int y) ov iv u (fun H'=>H'=upd H p (.lst [.int y])) I1 ro ri rv ⟨p,[.int x],0,0,rfl,rfl,aw,rfl,by rw[kD];rfl⟩) fun _ s' z=>?_
 obtain⟨H',I',z⟩:=z;subst z;have I2:=I'.yY aw;rw[kD]at I2;exact⟨_,I2,q⟩
def E1(te:TE):TE:=fun σ H Q=>te σ H fun v H1=>∃ a x,v = .ref a/\H1 a=some (.lst [.int x])/\Q v (upd H1 a (.room x))
theorem Dv(he:PE X e te):PE X e (E1 te):=by
 intro gV s σ H Q I h;refine thn (he gV s σ H _ I h) fun u s' hPP=>?_
 obtain⟨v,H',I',r,a,x,e1,e2,q⟩:=hPP;exact⟨v,_,I'.yY e2,r,q⟩
theorem Evo.fresh{a:Addr}{o:HO}(e:Evo dl H H')(ha:H a=none)(nd:Nd dl a):Evo dl H (upd H' a o) :=
 ⟨fun b u h n r=>by rw[aj (aP h ha)];exact e.k b u h n r,fun p hp=>(e.d p hp).oth (nd p hp).1 (nd p hp).2,fun b x h=>let⟨y,hy,e'⟩:=e.r b x h;⟨y,hy,by rw[aj (aP h ha)];exact e'⟩⟩
def Jn(qe:QE):QE:=fun q Q=>qe q fun t=>match t with
 | .l [.i x]=>Q (.rm x)
 | _=>False
theorem CZ(he:QPF X K e te qe):QPF X K e (E1 te) (Jn qe):=⟨Dv he.h,fun dl H σ q Q R rd hq k=>he.s dl H σ q _ _ rd hq fun v t F H1 e1 r1 f1 n1 hz=>by
 split at hz
 ·rename_i x;obtain⟨p,vs,G,rfl,rfl,h1,h2⟩:=r1.r.lst;cases h2 with
  | cons h3 h4 =>
   cases h4;obtain⟨rfl,rfl⟩:=h3.int;exact⟨p,x,rfl,h1,k _ (.rm x) [] _ (e1.fresh (f1 p List.mem_cons_self) (r1.n p List.mem_cons_self)) ⟨.rm aw (Int.le_refl _),fun _ z=>nomatch z⟩ (fun _ z=>nomatch z) List.nodup_nil hz⟩
 ·exact hz.elim⟩
def GL:Q2:=fun t u Q=>match t,u with
 | .rm m,.i k=>k=0/\∀ r,r<=m->Q (.i r)
 | _,_=>False
theorem CD:BR K zF GL:=by
 intro dl H x y t u F G Q R D r1 r2 hq k;unfold GL at hq
 split at hq
 ·obtain⟨p,m,rfl,h1,h2,_⟩:=r1.r.roo;obtain⟨rfl,_⟩:=r2.r.int;obtain⟨rfl,hq⟩:=hq;exact⟨p,m,rfl,rfl,h1,k _ (.i m) [] H (.refl D) ⟨.i m,fun _ z=>nomatch z⟩ (hq m h2)⟩
 ·exact hq.elim
theorem C0(ha:QPE X K a ta qa)(hb:QPE X K b tb qb)(hs:jt b:=by intro _ _;rfl):QPE X K (.Subscript a b pos) (tOp zF ta tb) (qOp GL qa qb):=⟨rS wz ha.h hb.h hs,oh CD ha.s hb.s⟩
def t8(i:Nat)(qe:QE):QS:=fun D q=>match q[i]? with
 | some x=>match x.get with
  | some (.rm u)=>qe q fun t=>match t with
   | .i k=>0<=k/\D.nx (q.set i (.r (.rm (u - k))))
   | _=>False
  | _=>False
 | none=>False
def Fd:R2:=rI0 fun i j=>.int (i - j)
theorem zp{α:Type}{xs:List α}{i:Nat}{x:α}(h:xs[i]? = some x):xs.set i x=xs:=by
 obtain⟨hl,e⟩:=List.getElem?_eq_some_iff.mp h;subst e;exact List.set_getElem_self hl
theorem xI{i:Nat}(he:fK K te qe):gD K (e7 (tOp Fd (tOp zF (a9 i) (tC (.int 0))) te) (uZ (a9 i) (tC (.int 0)) zA)) (t8 i qe):=fun dl H₀ hs H σ q Dq D ⟨F,r⟩ hq E=>by
 unfold t8 at hq
 split at hq
 ·rename_i x ex
  split at hq
  ·rename_i u eg;obtain⟨v,hv,rp⟩:=r.g i x _ ex eg;obtain⟨p,m,rfl,h1,h2,hF⟩:=rp.r.roo;refine⟨_,hv,p,m,rfl,rfl,h1,he dl H σ q _ _ r.rd hq fun w t F1 H1 e1 r1 hz=>?_⟩
   split at hz
   ·rename_i k;obtain⟨hk,hz⟩:=hz;obtain⟨rfl,_⟩:=r1.r.int;obtain⟨y,hy,e2⟩:=e1.r p m h1;have nd:Nd dl p:=r.d.nd h1 (fun _ z=>nomatch z) (fun _ z=>nomatch z)
    refine⟨m,k,rfl,rfl,_,hv,p,y,m - k,rfl,rfl,rfl,e2,?_⟩;have ev:Evo dl H (upd H1 p (.room (m - k))):=by
     refine⟨fun b o hb n nr=>?_,fun d hd=>(e1.d d hd).oth (nd d hd).1 (nd d hd).2,fun b z hb=>?_⟩
     ·have ne:b≠p:=fun z=>by rw[z,h1]at hb;exact nr _ (Option.some.inj hb).symm
      rw[aj ne];exact e1.k b o hb n nr
     ·by_cases eb:b=p
      ·subst eb;rw[h1]at hb;cases hb;exact⟨_,Int.sub_le_self _ hk,aw⟩
      ·obtain⟨z',hz',e3⟩:=e1.r b z hb;exact⟨z',hz',by rw[aj eb];exact e3⟩
    have R2:=(r.evo ev).GO (i:=i) (v:=.ref p) (t:=.rm (u - k)) (F':=[]) (List.getElem?_eq_some_iff.mp ex).1 ⟨.rm aw (by omega),fun _ z=>nomatch z⟩ (fun _ _ _ _ _ _=>List.not_mem_nil)
    rw[zp hv]at R2;exact E.nx _ _ _ ⟨_,R2⟩ hz
   ·exact hz.elim
  ·exact hq.elim
 ·exact hq.elim
theorem rJ{i:Nat}{p3 p4 p5 p6 p7:Pos}{j1 j2:Nat}(ho:PE X (.Name x p1) (a9 i))(ho':PE X (.Name x p3) (a9 i))(he:QPE X K e te qe)
  (hs:swapsWithSole [.Subscript (.Name x p1) (.Constant (.int 0) j1 p4) pos'] (.BinOp (.Subscript (.Name x p3) (.Constant (.int 0) j2 p5) p6) .Sub e p7) pos.line X.env=pure false:=by rfl) (hw:swappedStores [.Subscript (.Name x p1) (.Constant (.int 0) j1 p4) pos'] (.BinOp (.Subscript (.Name x p3) (.Constant (.int 0) j2 p5) p6) .Sub e p7) X.env=pure none:=by rfl)
  (h1:(assignEach [.Subscript (.Name x p1) (.Constant (.int 0) j1 p4) pos'] X.env).map (·.2) = [assign (.Subscript (.Name x p1) (.Constant (.int 0) j1 p4) pos') X.env]:=by rfl)
  (ha:∀ v,assign (.Subscript (.Name x p1) (.Constant (.int 0) j1 p4) pos') X.env v =(do
   let ov <- holding [v] (eval (.Name x p1) X.env)
   let iv <- holding [v,ov] (eval (.Constant (.int 0) j1 p4) X.env)
   standAt pos'
   holding [v,ov,iv] (setItem ov iv v)
   release [v,ov,iv] []):=by intro _;rfl) :
  QPS X K (.Assign [.Subscript (.Name x p1) (.Constant (.int 0) j1 p4) pos'] (.BinOp (.Subscript (.Name x p3) (.Constant (.int 0) j2 p5) p6) .Sub e p7) pos) (e7 (tOp Fd (tOp zF (a9 i) (tC (.int 0))) te) (uZ (a9 i) (tC (.int 0)) zA)) (t8 i qe) :=
 ⟨lE (bV uo (rS wz ho' bg (fun _ _=>rfl)) he.h) (ug ho bg zq ha) hs hw h1,xI he.s⟩
end
section
variable{X:Cx}{K:W.Frag}{e a b o:Expr}{es:List Expr}{te tk tv:TE}{tl:TA}{qe qk qv:QE}{ql:QA}{pos p:Pos}{k:Nat}{f:Addr}{prs:List Str}{ps:PSp}{i:Nat}
structure BU(X:Cx)(K:W.Frag)(es:List Expr)(tl:TA)(i j:Nat)(ql:QA):Prop where
 h:PA X es tl
 s:∀(dl:Dl)(H:Hp)(σ:St)(q:Sq)(v0:V)(Q:List T->Prop)(R:List V->Hp->Prop),RdR K dl H σ q->σ[i]? = some (some v0)->ql q Q ->
  (∀ vs ts H',Evo dl H H'->vs.length=ts.length->vs[j]? = some v0 ->(∀ n v t,n≠j->vs[n]? = some v->ts[n]? = some t->Rp K dl H' v t [])->Q ts->R vs H')->tl σ H R
theorem au.im1{vs:List V}{ts:List T}(h:au K dl H vs ts F)(him:T.ims ts=true):∀(n:Nat)(v:V)(t:T),vs[n]? = some v->ts[n]? = some t->az K dl H v t []:=by
 obtain rfl:=h.im him;intro n v t h1 h2;obtain⟨v',G,e1,r,s⟩:=h.HR h2;rw[h1]at e1;cases e1;rw[List.sublist_nil.mp s]at r;exact r
theorem CU(hx:PE X e (a9 i))(hr:QPA X K es tl ql)(hs:starEach (e::es) X.env =(false,eval e X.env)::starEach es X.env:=by rfl):BU X K (e::es) (bP (a9 i) tl) i 0 (fun q Q=>ql q fun ts=>T.ims ts=true/\Q (.n::ts)) :=
 ⟨a8 hx hr.h hs,fun dl H σ q v0 Q R rd hv hq k=>⟨v0,hv,hr.s dl H σ q _ _ rd hq fun vs ts F H1 e1 r1 l1 hz=>k _ (.n::ts) H1 e1 (by simp[r1.r.len]) rfl (fun n v t ne h1 h2=>by
  cases n with
  | zero=>exact absurd rfl ne
  | succ n=>exact⟨r1.r.im1 hz.1 n v t (by simpa using h1) (by simpa using h2),fun _ z=>nomatch z⟩) hz.2⟩⟩
theorem vT(he:QPE X K e te qe)(hr:BU X K es tl i j ql)(hs:starEach (e::es) X.env =(false,eval e X.env)::starEach es X.env:=by rfl):BU X K (e::es) (bP te tl) i (j+1) (fun q Q=>qe q fun t=>t.im=true/\ql q fun ts=>Q (t::ts)) :=
 ⟨a8 he.h hr.h hs,fun dl H σ q v0 Q R rd hv hq k=>he.s dl H σ q _ _ rd hq fun v t F H1 e1 r1 hz=>hr.s dl H1 σ q v0 _ _ (rd.evo e1) hv hz.2 fun vs ts H2 e2 l2 hj ho z=>by
  have r2:=r1.evo e1.d e2;obtain rfl:=r1.r.im hz.1;exact k (v::vs) (t::ts) H2 (e1.trans e2) (by simp[l2]) (by simpa using hj) (fun n w u ne h1 h2=>by
   cases n with
   | zero=>simp at h1 h2;subst h1 h2;exact r2
   | succ n=>exact ho n w u (fun z=>ne (by rw[z])) (by simpa using h1) (by simpa using h2)) z⟩
end
def T.dof:T->Option (List (Key×T))
 | .d ks=>some ks
 | .fd _ _ ks=>some ks
 | .dp _ ks=>some ks
 | _=>none
variable{kvs:List (Key×V)}{neg:Bool}
section
variable{X:Cx}{K:W.Frag}{v:V}{a b c e:Expr}{ta tb tk tx te:TE}{qa qb qk qx qe:QE}{pos apos aQ:Pos}
theorem az.dof{t:T}{ks:List (Key×T)}(h:az K dl H v t F)(e:t.dof=some ks):∃ a vs G,v = .ref a/\Rd H a (.dK vs)/\aL K dl H vs ks G/\∀ b∈G,b∈F:=by
 cases t with
 | d ks' =>
  cases e;obtain⟨a,vs,G,rfl,rfl,h1,h2⟩:=h.dic;exact⟨a,vs,G,rfl,.inl h1,h2,fun _ hb=>List.mem_cons_of_mem _ hb⟩
 | fd o vs ks' =>
  cases e;obtain⟨a,rfl,rfl,h1,h2⟩:=h.NC;exact⟨a,vs,[],rfl,.inr ⟨_,h1⟩,h2,fun _ hb=>hb⟩
 | dp a ks' =>
  cases e;obtain⟨vs,G,rfl,rfl,h1,h2⟩:=h.dpp;exact⟨a,vs,G,rfl,.inl h1,h2,fun _ hb=>List.mem_cons_of_mem _ hb⟩
 | _=>cases e
theorem hU.rd{a:Addr}{k:Key}(e:Rd H a (.dK kvs)):hU H a (kV k) (c7 kvs k):=.inl ⟨kvs,k,e,rfl,rfl⟩
def Fg(neg:Bool):Q2:=fun t u Q=>match u.dof with
 | some ks=>match t.key with
  | some k=>Q (.b (if neg then !(cc ks k).isSome else(cc ks k).isSome))
  | none=>False
 | none=>False
theorem zj:cM K (Ji neg) (Fg neg):=by
 intro dl H x y t u F G Q R D r1 r2 hq k;unfold Fg at hq
 split at hq
 ·rename_i ks eks
  split at hq
  ·rename_i k0 ek;obtain⟨p,vs,G,rfl,h1,h2,_⟩:=r2.r.dof eks;rw[r1.r.key ek];refine⟨p,_,rfl,hU.rd h1,k _ _ [] H (.refl D) (.c (.b _)) (fun _ z=>nomatch z) List.nodup_nil ?_⟩
   have e:(c7 vs k0).isSome =(cc ks k0).isSome:=by
    rcases h2.look k0 with⟨z1,z2⟩ |⟨_,_,_,z1,z2,_⟩
    ·rw[z1,z2];rfl
    ·rw[z1,z2];rfl
   rw[e];exact hq
  ·exact hq.elim
 ·exact hq.elim
def Ab:Q2:=fun t u Q=>match t.dof with
 | some ks=>match u.key with
  | some k=>∃ x,cc ks k=some x/\Q x
  | none=>False
 | none=>False
def zG:R2:=fun x y H Q=>∃ a kvs k v,x = .ref a/\y=kV k/\Rd H a (.dK kvs)/\c7 kvs k=some v/\Q v H
theorem A1:IxR X zG:=by
 intro value slice gV s σ H x y v u Q I rx ry h hs;obtain⟨a,kvs,k,w,rfl,rfl,ha,hv,q⟩:=h;cases rx;obtain⟨z,hd,vs,rel,dd⟩:=hZ I.hok ha;obtain⟨w',hw,rw'⟩:=iQ.some_of (v:=w) (o:=valueAt vs k) (by rw[<- hv];exact rel.val k)
 exact subscriptTail_builtinR (x:=w') dd.typeIs PySem.F.slot_dict_getitem.lookup (wpAny_getItem_of (Q:=fun r s'=>r=w'/\EP X gV σ Q r s') (lZ ry) dd.mapOf hw ⟨rfl,w,H,I.tok _,rw',q⟩) hs
theorem zg:BR K zG Ab:=by
 intro dl H x y t u F G Q R D r1 r2 hq k;unfold Ab at hq
 split at hq
 ·rename_i ks eks
  split at hq
  ·rename_i k0 ek;obtain⟨z,hz,hq⟩:=hq;obtain⟨p,vs,G,rfl,h1,h2,sub⟩:=r1.r.dof eks;rw[r2.r.key ek];rcases h2.look k0 with⟨z1,z2⟩ |⟨t',v,G',z1,z2,z3,z4⟩
   ·rw[z1]at hz;cases hz
   ·rw[z1]at hz;cases hz;exact⟨p,vs,k0,v,rfl,rfl,h1,z2,k v _ G' H (.refl D) (Rp.sub z3 r1.n fun b hb=>sub b (z4 b hb)) hq⟩
  ·exact hq.elim
 ·exact hq.elim
theorem fe(ha:QPE X K a ta qa)(hb:QPE X K b tb qb)(hs:jt b:=by intro _ _;rfl):QPE X K (.Subscript a b pos) (tOp zG ta tb) (qOp Ab qa qb):=⟨rS A1 ha.h hb.h hs,oh zg ha.s hb.s⟩
def nj:List V->Hp->VK->Prop:=fun xs H Q=>∃(p:Addr)(kvs:List (Key×V)),xs = [.ref p]/\Rd H p (.dK kvs)/\∀ d,H d=none->Q (.ref d) (upd H d (.dK kvs))
theorem mw:bW X (.type "dict") nj:=by
 intro gV s σ H xs us Q I r h;obtain⟨p,kvs,rfl,hp,q⟩:=h;obtain⟨u,rfl,ru⟩:=vals1 r;cases ru;obtain⟨z,hsm,vs,kv,dd⟩:=hZ I.hok hp;refine callType_codes (Q₁:=fun obj s₁=>obj = .ref s.heap.objs.size/\s₁ ={ s with heap:=s.heap.push { cls:=.type "dict",data:=.dict #[] } }) F.kt_called_dict (F.kt_typeCall_dict_1 _) F.entry_dict_init (kt_code_dict_new _ ⟨rfl,rfl⟩) ?_
 rintro obj s₁ ⟨rfl,rfl⟩
 have uU:(s.heap.push { cls:=.type "dict",data:=.dict #[] }).DictOf (aY X.prog X.w) s.heap.objs.size []:=Heap.DictOf.new s.heap;have hlt:p<s.heap.objs.size:=by
  obtain⟨o,_,_,e,_⟩:=dd;exact Heap.lt_size e
 have dd':(s.heap.push { cls:=.type "dict",data:=.dict #[] }).DictOf (aY X.prog X.w) p vs:=by
  obtain⟨o,es,ep,e,r⟩:=dd;exact⟨o,es,ep,Heap.get?_push_of_some _ e,r⟩
 have nod:(vs.map (·.1)).Nodup:=by
  obtain⟨o,es,ep,_,_,_,_,_,n⟩:=dd;exact n
 have hkl:kvs.length=vs.length:=Paired.length kv;refine⟨uU.typeIs,F.args_dict_init_2 _ _,?_⟩;unfold Builtin.«dict.__init__»;refine wpAny_bind ?_;unfold Builtin.Dict.selfAndRest;refine wpAny_bind (wpAny_notOrdered_dict uU.typeIs ?_);show wpAny _ _ (pure (s.heap.objs.size,[Value.ref p])) _ _ _;refine wpAny_pure ?_;show wpAny _ _ (Builtin.Dict.updateFrom "dict.__init__" s.heap.objs.size (.ref p) [] .none) _ _ _;unfold Builtin.Dict.updateFrom;refine wpAny_bind (wpAny_typeOf dd'.typeIs ?_);rw[if_neg (by decide)]
 refine wpAny_bind ?_;unfold Builtin.Dict.merge;refine wpAny_bind ?_;unfold Builtin.Dict.readDirectly;refine wpAny_bind (wpAny_isInstance dd'.typeIs isSubtype_dict_dict ?_);simp only[Bool.not_true,Bool.false_eq_true,if_false];refine wpAny_bind (wpAny_specialOf dd'.typeIs F.slot_dict_iter.lookup (wpAny_pure ?_));simp only[beq_self_eq_true,if_true];refine wpAny_bind (wpAny_pure ?_);refine wpAny_mergeDict (hsz:=by simp only[List.length_nil];omega) (Nat.ne_of_gt hlt) hsm uU dd' fun h' hd' ho' hs'=>?_
 show wpAny _ _ (Builtin.Dict.addKeywords _ [] >>= _) _ _ _;rw[merged_nil_of_nodup _ nod]at hd';refine wpAny_bind (wpAny_pure (wpAny_pure ⟨rfl,.ref s.heap.objs.size,_,I.laid (h':=h') (a:=s.heap.objs.size) (o:=.dK kvs) (fun b u e=>?_) (Nat.le_refl _) (mf z ?_ kv hd'),rfl,q _ (I.hok.fresh (Nat.le_refl _))⟩))
 ·rw[hs'.2 b (Nat.ne_of_lt (Heap.lt_size e))];exact Heap.get?_push_of_some _ e
 ·have:=I.big
  exact beq_eq_false_iff_ne.mpr (Nat.ne_of_gt this)
def jD:QC:=fun ts Q=>match ts with
 | [t]=>match t.dof with
  | some ks=>T.imk ks=true/\Q (.d ks)
  | none=>False
 | _=>False
theorem oq:kA K nj jD:=by
 intro dl H vs ts F Q R D r hq k;unfold jD at hq
 split at hq
 ·split at hq
  ·rename_i ks eks;obtain⟨v,rfl,r1⟩:=r.one;obtain⟨p,kvs,G,rfl,h1,h2,sub⟩:=r1.r.dof eks;obtain rfl:=h2.im hq.1;refine⟨p,kvs,rfl,h1,fun d hd=>?_⟩
   have ev:Evo dl H (upd H d (.dK kvs)):=(Evo.refl D).new hd;exact k _ _ [d] _ ev ⟨.d aw (h2.cD (ev.tf D) (fun _ z=>z) fun _ z=>nomatch z),fun b hb=>by rw[List.mem_singleton.mp hb];exact D.nd0 hd⟩ (fun b hb=>by rw[List.mem_singleton.mp hb];exact hd) (by simp) hq.2
  ·exact hq.elim
 ·exact hq.elim
def E5(te:TE):TE:=fun σ H Q=>te σ H fun v H1=>∃ a kvs,v = .ref a/\H1 a=some (.dK kvs)/\∀ o,Q v (upd H1 a (.frz o (.dK kvs)))
theorem Dw(he:PE X e te):PE X e (E5 te):=by
 intro gV s σ H Q I h;refine thn (he gV s σ H _ I h) fun u s' hPP=>?_
 obtain⟨v,H',I',r,a,kvs,e1,e2,q⟩:=hPP;obtain⟨_,o,I2⟩:=I'.freeze e2;exact⟨v,_,I2,r,q o⟩
def Jt(qe:QE):QE:=fun q Q=>qe q fun t=>match t with
 | .d ks=>T.imk ks=true/\∀ o vs,Q (.fd o vs ks)
 | _=>False
theorem TF.KU{p:Addr}{kv:List (Key×V)}{o:Obj}{u:HO}(hp:H p=some (.dK kv)):TF H (upd H p (.frz o u)) :=
 have ne:∀{a:Addr}{o:HO},H a=some o ->(∀ kv,o ≠ .dK kv)->a≠p:=fun h n e=>by rw[e,hp]at h;exact n _ (Option.some.inj h).symm
 ⟨fun a vs h=>by rw[aj (ne h fun _ z=>nomatch z)];exact h,fun a o u h=>by rw[aj (ne h fun _ z=>nomatch z)];exact h,fun a φ h=>by rw[aj (ne h fun _ z=>nomatch z)];exact h,fun a xs h=>⟨xs,by rw[aj (ne h fun _ z=>nomatch z)];exact h⟩,fun a x h=>⟨x,Int.le_refl _,by rw[aj (ne h fun _ z=>nomatch z)];exact h⟩⟩
theorem C2(he:QPF X K e te qe):QPF X K e (E5 te) (Jt qe):=⟨Dw he.h,fun dl H σ q Q R rd hq k=>he.s dl H σ q _ _ rd hq fun v t F H1 e1 r1 f1 n1 hz=>by
 split at hz
 ·rename_i ks;obtain⟨p,vs,G,rfl,rfl,h1,h2⟩:=r1.r.dic;obtain rfl:=h2.im hz.1;exact⟨p,vs,rfl,h1,fun o=>k _ (.fd o vs ks) [] _ (e1.fresh (f1 p List.mem_cons_self) (r1.n p List.mem_cons_self)) ⟨.fd aw (h2.cD (TF.KU h1) (fun _ z=>z) fun _ z=>nomatch z),fun _ z=>nomatch z⟩ (fun _ z=>nomatch z) List.nodup_nil (hz.2 o vs)⟩
 ·exact hz.elim⟩
end
section
variable{X:Cx}{K:W.Frag}{t:TS}{qt:QS}
def y3(i:Nat)(t:TS):TS:=fun D σ H=>∃ a kvs,σ[i]? = some (some (.ref a))/\H a=some (.dK kvs)/\∀ o,t D σ (upd H a (.frz o (.dK kvs)))
theorem GR{i:Nat}(h:PS X st t):PS X st (y3 i t):=by
 intro gV s σ H D I z;obtain⟨a,kvs,_,ha,k⟩:=z;obtain⟨_,o,I1⟩:=I.freeze ha;exact h gV s σ _ D I1 (k o)
def Ac(i:Nat)(qt:QS):QS:=fun D q=>match q[i]? with
 | some (.o (.d ks))=>T.imk ks=true/\∀ o vs,qt D (q.set i (.o (.fd o vs ks)))
 | _=>False
theorem Rel.frz{dl:Dl}{H₀ H:Hp}{hs:List (V×T)}{σ:St}{q:Sq}{F:Nat->List Addr}{i:Nat}{a:Addr}{vs:List (Key×V)}{ks:List (Key×T)}{o:Obj}(r:Rel K dl H₀ hs H σ q F)(ei:q[i]? = some (.o (.d ks)))(hv:σ[i]? = some (some (.ref a)))(eF:F i = [a])(rp:Rp K dl H (.ref a) (.d ks) (F i))(h1:H a=some (.dK vs))(h2:aL K dl H vs ks []):gE K dl H₀ hs (upd H a (.frz o (.dK vs))) σ (q.set i (.o (.fd o vs ks))):=by
 refine⟨rB F i [],?_⟩;have tf:=TF.KU (o:=o) (u:=.dK vs) h1;have na:Nd dl a:=rp.n a (by rw[eF];exact List.mem_cons_self)
 obtain⟨o1,o2,o3⟩:=r.o i _ ei;have st:∀{w:V}{u:T}{Fw:List Addr},Rp K dl H w u Fw->a ∉ Fw->Rp K dl (upd H a (.frz o (.dK vs))) w u Fw:=fun{w u Fw} h np =>
  ⟨h.r.cD tf (fun _ z=>z) fun b hb ob e=>(by
   have n0:b≠a:=fun z=>np (by rw[<- z];exact hb)
   rw[aj n0];exact e),h.n⟩
 refine⟨fun d hd=>(r.d d hd).oth (na d hd).1 (na d hd).2,fun j x u h3 h4=>?_,fun j x h3 h4=>?_,fun j hj=>?_,fun j u h3=>?_,fun p hp=>?_,⟨fun b ob hb nb nr=>?_,fun b x hb=>?_⟩,by simp[r.l]⟩
 ·rcases get_set h3 with⟨rfl,rfl,_⟩ |⟨ne,h3⟩
  ·cases h4;exact⟨_,hv,by rw[aK];exact⟨.fd aw (h2.cD tf (fun _ z=>z) fun _ z=>nomatch z),fun _ z=>nomatch z⟩⟩
  ·obtain⟨w,h5,h6⟩:=r.g j x u h3 h4;exact⟨w,h5,by rw[aA ne];exact st h6 (o3 j ne a (by rw[eF];exact List.mem_cons_self))⟩
 ·rcases get_set h3 with⟨rfl,rfl,_⟩ |⟨ne,h3⟩
  ·cases h4
  ·rw[aA ne];exact r.n j x h3 h4
 ·rw[List.length_set]at hj;by_cases e:j=i
  ·rw[e,aK]
  ·rw[aA e];exact r.z j hj
 ·rcases get_set h3 with⟨rfl,e,_⟩ |⟨ne,h3⟩
  ·rw[aK];exact⟨List.nodup_nil,fun _ z=>absurd z List.not_mem_nil,fun _ _ _ z=>absurd z List.not_mem_nil⟩
  ·rw[aA ne];obtain⟨p1,p2,p3⟩:=r.o j u h3;refine⟨p1,p2,fun k hk b hb=>?_⟩
   by_cases ek:k=i
   ·rw[ek,aK];exact List.not_mem_nil
   ·rw[aA ek];exact p3 k hk b hb
 ·obtain⟨Fp,h3,h4⟩:=r.h p hp;refine⟨Fp,st h3 (h4 i _ ei a (by rw[eF];exact List.mem_cons_self)),fun j u hj b hb z=>?_⟩
  rcases get_set hj with⟨rfl,e,_⟩ |⟨ne,hj⟩
  ·rw[aK]at hb;cases hb
  ·rw[aA ne]at hb;exact h4 j u hj b hb z
 ·have n0:b≠a:=fun z=>by rw[z,o2 a (by rw[eF];exact List.mem_cons_self)]at hb;cases hb
  rw[aj n0];exact r.f.k b ob hb nb nr
 ·have n0:b≠a:=fun z=>by rw[z,o2 a (by rw[eF];exact List.mem_cons_self)]at hb;cases hb
  rw[aj n0];exact r.f.r b x hb
theorem zh{i:Nat}(h:gD K t qt):gD K (y3 i t) (Ac i qt):=fun dl H₀ hs H σ q Dq D ⟨F,r⟩ hq E=>by
 unfold Ac at hq
 split at hq
 ·rename_i ks ei;obtain⟨v,hv,rp⟩:=r.g i _ _ ei rfl;obtain⟨a,vs,G,rfl,eF,h1,h2⟩:=rp.r.dic;obtain rfl:=h2.im hq.1;exact⟨a,vs,hv,h1,fun o=>h dl H₀ hs _ σ _ Dq D (r.frz ei hv eF rp h1 h2) (hq.2 o vs) E⟩
 ·exact hq.elim
theorem GB{i:Nat}(h:QPS X K st t qt):QPS X K st (y3 i t) (Ac i qt):=⟨GR h.h,zh h.s⟩
end
section
variable{X:Cx}{σ:St}{s:Shared}{u1 u2 v1 v2:HO}{C:Addr}{fs:List (Str×V)}
theorem Inv.zy(I:Inv X gV σ H s)(ne:d≠a)(ha:H a=some v1)(hd:H d=some v2)(t1:∀ xs,v1 ≠ .tup xs)(t2:∀ xs,v2 ≠ .tup xs)(b1:∀ ps,v1 ≠ .tbl ps)(b2:∀ ps,v2 ≠ .tbl ps)(z1:∀ o v,v1 ≠ .frz o v)(z2:∀ o v,v2 ≠ .frz o v)(w1:∀ c,v1 ≠ .own c)(w2:∀ c,v2 = .own c->c=a)
  (M6:aV X.prog X.w (upd (upd H a u1) d u2) s.heap a u1) (M5:aV X.prog X.w (upd (upd H a u1) d u2) s.heap d u2):Inv X gV σ (upd (upd H a u1) d u2) s:=by
 have nea:∀{b:Addr}{o:HO},H b=some o->o≠v1->b≠a:=fun e n z=>by rw[z,ha]at e;exact n (Option.some.inj e).symm
 have ned:∀{b:Addr}{o:HO},H b=some o->o≠v2->b≠d:=fun e n z=>by rw[z,hd]at e;exact n (Option.some.inj e).symm
 have n0:∀{b:Addr},H b=none->b≠a/\b≠d:=fun{b} e=>⟨fun z=>(by rw[z,ha]at e;cases e),fun z=>(by rw[z,hd]at e;cases e)⟩
 have st:∀{b:Addr},b≠a->b≠d->upd (upd H a u1) d u2 b=H b:=fun h1 h2=>by rw[aj h2,aj h1]
 refine⟨I.ok,I.os,I.bare,⟨I.base.keep,I.base.slot,fun b o e n hx=>?_,I.base.there,fun b xs e=>?_,fun b o v e=>?_,fun b ps e=>?_⟩,I.loc,I.cell,?_,fun x c e=>?_,fun p hp=>?_,fun b o e=>?_,I.len⟩
 ·have:=I.base.free b o e n hx
  rw[st (n0 this).1 (n0 this).2];exact this
 ·have:=I.base.kX b xs e
  rw[st (nea this fun z=>t1 _ z.symm) (ned this fun z=>t2 _ z.symm)]
  exact this
 ·have:=I.base.iE b o v e
  rw[st (nea this fun z=>z1 _ _ z.symm) (ned this fun z=>z2 _ _ z.symm)]
  exact this
 ·obtain⟨more,this⟩:=I.base.kY b ps e;refine⟨more,?_⟩;rw[st (nea this fun z=>b1 _ z.symm) (ned this fun z=>b2 _ z.symm)]
  exact this
 ·rw[st (n0 I.free).1 (n0 I.free).2];exact I.free
 ·rw[st (n0 (I.dD x c e)).1 (n0 (I.dD x c e)).2];exact I.dD x c e
 ·obtain⟨p1,p2,p3⟩:=I.pin p hp;exact⟨p1,by rw[st (n0 p2).1 (n0 p2).2];exact p2,p3⟩
 ·by_cases hbd:b=d
  ·subst hbd;rw[aw]at e;cases e;exact M5
  ·by_cases hba:b=a
   ·subst hba;rw[aj hbd,aw]at e;cases e;exact M6
   ·rw[st hba hbd]at e;refine(I.hok b o e).cD (fun _ _ _ q=>q) (fun c q=>?_) fun c xs q=>?_
    ·rw[st (nea q fun z=>w1 _ z.symm) (fun z=>by rw[z,hd]at q;exact hba (w2 b (Option.some.inj q)))];exact q
    ·rw[st (nea q fun z=>t1 _ z.symm) (ned q fun z=>t2 _ z.symm)];exact q
theorem Inv.IC(I:Inv X gV σ H s)(ha:H a=some (.ins C d fs)):d≠a/\fs.length<=1000/\H d=some (.own a)/\Inv X gV σ (upd (upd H a (.ext (m5 a C d))) d (.ext (XD d fs))) s:=by
 obtain⟨hd,hl,ne,e,mA,n,r,w⟩:=(show aV X.prog X.w H s.heap a (.ins C d fs)from I.hok a _ ha);exact⟨ne,hl,hd,I.zy ne ha hd (fun _ z=>nomatch z) (fun _ z=>nomatch z) (fun _ z=>nomatch z) (fun _ z=>nomatch z) (fun _ _ z=>nomatch z) (fun _ _ z=>nomatch z) (fun _ z=>nomatch z) (fun c z=>by cases z;rfl)
  ⟨e,⟨_,e⟩,fun h1 h2 p k=>k _ p⟩ (XD.ok ⟨mA,n,r,w⟩)⟩
theorem Inv.MV(I:Inv X gV σ H s)(ne:d≠a)(hl:fs.length<=1000)(ha:H a=some (.ext (m5 a C d)))(hd:H d=some (.ext (XD d fs))):Inv X gV σ (upd (upd H a (.ins C d fs)) d (.own a)) s:=by
 have e:m5 a C d s.heap:=(I.hok a _ ha).1;obtain⟨mA,n,r,w⟩:XD d fs s.heap:=(I.hok d _ hd).1;refine I.zy ne ha hd (fun _ z=>nomatch z) (fun _ z=>nomatch z) (fun _ z=>nomatch z) (fun _ z=>nomatch z) (fun _ _ z=>nomatch z) (fun _ _ z=>nomatch z) (fun _ z=>nomatch z) (fun c z=>nomatch z) ⟨aw,hl,ne,e,mA,n,r,w⟩ ?_
 obtain⟨o,_,_,e',_⟩:=n;exact⟨o,e'⟩
end
variable{C:Addr}{ns:List Str}{prs:List Str}
section
variable{X:Cx}{K:W.Frag}{e:Expr}{es:List Expr}{te:TE}{qe:QE}{tl:TA}{ql:QA}{pos p:Pos}{f:Str}
def E7(K:W.Frag)(ta:TE)(f:Str):TE:=fun σ H Q=>ta σ H fun x H1=>∃ a C fs v,x = .ref a/\ObH H1 a C fs/\fs.length<=1000/\Cls K C/\d9 K C f/\fs.lookup f=some v/\Q v H1
theorem Dy(he:PE X e te)(hb:attributeBase e f X.env (eval e X.env)=eval e X.env):PE X (.Attribute e f pos) (E7 X.K te f):=by
 intro gV s σ H Q I h;refine EJ hb (thn (he gV s σ H _ I h) fun u s1 ⟨x,H1,I1,rx,a,C,fs,v,ex,⟨dx,ne,h1,h2⟩,hl,c,n,l,q⟩=>?_)
 subst ex;obtain rfl:u=Value.ref a:=rx;refine uY (I1.MV ne hl h1 h2) (C:=C) (dx:=dx) (fs:=fs) (by rw[aj ne.symm,aw]) c n l fun u' s2 I2 ru=>⟨v,H1,?_,ru,q⟩
 obtain⟨_,_,_,I3⟩:=I2.IC (a:=a) (C:=C) (d:=dx) (fs:=fs) (by rw[aj ne.symm,aw])
 have e:upd (upd (upd (upd H1 a (.ins C dx fs)) dx (.own a)) a (.ext (m5 a C dx))) dx (.ext (XD dx fs))=H1:=by
  funext b
  by_cases hbd:b=dx
  ·rw[hbd,aw,h2]
  ·by_cases hba:b=a
   ·rw[aj hbd,hba,aw,h1]
   ·rw[aj hbd,aj hba,aj hbd,aj hba]
 rw[e]at I3;exact I3
def Jv(C:Addr)(f:Str)(qe:QE):QE:=fun q Q=>qe q fun t=>match t with
 | .ob C' ns ts=>C'=C/\ns.length<=1000/\∃ x,(ns.zip ts).lookup f=some x/\Q x
 | _=>False
theorem dq(hc:Cls K C)(hn:d9 K C f)(he:QPE X K e te qe)(hb:attributeBase e f X.env (eval e X.env)=eval e X.env:=by rfl)(hK:X.K=K:=by rfl):QPE X K (.Attribute e f pos) (E7 K te f) (Jv C f qe):=⟨by subst hK;exact Dy he.h hb,fun dl H σ q Q R rd hq k=>he.s dl H σ q _ _ rd hq fun v t F H1 e1 r1 hz=>by
 split at hz
 ·obtain⟨rfl,hl,x,hx,hz⟩:=hz;obtain⟨a,vs,rfl,rfl,ho,rs⟩:=r1.r.obj;obtain⟨w,G,e2,r2,s2⟩:=rs.lookup hx;refine⟨a,_,_,w,rfl,ho,?_,hc,hn,e2,k _ _ G H1 e1 ⟨r2,fun b hb=>nomatch s2 b hb⟩ hz⟩
  rw[List.length_zip];exact Nat.le_trans (Nat.min_le_left _ _) hl
 ·exact hz.elim⟩
def tu(C:Addr)(ns:List Str):Sp:=fun vs H Q _=>∃ x dx args,vs = .ref x::args/\args.length=ns.length/\H x=some (.ins C dx [])/\Q .non (upd H x (.ins C dx (ns.zip args)))
def yZ(C:Addr)(ns:List Str)(t:TA):TE:=fun σ H Q=>t σ H fun vs H1=>vs.length=ns.length/\∀ x dx,H1 x=none->H1 dx=none->dx≠x->Q (.ref x) (upd (upd H1 x (.ext (m5 x C dx))) dx (.ext (XD dx (ns.zip vs))))
theorem Aq{g:Addr}{k:Nat}(M:Mk X.K C g)(G:bc X.prog X.w X.K X.mg X.base CX0 k g fd prs (tu C ns))(hr:cn (k+1) X.A)(hg:Gl X x)(hm:X.mg x=some (.ref C))(hb:Binds X.K fd prs [])(ha:PA X (e::es) tl)
  (hdb:(x ==("__debug__":Str))=false:=by decide) (he:starEach (e::es) X.env =(false,eval e X.env)::starEach es X.env:=by rfl) (hpl:(backTo pos (starEach es X.env)).any (·.1)=false:=by rfl) :
  PE X (.Call (.Name x p) (e::es) [] pos) (yZ C ns tl):=by
 intro gV s σ H Q I h;refine wpAny_Call_Name_kw (wy I hg hm ?_ hdb);refine W.callWith_K (h₀:=X.base) I.ok.mod.kin M.kp (thn (ha pos gV s σ H _ I h) fun us s1 ⟨vs,H1,I1,r,q⟩=>⟨I1.kIn,?_⟩) he hpl
 refine thn (zv (Q:=fun v H2=>∃ a dx fs,v = .ref a/\H2 a=some (.ins C dx fs)/\Q v (upd (upd H2 a (.ext (m5 a C dx))) dx (.ext (XD dx fs)))) M G hr hb .nil rV I1 r fun x dx hx hd ne=>⟨x,dx,vs,by simp,q.1,aw,rfl,x,dx,ns.zip vs,rfl,aw,?_⟩) fun u s' ⟨v,H',I',rv,a,dx,fs,e1,e2,qq⟩=>?_
 ·have e:upd (upd (upd (upd (upd H1 dx (.own x)) x (.ins C dx [])) x (.ins C dx (ns.zip vs))) x (.ext (m5 x C dx))) dx (.ext (XD dx (ns.zip vs)))=upd (upd H1 x (.ext (m5 x C dx))) dx (.ext (XD dx (ns.zip vs))):=by
   funext b
   by_cases hbd:b=dx
   ·rw[hbd,aw,aw]
   ·by_cases hba:b=x
    ·rw[aj hbd,aj hbd,hba,aw,aw]
    ·rw[aj hbd,aj hba,aj hba,aj hba,aj hbd,aj hbd,aj hba]
  rw[e];exact q.2 x dx hx hd ne
 ·obtain⟨_,_,_,I2⟩:=I'.IC e2;exact⟨v,_,I2,rv,qq⟩
def GJ(C:Addr)(ns:List Str)(ql:QA):QE:=fun q Q=>ql q fun ts=>T.ims ts=true/\ts.length=ns.length/\Q (.ob C ns ts)
theorem lD{g:Addr}{k:Nat}(hK:X.K=K)(M:Mk K C g)(G:bc X.prog X.w X.K X.mg X.base CX0 k g fd prs (tu C ns))(hr:cn (k+1) X.A)(hg:Gl X x)(hm:X.mg x=some (.ref C))(hb:Binds X.K fd prs [])(ha:QPA X K (e::es) tl ql)
  (hdb:(x ==("__debug__":Str))=false:=by decide) (he:starEach (e::es) X.env =(false,eval e X.env)::starEach es X.env:=by rfl) (hpl:(backTo pos (starEach es X.env)).any (·.1)=false:=by rfl) :
  QPF X K (.Call (.Name x p) (e::es) [] pos) (yZ C ns tl) (GJ C ns ql):=by
 subst hK;refine⟨Aq M G hr hg hm hb ha.h hdb he hpl,fun dl H σ q Q R rd hq k=>ha.s dl H σ q _ _ rd hq fun vs ts F H1 e1 r1 _ hz=>?_⟩
 obtain⟨z1,z2,z3⟩:=hz;obtain rfl:=r1.r.im z1;refine⟨r1.r.len.trans z2,fun x dx hx hd ne=>?_⟩
 have ev:Evo dl H1 (upd (upd H1 x (.ext (m5 x C dx))) dx (.ext (XD dx (ns.zip vs)))):=((Evo.refl e1.d).new hx).new (by rw[aj ne];exact hd)
 have r2:=r1.evo e1.d ev;exact k _ _ [] _ (e1.trans ev) ⟨.ob ⟨dx,ne,by rw[aj ne.symm,aw],aw⟩ r2.r,fun _ z=>nomatch z⟩ (fun _ z=>nomatch z) List.nodup_nil z3
end
variable{tg:Expr}{e:Expr}{g:Tg}
section
variable{X:Cx}{K:W.Frag}
def zB(K:W.Frag):R2:=fun x y H Q=>∃ p q vs,x = .ref p/\y = .ref q/\SqL K H p vs/\SqL K H q []/\Q (.bl (!vs.isEmpty)) H
theorem rX(hu:X.A.units+1<cLine)(hK:X.K=K):OpR X (compareOp .NotEq) (zB K):=by
 subst hK;intro gV s σ H x y v u Q I rx ry h;obtain⟨p,q,vs,rfl,rfl,h1,h2,k⟩:=h;cases rx;cases ry;obtain⟨its,r1,p1,_⟩:=I.list h1;obtain⟨bu,r2,p2,_⟩:=I.list h2;have l1:=r1.length;have l2:=r2.length;have e2:bu.length=0:=l2.symm;by_cases hl:its.length=bu.length
 ·refine SeqAt.RcNeAt.lists (e:=fun _=>true) p1.isList p2.isList (by simpa using hl) (by omega) (fun j g1 g2=>?_) X.prog X.w X.xe _ ⟨.bl _,H,I,rfl,?_⟩
  ·obtain⟨a,ea,ra⟩:=r2.at' g2;simp at ea
  ·have e:vs = []:=List.length_eq_zero_iff.mp (by omega)
   subst e;have e3:its.toArray.size=0:=by simp;exact List.length_eq_zero_iff.mp (by omega)
   rw[e3];exact k
 ·refine SeqAt.RcNeAt.lists_lengths p1.isList p2.isList (by simpa using hl) (by omega) X.prog X.w X.xe _ ⟨.bl _,H,I,rfl,?_⟩
  cases vs with
  | nil=>exact absurd l1.symm (by rw[<- l2]at hl;exact hl)
  | cons _ _=>exact k
def z8:Q2:=fun t u Q=>match t,u with
 | .l xs,.l []=>Q (.b (!xs.isEmpty))
 | _,_=>False
theorem ng:cM K (zB K) z8:=by
 intro dl H x y t u F G Q R D r1 r2 hq k;unfold z8 at hq
 split at hq
 ·rename_i xs;obtain⟨p,vs,G1,rfl,rfl,h1,h2⟩:=r1.r.lst;obtain⟨p',vs',G2,rfl,rfl,h3,h4⟩:=r2.r.lst;cases h4;refine⟨p,p',vs,rfl,rfl,SqL.of h1,SqL.of h3,k _ _ [] H (.refl D) (.c (.b _)) (fun _ z=>nomatch z) List.nodup_nil ?_⟩
  have e:vs.isEmpty=xs.isEmpty:=by
   have:=h2.len
   cases vs <;> cases xs <;> simp at this ⊢
  rw[e];exact hq
 ·exact hq.elim
theorem JN{w1 w2:TI}(h1:PI X tg e w1)(h2:PI X tg e w2):PI X tg e (fun σ H R=>w1 σ H R\/w2 σ H R):=by
 intro gV s σ H R I h;rcases h with h|h
 ·exact h1 gV s σ H R I h
 ·exact h2 gV s σ H R I h
def asP(i:Nat):QJ:=fun q Q=>match q[i]? with
 | some (.r (.l xs))=>Q xs q
 | some (.r (.t xs))=>Q xs q
 | _=>False
theorem GC{i:Nat}(h:PE X e (a9 i))(hK:X.K=K:=by rfl):QPJ X K tg e (fun σ H R=>nG K (a9 i) σ H R\/A4 K (a9 i) σ H R) (asP i):=⟨JN (i7 hK h) (oW hK h),fun dl H₀ hs H σ q Q R ⟨F0,r0⟩ hq k=>by
 have hold:∀{t:T}{v:V},q[i]? = some (.r t)->Rp K dl H v t (F0 i)->Rel K dl H₀ ((v,t)::hs) H σ q F0:=fun{t v} e r=>r0.hold r fun j u hj b hb=>by
  have ne:i≠j:=fun z=>by rw[z,hj]at e;cases e
  exact(r0.o j u hj).2.2 i ne b hb
 unfold asP at hq
 split at hq
 ·rename_i xs e1;obtain⟨v,hv,r⟩:=r0.g i _ _ e1 rfl;have r1:=hold e1 r;obtain⟨p,vs,G,rfl,_,h1,h2⟩:=r.r.lst;exact .inl ⟨_,hv,p,rfl,⟨vs,SqL.of h1⟩,k _ _ _ H q ⟨F0,r1⟩ jh hq⟩
 ·rename_i xs e1;obtain⟨v,hv,r⟩:=r0.g i _ _ e1 rfl;have r1:=hold e1 r;obtain⟨p,vs,rfl,h1,h2⟩:=r.r.tup;exact .inr ⟨_,hv,p,rfl,⟨vs,SqT.of h1⟩,k _ _ _ H q ⟨F0,r1⟩ uR hq⟩
 ·exact hq.elim⟩
def zX(g:Tg)(i:Nat):QS:=fun D q=>match q[i]? with
 | some (.r t)=>∃ q',g.put t q=some q'/\D.nx q'
 | _=>False
theorem zc{i:Nat}:gD K (e7 (a9 i) (g.h K)) (zX g i):=fun dl H₀ hs H σ q Dq D ⟨F,r⟩ hq E=>by
 unfold zX at hq
 split at hq
 ·rename_i t ei;obtain⟨q',hq',hz⟩:=hq;obtain⟨v,hv,rp⟩:=r.g i _ _ ei rfl;exact⟨v,hv,tV r rp (fun j u hj b hb=>(r.o j u hj).2.2 i (fun z=>by rw[z,hj]at ei;cases ei) b hb) hq' fun σ' r'=>E.nx _ _ _ r' hz⟩
 ·exact hq.elim
theorem oK{i:Nat}{pos:Pos}(he:PE X e (a9 i))(hg:PG X tg (g.h K))(hs:swapsWithSole [tg] e pos.line X.env=pure false:=by rfl)(hw:swappedStores [tg] e X.env=pure none:=by rfl)
  (h1:(assignEach [tg] X.env).map (·.2) = [assign tg X.env]:=by rfl):QPS X K (.Assign [tg] e pos) (e7 (a9 i) (g.h K)) (zX g i):=⟨lE he hg hs hw h1,zc⟩
theorem l5{xs:List T}:qX K dl (Ite K false a) (fD xs) [(.ref a,.l xs)] where
 go:=fun H i D h hi=>by
  obtain⟨F,r⟩:=h (.ref a,.l xs) (by simp)
  obtain⟨p,vs,G,e,_,h1,h2⟩:=r.r.lst;cases e;rw[bO]at hi;have l1:i<vs.length:=by rw[h2.len];omega
  exact⟨vs,vs[i],SqL.of h1,by simp[l1]⟩
 yld:=fun H i x fp v H' D h hx y=>by
  have r:=h (.ref a,.l xs) (by simp)
  obtain⟨p,vs,G,e,eF,h1,h2⟩:=r.r.lst;cases e;obtain⟨x1,hx1,rfl⟩:=dE hx;obtain⟨w1,G1,hw1,rw1,hs1⟩:=h2.get hx1;obtain⟨q,u1,hq,rfl,rfl,y1'⟩:=y;have e1:=y1' vs (SqL.of h1);rw[hw1]at e1;cases e1;have sub:∀ b∈G1,b∈fp (.ref a,.l xs):=fun b hb=>by rw[eF];exact List.mem_cons_of_mem _ (hs1 b hb)
  have rs:Rps K dl H [.int (i:Nat),w1] [.i (i:Nat),x1] ([]++(G1 ++ [])):=Rps.cons ⟨.i _,fun _ z=>nomatch z⟩ (Rps.cons ⟨rw1,fun b hb=>r.n b (sub b hb)⟩ ⟨.nil,fun _ z=>nomatch z⟩)
  refine⟨(Evo.refl D).new hq,_,rs.tup D hq,fun c hb=>.inr ?_⟩
  rw[List.append_nil]at hb;exact⟨_,by simp,sub c hb⟩
 stop:=fun H D h=>by
  obtain⟨F,r⟩:=h (.ref a,.l xs) (by simp)
  obtain⟨p,vs,G,e,_,h1,h2⟩:=r.r.lst;cases e;exact⟨vs,SqL.of h1,by rw[bO,h2.len];exact Nat.le_refl _⟩
def FR(i:Nat):QJ:=fun q Q=>match q[i]? with
 | some (.o (.l xs))=>Q (fD xs) (q.set i (.r (.l xs)))
 | some (.r (.l xs))=>Q (fD xs) q
 | _=>False
theorem zQ{a:Expr}{x1}{pos p:Pos}{i:Nat}(hg:Gl X "enumerate")(hm:X.mg "enumerate" = none)(dC:bootBuiltins "enumerate" = some (.type "enumerate"))(h:PE X a (a9 i))(hs:starEach [a] X.env = [(false,eval a X.env)]:=by rfl)(hs':starEach [a] X.env =(false,eval a X.env)::starEach [] X.env:=by rfl)(hK:X.K=K:=by rfl) :
  QPJ X K (.Tuple elts x1 pos') (.Call (.Name "enumerate" p) [a] [] pos) (nH K false (bP (a9 i) eD)) (FR i):=⟨i8 hK hg hm dC (a8 h cH hs') hs,fun dl H₀ hs H σ q Q R ⟨F0,r0⟩ hq k=>by
 unfold FR at hq
 split at hq
 ·rename_i xs e1;obtain⟨v,hv,r⟩:=r0.g i _ _ e1 rfl;obtain⟨o1,o2,o3⟩:=r0.o i _ e1;have r1:=(r0.down e1).hold r fun j u hj b hb=>by
   rcases get_set hj with⟨_,z,_⟩ |⟨ne,hj⟩
   ·cases z
   ·exact(r0.o j u hj).2.2 i (fun z=>ne z.symm) b hb
  obtain⟨p,vs,G,rfl,_,h1,h2⟩:=r.r.lst;exact⟨_,hv,p,rfl,⟨vs,SqL.of h1⟩,k _ _ _ H _ ⟨F0,r1⟩ l5 hq⟩
 ·rename_i xs e1;obtain⟨v,hv,r⟩:=r0.g i _ _ e1 rfl;have r1:=r0.hold r fun j u hj b hb=>(r0.o j u hj).2.2 i (fun z=>by subst z;rw[e1]at hj;cases hj) b hb
  obtain⟨p,vs,G,rfl,_,h1,h2⟩:=r.r.lst;exact⟨_,hv,p,rfl,⟨vs,SqL.of h1⟩,k _ _ _ H _ ⟨F0,r1⟩ l5 hq⟩
 ·exact hq.elim⟩
end
def Alk:Nat->T->T->Prop
 | 0,t,u=>(∃ x y,t = .s x/\u = .s y)\/∃ x y,t = .i x/\u = .i y
 | n+1,t,u=>(∃ x y,t = .s x/\u = .s y)\/(∃ x y,t = .i x/\u = .i y)\/∃ ts us,t = .t ts/\u = .t us/\∀(j:Nat)(x y:T),ts[j]? = some x->us[j]? = some y->Alk n x y
def Dep:Nat->T->Prop
 | 0,t=>(∃ x,t = .s x)\/∃ x,t = .i x
 | n+1,t=>(∃ x,t = .s x)\/(∃ x,t = .i x)\/∃ ts,t = .t ts/\∀ x∈ts,Dep n x
theorem Dep.s:Dep n (.s x):=by cases n <;> exact .inl ⟨x,rfl⟩
theorem Dep.i{x:Int}:Dep n (.i x):=by
 cases n
 ·exact .inr ⟨x,rfl⟩
 ·exact .inr (.inl ⟨x,rfl⟩)
theorem Dep.t{ts:List T}(h:∀ x∈ts,Dep n x):Dep (n+1) (.t ts):=.inr (.inr ⟨ts,rfl,h⟩)
theorem Dep.mono{m:Nat}{t:T}(h:Dep n t)(hm:n<=m):Dep m t:=by
 induction n generalizing m t with
 | zero =>
  rcases h with⟨x,rfl⟩ |⟨x,rfl⟩
  ·exact Dep.s
  ·exact Dep.i
 | succ n ih =>
  rcases h with⟨x,rfl⟩ |⟨x,rfl⟩ |⟨ts,rfl,h⟩
  ·exact Dep.s
  ·exact Dep.i
  ·obtain⟨k,rfl⟩:∃ k,m=k+1:=⟨m - 1,by omega⟩
   exact Dep.t fun x hx=>ih (h x hx) (by omega)
theorem Dep.alk{t:T}(h:Dep n t):Alk n t t:=by
 induction n generalizing t with
 | zero =>
  rcases h with⟨x,rfl⟩ |⟨x,rfl⟩
  ·exact .inl ⟨x,x,rfl,rfl⟩
  ·exact .inr ⟨x,x,rfl,rfl⟩
 | succ n ih =>
  rcases h with⟨x,rfl⟩ |⟨x,rfl⟩ |⟨ts,rfl,h⟩
  ·exact .inl ⟨x,x,rfl,rfl⟩
  ·exact .inr (.inl ⟨x,x,rfl,rfl⟩)
  ·refine .inr (.inr ⟨ts,ts,rfl,rfl,fun j x y hx hy=>?_⟩)
   rw[hx]at hy;cases hy;exact ih (h x (List.mem_of_getElem? hx))
variable{G:List Addr}
section
variable{X:Cx}{K:W.Frag}
theorem vn{s:Shared}{t u:T}{v w:V}{x y:Value}(h:(∃ x y,t = .s x/\u = .s y)\/∃ x y,t = .i x/\u = .i y)(r1:az K dl H v t F)(r2:az K dl H w u G)(rx:RelV v x)(ry:RelV w y):∃ c:Bool,(c=true ↔ t=u)/\SeqAt.EqAt A s x y c:=by
 rcases h with⟨z,z',rfl,rfl⟩ |⟨z,z',rfl,rfl⟩
 ·obtain⟨rfl,_⟩:=r1.str;obtain⟨rfl,_⟩:=r2.str;exact⟨_,by simp[eqV],jU (A:=A) (s:=s) rx ry rfl rfl⟩
 ·obtain⟨rfl,_⟩:=r1.int;obtain⟨rfl,_⟩:=r2.int;exact⟨_,by simp[eqV],jU (A:=A) (s:=s) rx ry rfl rfl⟩
theorem qm{ts us:List T}{n n1 n2:Nat}{e:Nat->Bool}(hn:n1=ts.length)(hm:n2=us.length)(he:∀(j:Nat)(x y:T),ts[j]? = some x->us[j]? = some y ->(e j=true ↔ x=y)):((List.range (min n1 n2)).all e&&n1==n2)=true ↔ ts=us:=by
 subst hn hm;rw[Bool.and_eq_true,List.all_eq_true,beq_iff_eq]
 constructor
 ·rintro⟨h1,h2⟩
  refine List.ext_getElem h2 fun i g1 g2=>?_
  exact(he i _ _ (List.getElem?_eq_getElem g1) (List.getElem?_eq_getElem g2)).mp (h1 i (List.mem_range.mpr (by omega)))
 ·rintro rfl
  refine⟨fun j hj=>?_,rfl⟩
  have hj:j<ts.length:=by have:=List.mem_range.mp hj;omega
  exact(he j _ _ (List.getElem?_eq_getElem hj) (List.getElem?_eq_getElem hj)).mpr rfl
theorem BP:∀(n:Nat){t u:T}{v:V}{F G:List Addr},Alk n t u->az K dl H v t F->az K dl H v u G->t=u:=by
 intro n;have sc:∀{t u:T}{v:V}{F G:List Addr},((∃ x y,t = .s x/\u = .s y)\/∃ x y,t = .i x/\u = .i y)->az K dl H v t F->az K dl H v u G->t=u:=fun h r1 r2=>by
  rcases h with⟨z,z',rfl,rfl⟩ |⟨z,z',rfl,rfl⟩
  ·obtain⟨rfl,_⟩:=r1.str;obtain⟨e,_⟩:=r2.str;cases e;rfl
  ·obtain⟨rfl,_⟩:=r1.int;obtain⟨e,_⟩:=r2.int;cases e;rfl
 induction n with
 | zero=>exact fun h r1 r2=>sc h r1 r2
 | succ n ih =>
  intro t u v F G h r1 r2;rcases h with h|h |⟨ts,us,rfl,rfl,ht⟩
  ·exact sc (.inl h) r1 r2
  ·exact sc (.inr h) r1 r2
  ·obtain⟨a,vs,rfl,h1,f1⟩:=r1.tup;obtain⟨b,ws,e,h2,f2⟩:=r2.tup;cases e;rw[h1]at h2;cases h2;have l3:=f1.len;have l4:=f2.len;refine congrArg L2.T.t (List.ext_getElem (by omega) fun i g1 g2=>?_)
   have gv:i<vs.length:=by omega
   obtain⟨t1,G1,et1,rt1⟩:=eJ f1 (List.getElem?_eq_getElem gv);obtain⟨t2,G2,et2,rt2⟩:=eJ f2 (List.getElem?_eq_getElem gv);rw[List.getElem?_eq_getElem g1]at et1;rw[List.getElem?_eq_getElem g2]at et2;cases et1;cases et2;exact ih (ht i _ _ (List.getElem?_eq_getElem g1) (List.getElem?_eq_getElem g2)) rt1 rt2
theorem Bi{σ:St}{s:Shared}(I:Inv X gV σ H s)(hK:X.K=K):∀(n:Nat)(A:Around)(t u:T)(v w:V)(F G:List Addr)(x y:Value),Alk n t u->az K dl H v t F->az K dl H w u G->RelV v x->RelV w y->A.units+n<cLine->∃ c:Bool,(c=true ↔ t=u)/\SeqAt.EqAt A s x y c:=by
 intro n
 induction n with
 | zero =>
  intro A t u v w F G x y ht r1 r2 rx ry hu;exact vn ht r1 r2 rx ry
 | succ n ih =>
  intro A t u v w F G x y ht r1 r2 rx ry hu;rcases ht with h|h |⟨ts,us,rfl,rfl,ht⟩
  ·exact vn (.inl h) r1 r2 rx ry
  ·exact vn (.inr h) r1 r2 rx ry
  ·obtain⟨a,vs,rfl,h1,f1⟩:=r1.tup;obtain⟨b,ws,rfl,h2,f2⟩:=r2.tup;cases rx;cases ry;obtain⟨its,q1,p1,_⟩:=I.tuple (SqT.of h1);obtain⟨bu,q2,p2,_⟩:=I.tuple (SqT.of h2);have l1:=q1.length;have l2:=q2.length;have l3:=f1.len;have l4:=f2.len;have go:∀ j,∃ c:Bool,∀(g1:j<its.toArray.size)(g2:j<bu.toArray.size),(∀(x y:T),ts[j]? = some x->us[j]? = some y ->(c=true ↔ x=y))/\SeqAt.EqAt A.in1 s its.toArray[j] bu.toArray[j] c:=fun j=>by
    by_cases g:j<its.toArray.size/\j<bu.toArray.size
    ·obtain⟨g1,g2⟩:=g;obtain⟨v1,e1,rv1⟩:=q1.at' g1;obtain⟨v2,e2,rv2⟩:=q2.at' g2;obtain⟨t1,G1,et1,rt1⟩:=eJ f1 e1;obtain⟨t2,G2,et2,rt2⟩:=eJ f2 e2;obtain⟨c,hc,hE⟩:=ih A.in1 t1 t2 v1 v2 G1 G2 _ _ (ht j t1 t2 et1 et2) rt1 rt2 rv1 rv2 (by show A.units+1+n<_;omega)
     refine⟨c,fun _ _=>⟨fun x y hx hy=>?_,hE⟩⟩
     rw[et1]at hx;rw[et2]at hy;cases hx;cases hy;exact hc
    ·exact⟨true,fun g1 g2=>absurd ⟨g1,g2⟩ g⟩
   have hc:=fun j=>Classical.choose_spec (go j)
   have key:((List.range (min its.toArray.size bu.toArray.size)).all (fun j=>Classical.choose (go j))&&its.toArray.size==bu.toArray.size)=true ↔ ts=us:=by
    have e1:its.toArray.size=ts.length:=by simp;omega
    have e2:bu.toArray.size=us.length:=by simp;omega
    refine qm (n:=n) e1 e2 fun j x y hx hy=>?_
    have g1:=(List.getElem?_eq_some_iff.mp hx).1;have g2:=(List.getElem?_eq_some_iff.mp hy).1;exact(hc j (by omega) (by omega)).1 x y hx hy
   by_cases hab:a=b
   ·subst hab;exact⟨true,⟨fun _=>BP (n+1) (.inr (.inr ⟨ts,us,rfl,rfl,ht⟩)) r1 r2,fun _=>rfl⟩,SeqAt.EqAt.same _⟩
   ·refine⟨_,⟨fun h=>congrArg L2.T.t (key.mp h),fun h=>key.mpr (by cases h;rfl)⟩,SeqAt.EqAt.of_refs hab (SeqAt.RcAt.tuples (A:=A) (e:=fun j=>Classical.choose (go j)) (show s.heap.IsTuple a its.toArray from p1) (show s.heap.IsTuple b bu.toArray from p2) (by omega) fun j g1 g2=>(hc j g1 g2).2)⟩
end
variable{N':List Str}{sc:Scope}{fp:List Addr}
section
variable{X:Cx}{K:W.Frag}{a b:Expr}{es:List Expr}{te ta tb:TE}{qe qa qb:QE}{tl:TA}{ql:QA}{pos p apos:Pos}{k k':Nat}{f:Addr}
structure Dn(K:W.Frag)(mg:Str->Option Value)(x:Str)(st:Stmt)(f:Addr)(fd:FuncData)(ps:List Str):Prop where
 F:Fun K x x st f fd
 m:mg x=some (.ref f)
 b:Binds K fd ps []
theorem aU{ps:PSp}(F:bc X.prog X.w X.K X.mg X.base CX0 k f fd prs (spQ K ps))(hr:cn k' X.A)(D:Dn X.K X.mg x st f fd prs)(ha:QPA X K (e::es) tl ql)(hk:k<=k':=by first|decide|omega)(hg:Gl X x:=by exact rfl)
  (hdb:(x ==("__debug__":Str))=false:=by decide) (he:starEach (e::es) X.env =(false,eval e X.env)::starEach es X.env:=by rfl) (hpl:(backTo pos (starEach es X.env)).any (·.1)=false:=by rfl) :
  QPF X K (.Call (.Name x p) (e::es) [] pos) (j7 (spQ K ps) [] E0 tl) (eM ps ql):=C4 F (hr.mono hk) hg D.m D.F.kp D.b ha hdb he hpl
theorem ay:QPA X K [] eD cY:=qW.w ai
theorem ah{i j}:QPE X K (.Constant (.int i) j pos) (tC (.int i)) (qC (.i i)):=QPF.w bG
theorem bS(hm:X.mg "len" = none)(ha:QPA X K (e::es) tl ql)(hg:Gl X "len":=by exact rfl)(hK:X.K=K:=by exact rfl)
  (he:starEach (e::es) X.env =(false,eval e X.env)::starEach es X.env:=by rfl) (hpl:(backTo pos (starEach es X.env)).any (·.1)=false:=by rfl):QPF X K (.Call (.Name "len" p) (e::es) [] pos) (tCB (zE K) tl) (qCB t9 ql):=cm (yK hK) CC hg hm (by kernel_rfl) ha (by decide) (by decide) he hpl
theorem aF(i:Nat)(hN:X.N.Nodup)(he:QPF X K e te qe)(hi:X.N[i]? = some x:=by rfl)(hx:Loc X.env.scope x:=by first|exact .inl rfl|exact .inr rfl)(hs:swapsWith e (some (.Name x pos')) pos.line X.env=pure false:=by rfl)(hf:X.fn x=true\/X.env.scope.names.lookup x=some .local:=by first|exact .inl rfl|exact .inr rfl|assumption) :
  QPS X K (.Assign [.Name x pos'] e pos) (e7 te (dO i)) (t7 i qe):=Gx hN hi hx he hs hf
theorem bI(i:Nat)(hN:X.N.Nodup)(hi:X.N[i]? = some x:=by rfl)(hx:Loc X.env.scope x:=by first|exact .inl rfl|exact .inr rfl)(hf:X.fn x=true\/X.env.scope.names.lookup x=some .local:=by first|exact .inl rfl|exact .inr rfl|assumption):PG X (.Name x pos) (dO i):=jb hN hi hx hf
theorem cw{cl:List (Str×Addr)}{s₂:Shared}{H₂:Hp}(i:Nat)(hN:N'.Nodup:=by decide +kernel)(hi:N'[i]? = some x:=by rfl)(hx:Loc (blk X N' sc cl C s₂ H₂ fp).env.scope x:=by first|exact .inl rfl|exact .inr rfl)(hf:(blk X N' sc cl C s₂ H₂ fp).env.scope.names.lookup x=some .local:=by rfl):PG (blk X N' sc cl C s₂ H₂ fp) (.Name x pos) (dO i):=jb (X:=blk X N' sc cl C s₂ H₂ fp) hN hi hx (.inr hf)
theorem fh{x1 x2:Str}{t1 t2:TG}{j:Nat}(h1:PG X (.Name x1 p1) t1)(h2:PG X (.Name x2 p2) t2)(hK:X.K=K:=by exact rfl)(hc:X.calm=true:=by exact rfl)
  (hn:(assignEach [.Name x1 p1,.Name x2 p2] X.env).length=2:=by rfl) (hst:(assignEach [.Name x1 p1,.Name x2 p2] X.env).findIdx? (·.1)=none:=by rfl):PG X (.Tuple [.Name x1 p1,.Name x2 p2] j pos) (Ej K 2 (wH t1 (wH t2 HS))):=ja hK hc (bB h1 (bB h2 i9)) hn hst
theorem bQ(hu:X.A.units+1<cLine)(ha:QPE X K a ta qa)(hb:QPE X K b tb qb)(hK:X.K=K:=by exact rfl):QPT X K (.Compare a [.Eq] [b] pos) (vH (tOp (Gv K) ta tb)) (nq (qOp C7 qa qb)):=bF (uu hu hK) oo (bj _) ha hb
def zM(ha:QPE X K a ta qa)(hb:QPE X K b tb qb):=bF (pos:=pos) JQ (ot (K:=K) (g':=fun i j=>.b (decide (i<j))) fun _ _ _ _=>.b _) (bj _) ha hb
def Jl(ha:QPE X K a ta qa)(hb:QPE X K b tb qb):=bF (pos:=pos) wm (ot (K:=K) (g':=fun i j=>.b (decide (j<i))) fun _ _ _ _=>.b _) (bj _) ha hb
end
abbrev NI(K:W.Frag)(x:Str)(f:Addr):Prop:=W.nsIn K mainGlobals x=some (some (.ref f))
abbrev LK(K:W.Frag)(f:Addr)(x q:Str)(st:Stmt)(oc:Value)(od:Option Addr)(kV dc pm:Value)(an:Option Addr)(cd ct:Value)(sl:Array (Option Value)):Prop:=K.lookup f=some ⟨oc,od,.func (W.fnOf x q (cK st) (bD st) (ax st) .none kV dc pm an cd ct),sl⟩
abbrev CI(K:W.Frag)(cd:Value)(x:Str):Prop:=W.codeIn K cd x=true
abbrev KI(K:W.Frag)(f:Addr):Prop:=W.keepIn K (.ref f)=true
variable{p3:Str}
section
variable{K:W.Frag}{h:Heap}{q:Str}{f:Addr}{oc kV dc pm cd ct:Value}{od an:Option Addr}{sl:Array (Option Value)}
theorem Fun.b1{p1:Str}(F:Fun K x q st f fd)(hb:∀ kV dc pm an cd ct u1,bindArgs (W.fnOf x q (cK st) (bD st) (ax st) .none kV dc pm an cd ct) ⟨[u1],[]⟩=pure [(p1,u1)]:=by intros;rfl):Binds K fd [p1] []:=F.binds fun kV dc pm an cd ct us hl=>Kl (P:=fun us=>bindArgs _ ⟨us,[]⟩=pure (List.zip _ us)) (hb kV dc pm an cd ct) us hl
theorem Fun.b2{p1 p2:Str}(F:Fun K x q st f fd)(hb:∀ kV dc pm an cd ct u1 u2,bindArgs (W.fnOf x q (cK st) (bD st) (ax st) .none kV dc pm an cd ct) ⟨[u1,u2],[]⟩=pure [(p1,u1),(p2,u2)]:=by intros;rfl):Binds K fd [p1,p2] []:=F.binds fun kV dc pm an cd ct us hl=>Kk (P:=fun us=>bindArgs _ ⟨us,[]⟩=pure (List.zip _ us)) (hb kV dc pm an cd ct) us hl
theorem Fun.b3{p1 p2:Str}(F:Fun K x q st f fd)(hb:∀ kV dc pm an cd ct u1 u2 u3,bindArgs (W.fnOf x q (cK st) (bD st) (ax st) .none kV dc pm an cd ct) ⟨[u1,u2,u3],[]⟩=pure [(p1,u1),(p2,u2),(p3,u3)]:=by intros;rfl):Binds K fd [p1,p2,p3] []:=F.binds fun kV dc pm an cd ct us hl=>Kj (P:=fun us=>bindArgs _ ⟨us,[]⟩=pure (List.zip _ us)) (hb kV dc pm an cd ct) us hl
theorem Fun.b4{p1 p2 p4:Str}(F:Fun K x q st f fd)(hb:∀ kV dc pm an cd ct u1 u2 u3 u4,bindArgs (W.fnOf x q (cK st) (bD st) (ax st) .none kV dc pm an cd ct) ⟨[u1,u2,u3,u4],[]⟩=pure [(p1,u1),(p2,u2),(p3,u3),(p4,u4)]:=by intros;rfl):Binds K fd [p1,p2,p3,p4] []:=F.binds fun kV dc pm an cd ct us hl=>Ki (P:=fun us=>bindArgs _ ⟨us,[]⟩=pure (List.zip _ us)) (hb kV dc pm an cd ct) us hl
theorem Fun.b5{p1 p2 p4 p5:Str}(F:Fun K x q st f fd)(hb:∀ kV dc pm an cd ct u1 u2 u3 u4 u5,bindArgs (W.fnOf x q (cK st) (bD st) (ax st) .none kV dc pm an cd ct) ⟨[u1,u2,u3,u4,u5],[]⟩=pure [(p1,u1),(p2,u2),(p3,u3),(p4,u4),(p5,u5)]:=by intros;rfl):Binds K fd [p1,p2,p3,p4,p5] []:=F.binds fun kV dc pm an cd ct us hl=>M9 (P:=fun us=>bindArgs _ ⟨us,[]⟩=pure (List.zip _ us)) (hb kV dc pm an cd ct) us hl
end
mutual
def T.pln:T->Bool
 | .n=>true
 | .b _=>true
 | .i _=>true
 | .s _=>true
 | .t xs=>T.eO xs
 | .zl xs=>T.eO xs
 | _=>false
def T.eO:List T->Bool
 | []=>true
 | x::r=>x.pln&&T.eO r
end
theorem nof{A:Prop}(h:false=true):A:=absurd h Bool.false_ne_true
theorem az.plain{K:W.Frag}(kt:∀ a vs,H a=some (.tup vs)->H' a=some (.tup vs))(kf:∀ a o u,H a=some (.frz o u)->H' a=some (.frz o u)){v:V}{t:T}(h:az K dl H v t F):t.pln=true->az K dl H' v t F :=
 az.rec (motive_1:=fun v t F _=>t.pln=true->az K dl H' v t F) (motive_2:=fun v t F _=>T.eO t=true->au K dl H' v t F) (motive_3:=fun _ _ _ _=>True)
  (fun _=>.n) (fun x _=>.b x) (fun x _=>.i x) (fun x _=>.s x) (fun _ h=>nof h) (fun h _ ih q=>.t (kt _ _ h) (ih q)) (fun _ _ _ h=>nof h) (fun _ _ _ h=>nof h) (fun _ h=>nof h) (fun _ h=>nof h) (fun _ h=>nof h) (fun _ _ _ h=>nof h) (fun _ h=>nof h) (fun _ _ _ h=>nof h)
  (fun _ _ h=>nof h) (fun _ _ _ h=>nof h) (fun _ _ _ h=>nof h) (fun _ _ _ h=>nof h) (fun h _ ih q=>.zl (kf _ _ _ h) (ih q)) (fun _=>.nil) (fun _ _ i1 i2 q=>.cons (i1 (Bool.and_eq_true _ _▸q).1) (i2 (Bool.and_eq_true _ _▸q).2)) trivial (fun _ _ _ _=>trivial) h
theorem au.plain{K:W.Frag}{dl:Dl}{H H':Hp}(kt:∀ a vs,H a=some (.tup vs)->H' a=some (.tup vs))(kf:∀ a o u,H a=some (.frz o u)->H' a=some (.frz o u)){vs:List V}{ts:List T}{F:List Addr}(h:au K dl H vs ts F):T.eO ts=true->au K dl H' vs ts F :=
 h.ind (M:=fun vs ts F=>T.eO ts=true->au K dl H' vs ts F) (fun _=>.nil) (fun _ _ _ _ _ _ h _ ih q=>.cons (h.plain kt kf (Bool.and_eq_true _ _▸q).1) (ih (Bool.and_eq_true _ _▸q).2))
theorem az.GX{K:W.Frag}{v:V}{t:T}(h:az K dl H v t F):t.pln=true->F = [] :=
 az.rec (motive_1:=fun _ t F _=>t.pln=true->F = []) (motive_2:=fun _ t F _=>T.eO t=true->F = []) (motive_3:=fun _ _ _ _=>True)
  (fun _=>rfl) (fun _ _=>rfl) (fun _ _=>rfl) (fun _ _=>rfl) (fun _ h=>nof h) (fun _ _ ih=>ih) (fun _ _ _ h=>nof h) (fun _ _ _ h=>nof h) (fun _ h=>nof h) (fun _ h=>nof h) (fun _ h=>nof h) (fun _ _ _ h=>nof h) (fun _ h=>nof h) (fun _ _ _ h=>nof h)
  (fun _ _ h=>nof h) (fun _ _ _ h=>nof h) (fun _ _ _ h=>nof h) (fun _ _ _ h=>nof h) (fun _ _ _ _=>rfl) (fun _=>rfl) (fun _ _ i1 i2=>l9 i1 i2) trivial (fun _ _ _ _=>trivial) h
theorem au.GX{K:W.Frag}{dl:Dl}{H:Hp}{vs:List V}{ts:List T}{F:List Addr}(h:au K dl H vs ts F):T.eO ts=true->F = []:=h.ind (M:=fun _ t F=>T.eO t=true->F = []) (fun _=>rfl) (fun _ _ _ _ _ _ h _ ih=>l9 h.GX ih)
variable{its:List Value}
section
variable{X:Cx}{K:W.Frag}{σ:St}{s:Shared}{o:Expr}{te:TE}{qe:QE}{apos aQ dS:Pos}
theorem Inv.Ek{xs:List V}(I:Inv X gV σ H s)(ha:H a=some (.lst xs)):∃ o,Inv X gV σ (upd H a (.frz o (.lst xs))) s:=by
 have hz:∀ o v,X.H₀ a≠some (.frz o v):=fun o v e=>by
  have:=I.base.iE a o v e
  rw[ha]at this;cases this
 obtain⟨z,its,n,r,e⟩:=(show aV X.prog X.w H s.heap a (.lst xs)from I.hok a _ ha);exact⟨_,I.vQ ha (fun _ z=>nomatch z) (fun _ z=>nomatch z) (fun _ z=>nomatch z) hz ⟨e,z,its,n,r,e⟩⟩
def E6(te:TE):TE:=fun σ H Q=>te σ H fun v H1=>∃ a xs,v = .ref a/\H1 a=some (.lst xs)/\∀ o,Q v (upd H1 a (.frz o (.lst xs)))
theorem Dx(he:PE X e te):PE X e (E6 te):=by
 intro gV s σ H Q I h;refine thn (he gV s σ H _ I h) fun u s' hPP=>?_
 obtain⟨v,H',I',r,a,xs,e1,e2,q⟩:=hPP;obtain⟨o,I2⟩:=I'.Ek e2;exact⟨v,_,I2,r,q o⟩
def Ju(qe:QE):QE:=fun q Q=>qe q fun t=>match t with
 | .l ts=>T.eO ts=true/\Q (.zl ts)
 | _=>False
theorem oN(he:QPF X K e te qe):QPF X K e (E6 te) (Ju qe):=⟨Dx he.h,fun dl H σ q Q R rd hq k=>he.s dl H σ q _ _ rd hq fun v t F H1 e1 r1 f1 n1 hz=>by
 split at hz
 ·obtain⟨p,vs,G,rfl,rfl,h1,h2⟩:=r1.r.lst;obtain rfl:=h2.GX hz.1;refine⟨p,vs,rfl,h1,fun o=>?_⟩
  have e2:=e1.fresh (o:=.frz o (.lst vs)) (f1 p List.mem_cons_self) (r1.n p List.mem_cons_self);have ne:∀{a:Addr}{u:HO},H1 a=some u ->(∀ xs,u ≠ .lst xs)->a≠p:=fun h n z=>by rw[z,h1]at h;exact n _ (Option.some.inj h).symm
  have ts:=h2.plain (H':=upd H1 p (.frz o (.lst vs))) (fun a us h=>by rw[aj (ne h fun _ z=>nomatch z)];exact h) (fun a o u h=>by rw[aj (ne h fun _ z=>nomatch z)];exact h) hz.1
  exact k _ (.zl _) [] _ e2 ⟨.zl aw ts,fun _ z=>nomatch z⟩ (fun _ z=>nomatch z) List.nodup_nil hz.2
 ·exact hz.elim⟩
def ua(i:Nat):QS:=fun D q=>match q[i]? with
 | some (.o (.l _))=>D.nx (q.set i (.o (.l [])))
 | _=>False
theorem xM{i:Nat}:gD K (fO (y4 K "list" tY (a9 i))) (ua i):=fun dl H₀ hs H σ q Dq D ⟨F,r⟩ hq E=>by
 unfold ua at hq
 split at hq
 ·rename_i xs ei;obtain⟨v,hv,rp⟩:=r.g i _ _ ei rfl;obtain⟨p,vs,G,rfl,eF,h1,h2⟩:=rp.r.lst;exact⟨_,hv,.inl ⟨rfl,_,SqL.of h1⟩,p,vs,rfl,rfl,h1,E.nx _ σ _ (r.il ei hv eF (.refl r.d) .nil List.nodup_nil fun _ z=>nomatch z) hq⟩
 ·exact hq.elim
theorem zP{i:Nat}(ho:PE X o (a9 i))(hK:X.K=K:=by rfl)(bN:attributeBase o "clear" X.env (eval o X.env)=eval o X.env:=by rfl)(bM:(apos.endLine==aQ.line)=true:=by rfl)
  (hsw:swapsWith (.Call (.Attribute o "clear" apos) [] [] aQ) none dS.line X.env=pure false:=by rfl) :
  QPS X K (.Expr (.Call (.Attribute o "clear" apos) [] [] aQ) dS) (fO (y4 K "list" tY (a9 i))) (ua i) :=
 ⟨by subst hK;exact i5 (um PySem.F.plainAttrs_list PySem.F.slot_list_clear PySem.F.type_list_clear AO ho bN bM) hsw,xM⟩
def Gu(K:W.Frag)(neg:Bool):R2:=fun x y H Q=>∃ dl ts us vs ws n p q F G,x = .ref p/\y = .ref q/\SqL K H p vs/\SqL K H q ws/\au K dl H vs ts F/\au K dl H ws us G/\(∀(j:Nat)(x y:T),ts[j]? = some x->us[j]? = some y->Alk n x y)/\n<=100/\∀ c:Bool,(c=true ↔ ts=us)->Q (.bl (if neg then !c else c)) H
theorem xb{σ:St}{s:Shared}(I:Inv X gV σ H s)(hK:X.K=K){vs ws:List V}{ts us:List T}{bu:List Value}(q1:Vals vs its)(q2:Vals ws bu)(f1:au K dl H vs ts F)(f2:au K dl H ws us G)(ht:∀(j:Nat)(x y:T),ts[j]? = some x->us[j]? = some y->Alk n x y)(hu:A.units+n<cLine) :
  ∃ e:Nat->Bool,(∀(j:Nat)(g1:j<its.toArray.size)(g2:j<bu.toArray.size),SeqAt.EqAt A s its.toArray[j] bu.toArray[j] (e j))/\∀(j:Nat)(x y:T),ts[j]? = some x->us[j]? = some y ->(e j=true ↔ x=y):=by
 have l1:=q1.length;have l2:=q2.length;have l3:=f1.len;have l4:=f2.len;have go:∀ j,∃ c:Bool,∀(g1:j<its.toArray.size)(g2:j<bu.toArray.size),(∀(x y:T),ts[j]? = some x->us[j]? = some y ->(c=true ↔ x=y))/\SeqAt.EqAt A s its.toArray[j] bu.toArray[j] c:=fun j=>by
  by_cases g:j<its.toArray.size/\j<bu.toArray.size
  ·obtain⟨g1,g2⟩:=g;obtain⟨v1,e1,rv1⟩:=q1.at' g1;obtain⟨v2,e2,rv2⟩:=q2.at' g2;obtain⟨t1,G1,et1,rt1⟩:=eJ f1 e1;obtain⟨t2,G2,et2,rt2⟩:=eJ f2 e2;obtain⟨c,hc,hE⟩:=Bi I hK n A t1 t2 v1 v2 G1 G2 _ _ (ht j t1 t2 et1 et2) rt1 rt2 rv1 rv2 hu;refine⟨c,fun _ _=>⟨fun x y hx hy=>?_,hE⟩⟩
   rw[et1]at hx;rw[et2]at hy;cases hx;cases hy;exact hc
  ·exact⟨true,fun g1 g2=>absurd ⟨g1,g2⟩ g⟩
 refine⟨fun j=>Classical.choose (go j),fun j g1 g2=>(Classical.choose_spec (go j) g1 g2).2,fun j x y hx hy=>?_⟩
 have g1:=(List.getElem?_eq_some_iff.mp hx).1;have g2:=(List.getElem?_eq_some_iff.mp hy).1;exact(Classical.choose_spec (go j) (by simp;omega) (by simp;omega)).1 x y hx hy
theorem G8(hu:X.A.units+150<cLine)(hK:X.K=K):OpR X (compareOp .Eq) (Gu K false):=by
 subst hK;intro gV s σ H x y v u Q I rx ry h;obtain⟨dl,ts,us,vs,ws,n,p,q,F,G,rfl,rfl,h1,h2,f1,f2,ht,hn,k⟩:=h;cases rx;cases ry;obtain⟨its,q1,p1,_⟩:=I.list h1;obtain⟨bu,q2,p2,_⟩:=I.list h2;have l1:=q1.length;have l2:=q2.length;have l3:=f1.len;have l4:=f2.len;obtain⟨e,hE,he⟩:=xb (A:=X.A.in1) I rfl q1 q2 f1 f2 ht (by show X.A.units+1+n<_;omega)
 by_cases hl:its.length=bu.length
 ·refine SeqAt.eq_listAt (e:=e) p1.isList p2.isList (by simpa using hl) (by omega) hE ⟨.bl _,H,I,rfl,k _ ?_⟩
  have key:=qm (n:=n) rfl rfl he;rw[show(ts.length==us.length)=true from by simp;omega,Bool.and_true,show min ts.length us.length=its.toArray.size from by simp;omega]at key
  exact key
 ·exact SeqAt.eq_list_lengthsAt p1.isList p2.isList (by simpa using hl) (by omega) ⟨.bl _,H,I,rfl,k false ⟨fun z=>absurd z Bool.false_ne_true,fun z=>by rw[z]at l3;omega⟩⟩
theorem jd(hu:X.A.units+150<cLine)(hK:X.K=K):OpR X (compareOp .NotEq) (Gu K true):=by
 subst hK;intro gV s σ H x y v u Q I rx ry h;obtain⟨dl,ts,us,vs,ws,n,p,q,F,G,rfl,rfl,h1,h2,f1,f2,ht,hn,k⟩:=h;cases rx;cases ry;obtain⟨its,q1,p1,_⟩:=I.list h1;obtain⟨bu,q2,p2,_⟩:=I.list h2;have l1:=q1.length;have l2:=q2.length;have l3:=f1.len;have l4:=f2.len;obtain⟨e,hE,he⟩:=xb (A:=X.A.in1) I rfl q1 q2 f1 f2 ht (by show X.A.units+1+n<_;omega)
 by_cases hl:its.length=bu.length
 ·refine SeqAt.RcNeAt.lists (e:=e) p1.isList p2.isList (by simpa using hl) (by omega) hE X.prog X.w X.xe _ ⟨.bl _,H,I,rfl,k _ ?_⟩
  have key:=qm (n:=n) rfl rfl he;rw[show(ts.length==us.length)=true from by simp;omega,Bool.and_true,show min ts.length us.length=its.toArray.size from by simp;omega]at key
  exact key
 ·exact SeqAt.RcNeAt.lists_lengths p1.isList p2.isList (by simpa using hl) (by omega) X.prog X.w X.xe _ ⟨.bl _,H,I,rfl,k false ⟨fun z=>absurd z Bool.false_ne_true,fun z=>by rw[z]at l3;omega⟩⟩
def T.lst:T->Option (List T)
 | .l xs=>some xs
 | .zl xs=>some xs
 | _=>none
def MS(neg:Bool):Q2:=fun t u Q=>∃ ts us n,t.lst=some ts/\u.lst=some us/\n<=100/\(∀(j:Nat)(x y:T),ts[j]? = some x->us[j]? = some y->Alk n x y)/\∀ c:Bool,(c=true ↔ ts=us)->Q (.b (if neg then !c else c))
theorem Rp.Kc{v:V}{t:T}{ts:List T}(r:Rp K dl H v t F)(h:t.lst=some ts):∃ p vs G,v = .ref p/\SqL K H p vs/\au K dl H vs ts G:=by
 cases t with
 | l xs=>cases h;obtain⟨p,vs,G,rfl,rfl,h1,h2⟩:=r.r.lst;exact⟨p,vs,G,rfl,SqL.of h1,h2⟩
 | zl xs=>cases h;obtain⟨p,o,vs,rfl,rfl,h1,h2⟩:=r.r.zls;exact⟨p,vs,[],rfl,.inl (.inr ⟨o,h1⟩),h2⟩
 | _=>cases h
theorem gG:cM K (Gu K neg) (MS neg):=by
 intro dl H x y t u F G Q R D r1 r2 hq k;obtain⟨ts,us,n,e1,e2,hn,ht,hq⟩:=hq;obtain⟨p,vs,G1,rfl,h1,f1⟩:=r1.Kc e1;obtain⟨p',ws,G2,rfl,h2,f2⟩:=r2.Kc e2;exact⟨dl,ts,us,vs,ws,n,p,p',G1,G2,rfl,rfl,h1,h2,f1,f2,ht,hn,fun c hc=>k _ _ [] H (.refl D) (.c (.b _)) (fun _ z=>nomatch z) List.nodup_nil (hq c hc)⟩
end
end L2
namespace L2
open PySem PySem.Spec PyProof.Rows
def ItV(v d:Addr)(h:Heap):Prop:=h.IsItemsView v d
def zH:V->List V->Hp->VK->Prop:=fun x vs H Q=>∃ d kvs,x = .ref d/\vs = []/\Rd H d (.dK kvs)/\∀ v,H v=none->v≠d->Q (.ref v) (upd H v (.ext (ItV v d)))
def zD:List V->Hp->VK->Prop:=fun vs H Q=>∃ v d kvs,vs = [.ref v]/\H v=some (.ext (ItV v d))/\Rd H d (.dK kvs)/\∀(H2:Hp)(L:Addr)(ps:List Addr),H L=none->ps.length=kvs.length->ps.Nodup ->(∀ p∈ps,H p=none/\p≠L) ->(∀ c,c ∉ ps->c≠L->H2 c=H c)->H2 L=some (.lst (ps.map V.ref)) ->
 (∀(j:Nat) p kv,ps[j]? = some p->kvs[j]? = some kv->H2 p=some (.tup [kV kv.1,kv.2]))->Q (.ref L) H2
variable{P:Program}{a:Addr}{H2:Hp}{F:List Addr}
section
variable{X:Cx}{K:W.Frag}{o:Expr}{to:TE}{qo:QE}{p pos apos aQ:Pos}{dl:Dl}{H:Hp}
theorem Rd.lt{w:World}{h:Heap}{u:HO}(r:Rd H a u)(x:HOk P w H h):a<h.objs.size:=(r.ok x).lt
theorem AK:MtR X "dict.items" zH:=by
 intro gV s σ H x vs v us Q I rx rv h;obtain⟨d,kvs,rfl,rfl,hd,q⟩:=h;cases rx;have hus:=rv.zero;subst hus;obtain⟨z,hS,ws,r,dd⟩:=hZ I.hok hd;have lt:=Rd.lt hd I.hok;refine call_meetsIn PySem.F.slot_dict_items dd.typeIs PySem.F.entry_dict_items (PySem.F.args_dict_items_1 _) (meets_dict_items (aY X.prog X.w) d hS) ⟨⟨ws,dd⟩,?_⟩;have e1:(s.heap.push { cls:=.type "dict_items",data:=.fields #[.ref d] }).get? s.heap.objs.size=some { cls:=.type "dict_items",data:=.fields #[.ref d] }:=Heap.get?_push_size s.heap rfl;have I1:=I.laid (a:=s.heap.objs.size) (o:=.ext (ItV s.heap.objs.size d)) (h':=s.heap.push { cls:=.type "dict_items",data:=.fields #[.ref d] }) (t':=s.toks) (fun b u e=>Heap.get?_push_of_some _ e) (Nat.le_refl _)
  ⟨⟨_,e1,rfl,rfl⟩,⟨_,e1⟩,fun h1 h2 x k=>by obtain⟨o,ho,c⟩:=x;exact⟨o,k o ho,c⟩⟩
 exact⟨.ref s.heap.objs.size,_,I1,rfl,q _ (I.hok.fresh (Nat.le_refl _)) (Nat.ne_of_gt lt)⟩
theorem ny{α β:Type}{R:α->β->Prop}:∀{xs:List α}{ys:List β},Paired R xs ys->∀{j:Nat}{x:α},xs[j]? = some x->∃ y,ys[j]? = some y/\R x y
 | _,_,.nil,_,_,h=>by simp at h
 | _,_,.cons r t,0,_,h=>by cases h;exact⟨_,rfl,r⟩
 | _,_,.cons r t,j+1,_,h=>ny t (j:=j) h
def y2(to:TE):TE:=fun σ H Q=>to σ H fun x H1=>zH x [] H1 Q
theorem Ar(ho:PE X o to)(bN:attributeBase o "items" X.env (eval o X.env)=eval o X.env:=by rfl)(bM:(apos.endLine==aQ.line)=true:=by rfl):PE X (.Call (.Attribute o "items" apos) [] [] aQ) (y2 to):=by
 intro gV s σ H Q I h;refine wpAny_Call_method0_late bN bM (thn (ho gV s σ H _ I h) fun v s1 hPP=>?_)
 obtain⟨x,H1,I1,r1,q1⟩:=hPP;obtain⟨d,kvs,rfl,e,hd,q⟩:=id q1;cases r1;obtain⟨z,hS,ws,r,dd⟩:=hZ I1.hok hd;exact⟨"dict","dict.items",PySem.F.plainAttrs_dict,PySem.F.slot_dict_items,PySem.F.type_dict_items,dd.typeIs,dd.mapOf.noDict,Calls.callWith_builtin rfl (PySem.evalArgs_none (AK gV s1 σ H1 (.ref d) [] (.ref d) [] Q I1 rfl .nil q1))⟩
theorem vd(hc:X.calm=true):bW X (.type "list") zD:=by
 intro gV s1 σ H1 xs us R I1 r h;obtain⟨v,d,kvs,rfl,hv,hd,q⟩:=h;obtain⟨u,rfl,ru⟩:=r.one;cases ru;obtain⟨hv1,_⟩:=(show aV X.prog X.w H1 s1.heap v (.ext (ItV v d))from I1.hok v _ hv);obtain⟨z,hS,ws,rv,dd⟩:=hZ I1.hok hd;obtain⟨ep,hm⟩:=dd.dictAt;have lw:=rv.length;refine W.kdx_call (knd:=aY X.prog X.w) (I1.ok.hd hc) hv1 hm (by omega) fun h' tk acc c as fr hS' hl hG dG=>?_
 have I2:Inv X gV σ H1 { s1 with heap:=kz h' s1.heap.objs.size,toks:=tk }:=I1.kept (t':=tk) fun b u e=>by rw[gW (Heap.lt_size e)];exact fr b u e
 have lS:s1.heap.objs.size<h'.objs.size:=Heap.lt_size hS';have keys:(((s1.heap.objs.size,HO.lst (as.map V.ref)) ::(as.zip kvs).map fun p=>(p.1,HO.tup [kV p.2.1,p.2.2])).map (·.1))=s1.heap.objs.size::as:=by
  rw[List.map_cons,List.map_map]
  congr 1
  have:((fun x:Addr×HO=>x.1) ∘ fun p:Addr×Key×V=>(p.1,HO.tup [kV p.2.1,p.2.2]))=Prod.fst:=rfl
  rw[this,List.map_fst_zip (by omega)]
 have pw:(s1.heap.objs.size::as).Pairwise (· < ·):=List.pairwise_cons.mpr ⟨fun a ha=>hG.above a ha,hG.rise⟩
 have I3:=Inv.uC (X:=X) (s:={ s1 with toks:=tk }) (m:=s1.heap.objs.size) (h':=h') (os:=(s1.heap.objs.size,HO.lst (as.map V.ref)) ::(as.zip kvs).map fun p=>(p.1,HO.tup [kV p.2.1,p.2.2])) I2 (by omega) (by rw[keys];exact pw) (fun p hp=>?_) (fun p hp H2 hh e=>?_)
 ·have nd:(s1.heap.objs.size::as).Nodup:=pw.imp fun h=>Nat.ne_of_lt h
  have nd':=List.nodup_cons.mp nd;refine⟨.ref s1.heap.objs.size,_,I3,rfl,q _ s1.heap.objs.size as (I1.hok.fresh (Nat.le_refl _)) (by omega) nd'.2 (fun p hp=>⟨I1.hok.fresh (Nat.le_of_lt (hG.above p hp)),fun z=>nd'.1 (z▸hp)⟩) (fun c c1 c2=>?_) ?_ (fun j p kv hp hkv=>?_)⟩
  ·exact gF (by rw[keys];exact fun z=>(List.mem_cons.mp z).elim c2 c1)
  ·exact eB (p:=(s1.heap.objs.size,HO.lst (as.map V.ref))) (by rw[keys];exact nd) List.mem_cons_self
  ·have hz:(as.zip kvs)[j]? = some (p,kv):=List.getElem?_zip_eq_some.mpr ⟨hp,hkv⟩;exact eB (p:=(p,HO.tup [kV kv.1,kv.2])) (by rw[keys];exact nd) (List.mem_cons_of_mem _ (List.mem_map.mpr ⟨_,List.mem_of_getElem? hz,rfl⟩))
 ·have:p.1∈s1.heap.objs.size::as:=by rw[<- keys];exact List.mem_map.mpr ⟨p,hp,rfl⟩
  rcases List.mem_cons.mp this with z|z
  ·rw[z];exact⟨Nat.le_refl _,lS⟩
  ·exact⟨Nat.le_of_lt (hG.above p.1 z),hG.there z⟩
 ·rcases List.mem_cons.mp hp with rfl|hp
  ·refine⟨by rw[List.length_map];omega,acc.toList,c,by rw[dG];exact kS as,?_⟩
   rw[e];exact hS'
  ·obtain⟨t,ht,rfl⟩:=List.mem_map.mp hp;obtain⟨j,hj⟩:=List.getElem?_of_mem ht;obtain⟨a1,a2⟩:=List.getElem?_zip_eq_some.mp hj;obtain⟨key,k,x,w1,w2,pr⟩:=hG.pairs j t.1 a1;obtain⟨kw,hkw,e1,e2⟩:=ny rv a2;rw[w1]at hkw;cases hkw;have e1:t.2.1=k:=e1;have pr':hh.get? t.1=_:=e.trans pr;refine⟨by show 2<=sizeLine;decide,[key,x],.cons (by rw[e1];exact Hx w2) (.cons e2 .nil),⟨⟨_,pr',rfl,_,rfl⟩,_,pr',rfl⟩⟩
def kT:Key->T
 | .inl i=>.i i
 | .inr x=>.s x
def wj(p:Key×T):T:=.t [kT p.1,p.2]
def y0(to:TE):TE:=tCB zD (bP (y2 to) eD)
def z9(qo:QE):QE:=fun q Q=>qo q fun t=>match t.dof with
 | some ks=>T.imk ks=true/\Q (.l (ks.map wj))
 | none=>False
theorem xR{vs:List (Key×V)}{ks:List (Key×T)}(h:aL K dl H2 vs ks F):F = []->∀{ps:List Addr},ps.length=vs.length ->(∀(j:Nat) p kv,ps[j]? = some p->vs[j]? = some kv->H2 p=some (.tup [kV kv.1,kv.2]))->au K dl H2 (ps.map V.ref) (ks.map wj) [] :=
 h.ind (M:=fun vs ks F=>F = []->∀{ps:List Addr},ps.length=vs.length ->(∀(j:Nat) p kv,ps[j]? = some p->vs[j]? = some kv->H2 p=some (.tup [kV kv.1,kv.2]))->au K dl H2 (ps.map V.ref) (ks.map wj) []) (fun _ ps hl _=>by
   obtain rfl:=List.length_eq_zero_iff.mp hl;exact .nil) fun k v x vs ks F G h _ ih e ps hl hp=>by
  obtain⟨e1,e2⟩:=List.append_eq_nil_iff.mp e;subst e1;cases ps with
  | nil=>cases hl
  | cons p ps =>
   have hk:az K dl H2 (kV k) (kT k) []:=by cases k;exact .i _;exact .s _
   exact au.cons (F:=[]) (.t (hp 0 p _ rfl rfl) (au.cons (F:=[]) hk (au.cons (F:=[]) h .nil))) (ih e2 (Nat.succ.inj hl) fun j p kv h1 h2=>hp (j+1) p kv h1 h2)
theorem xJ(ho:fK K to qo):iO K (y0 to) (z9 qo):=fun dl H σ q Q R rd hq k=>ho dl H σ q _ _ rd hq fun v t F H1 e1 r1 hz=>by
 split at hz
 ·rename_i ks eks;obtain⟨d,vs,G,rfl,h1,h2,sub⟩:=r1.r.dof eks;obtain rfl:=h2.im hz.1;refine⟨d,vs,rfl,rfl,h1,fun w hw hne=>?_⟩
  have st:∀ b u,H1 b=some u->upd H1 w (.ext (ItV w d)) b=some u:=fun b u e=>by rw[aj (aP e hw)];exact e
  have rd':Rd (upd H1 w (.ext (ItV w d))) d (.dK vs):=h1.elim (fun z=>.inl (st _ _ z)) fun⟨o,z⟩=>.inr ⟨o,st _ _ z⟩
  refine⟨w,d,vs,rfl,aw,rd',fun H2 L ps hL hl hn hf hk hLL hp=>?_⟩
  have wn:w≠L:=fun z=>by rw[z,aw]at hL;cases hL
  have hL1:H1 L=none:=by rw[aj wn.symm]at hL;exact hL
  have sm:∀ b u,H1 b=some u->H2 b=some u:=fun b u e=>by
   have e':=st b u e;rw[hk b (fun z=>by rw[(hf b z).1]at e';cases e') (fun z=>by rw[z,hL1]at e;cases e)]
   exact e'
  have ev:Evo dl H1 H2:=⟨fun b o e _ _=>sm b o e,fun p hp=>(by
   obtain⟨s,n,ls,D⟩:=e1.d p hp;exact⟨s,n,ls,sm _ _ D.hd,sm _ _ D.hl,D.s0,D.s1,D.n0,D.l0⟩),fun b x e=>⟨x,Int.le_refl _,sm _ _ e⟩⟩
  have h2':aL K dl H2 vs ks []:=h2.cD (ev.tf e1.d) (fun _ z=>z) fun _ z=>nomatch z
  exact k _ _ [L] H2 (e1.trans ev) ⟨.l hLL (xR h2' rfl hl hp),fun b hb=>by rw[List.mem_singleton.mp hb];exact e1.d.nd0 hL1⟩ (fun b hb=>by rw[List.mem_singleton.mp hb];exact e1.free hL1) (by simp) hz.2
 ·exact hz.elim
theorem zU(hm:X.mg "list" = none)(ho:QPE X K o to qo)(hg:Gl X "list":=by exact rfl)(hc:X.calm=true:=by exact rfl)(hK:X.K=K:=by exact rfl)(bN:attributeBase o "items" X.env (eval o X.env)=eval o X.env:=by rfl)(bM:(apos.endLine==aQ.line)=true:=by rfl)
  (he:starEach [.Call (.Attribute o "items" apos) [] [] aQ] X.env =(false,eval (.Call (.Attribute o "items" apos) [] [] aQ) X.env)::starEach [] X.env:=by rfl) (hpl:(backTo pos (starEach [] X.env)).any (·.1)=false:=by rfl) :
  QPF X K (.Call (.Name "list" p) [.Call (.Attribute o "items" apos) [] [] aQ] [] pos) (y0 to) (z9 qo) :=
 ⟨by subst hK;exact nu (vd hc) hg hm (by kernel_rfl) (a8 (Ar ho.h bN bM) cH he) (by decide) (by decide) he hpl,xJ ho.s⟩
end
def jg(H:Hp)(F:List Addr):Hp:=fun b=>if b∈F then none else H b
variable{H:Hp}
theorem sv{b:Addr}(h:b∈F):jg H F b=none:=if_pos h
theorem lT{b:Addr}(h:b ∉ F):jg H F b=H b:=if_neg h
structure Ij(dl:Dl)(H:Hp)(F:List Addr)(H':Hp):Prop where
 k:∀ b o,H b=some o->b ∉ F->Nd dl b->NR o->H' b=some o
 r:∀ a x,H a=some (.room x)->a ∉ F->∃ y,y<=x/\H' a=some (.room y)
 l:∀ b xs,b∈F->H b=some (.lst xs)->∃ ys,H' b=some (.lst ys)
 d:Dls dl H'
abbrev vz:=List T ->(T->T->Prop)->Prop
def spL(K:W.Frag)(j:Nat)(ps:vz):Sp:=fun vs H Q _=>∃(dl:Dl)(ts:List T)(v0:V)(t0:T)(F0:List Addr)(Qp:T->T->Prop),Dls dl H/\vs.length=ts.length/\vs[j]? = some v0/\ts[j]? = some t0/\Rp K dl H v0 t0 F0/\F0.Nodup /\
 (∀ i v t,i≠j->vs[i]? = some v->ts[i]? = some t->Rp K dl H v t [])/\ps ts Qp /\
 ∀ v r Fr t' F' H',Ij dl H F0 H'->Rp K dl H' v0 t' F'->F'.Nodup ->(∀ b∈F',b∈F0\/H b=none)->Rp K dl H' v r Fr->Fr.Nodup ->(∀ b∈Fr,b∈F0\/H b=none) ->(∀ b∈Fr,b ∉ F')->Qp r t'->Q v H'
def hsq(H:Hp)(F:List Addr):List (V×T):=F.filterMap fun b=>match H b with
 | some (.lst _)=>some (.ref b,.q)
 | _=>none
variable{dl:Dl}
theorem HH{K:W.Frag}:∀ p∈hsq H F,Rp K dl H p.1 p.2 []:=fun p hp=>by
 obtain⟨b,_,e⟩:=List.mem_filterMap.mp hp
 split at e
 ·rename_i xs h;cases e;exact⟨.q h,fun _ z=>nomatch z⟩
 ·cases e
theorem Ec{b:Addr}{xs:List V}(hb:b∈F)(h:H b=some (.lst xs)):(V.ref b,T.q)∈hsq H F:=List.mem_filterMap.mpr ⟨b,hb,by rw[h]⟩
variable{N:List Str}{j:Nat}
theorem tX{K:W.Frag}{vs:List V}{ts:List T}{v0:V}{t0:T}{F0:List Addr}{hs:List (V×T)}(D:Dls dl H)(hl:vs.length=ts.length)(hv:vs[j]? = some v0)(r0:Rp K dl H v0 t0 F0)(n0:F0.Nodup)(ro:∀ i v t,i≠j->vs[i]? = some v->ts[i]? = some t->Rp K dl H v t [])(hj:j<ts.length)(hh:∀ p∈hs,Rp K dl H p.1 p.2 []) :
  Rel K dl (jg H F0) hs H (start N vs) ((ts.map Sl.r).set j (.o t0)++List.replicate (N.length - ts.length) .no) (fun i=>if i=j then F0 else []):=by
 have lk:∀(i:Nat)(y:Sl),((ts.map Sl.r).set j (.o t0)++List.replicate (N.length - ts.length) Sl.no)[i]? = some y ->(i=j/\y = .o t0)\/(i≠j/\∃ t,ts[i]? = some t/\y = .r t)\/(ts.length<=i/\y = .no):=fun i y h=>by
  by_cases hi:i<ts.length
  ·rw[List.getElem?_append_left (by simpa using hi)]at h
   rcases get_set h with⟨e1,e2,_⟩ |⟨e1,e2⟩
   ·exact .inl ⟨e1,e2⟩
   ·rw[List.getElem?_map,List.getElem?_eq_getElem hi]at e2;exact .inr (.inl ⟨e1,ts[i],by simp,(Option.some.inj e2).symm⟩)
  ·rw[List.getElem?_append_right (by simpa using hi),List.getElem?_replicate]at h
   split at h
   ·exact .inr (.inr ⟨by omega,(Option.some.inj h).symm⟩)
   ·cases h
 have vat:∀(i:Nat)(v:V),vs[i]? = some v ->(start N vs)[i]? = some (some v):=fun i v e=>by
  have hi:i<vs.length:=(List.getElem?_eq_some_iff.mp e).1;show(vs.map some++List.replicate (N.length - vs.length) none)[i]? = _;rw[List.getElem?_append_left (by simpa using hi),List.getElem?_map,e]
  rfl
 have inF:∀ b o,jg H F0 b=some o->H b=some o:=fun b o h=>by
  by_cases e:b∈F0
  ·rw[sv e]at h;cases h
  ·rw[lT e]at h;exact h
 refine⟨D,fun i y t h1 h2=>?_,fun i y h1 h2=>?_,fun i hi=>?_,fun i t h1=>?_,fun p hp=>⟨[],hh p hp,fun _ _ _ _ _ z=>nomatch z⟩,⟨fun b o h _ _=>inF b o h,fun b x h=>⟨x,Int.le_refl _,inF b _ h⟩⟩,?_⟩
 ·rcases lk i y h1 with⟨rfl,rfl⟩ |⟨ne,u,e,rfl⟩ |⟨_,rfl⟩
  ·cases h2;refine⟨v0,vat _ _ hv,?_⟩;rw[if_pos rfl];exact r0
  ·cases h2;obtain⟨v,ev⟩:∃ v,vs[i]? = some v:=⟨vs[i]'(by rw[hl];exact(List.getElem?_eq_some_iff.mp e).1),List.getElem?_eq_getElem _⟩
   refine⟨v,vat _ _ ev,?_⟩;show Rp K dl H v t (if i=j then F0 else [])
   rw[if_neg ne];exact ro i v t ne ev e
  ·cases h2
 ·rcases lk i y h1 with⟨rfl,rfl⟩ |⟨ne,u,e,rfl⟩ |⟨hi,rfl⟩
  ·cases h2
  ·cases h2
  ·exact if_neg (by omega)
 ·refine if_neg ?_;simp at hi;omega
 ·rcases lk i _ h1 with⟨rfl,e⟩ |⟨ne,u,e,z⟩ |⟨_,z⟩
  ·refine⟨by rw[if_pos rfl];exact n0,fun b hb=>?_,fun k hk b hb=>?_⟩
   ·rw[if_pos rfl]at hb;exact sv hb
   ·rw[if_neg hk];exact List.not_mem_nil
  ·cases z
  ·cases z
 ·show _ =(vs.map some++List.replicate (N.length - vs.length) none).length;simp[hl]
def T.adr:T->Option Addr
 | .lp a _=>some a
 | .dp a _=>some a
 | _=>none
theorem az.adr{K:W.Frag}{dl:Dl}{H:Hp}{v:V}{t:T}{F:List Addr}{a:Addr}(h:az K dl H v t F)(e:t.adr=some a):v = .ref a:=by
 cases t with
 | lp b xs=>cases e;obtain⟨_,_,z,_⟩:=h.lpp;exact z
 | dp b xs=>cases e;obtain⟨_,_,z,_⟩:=h.dpp;exact z
 | _=>cases e
variable{mg:Str->Option Value}{base:Heap}{x:Str}{qual:Str}{st:Stmt}{fd:FuncData}{ps:List Str}
theorem Fun.okL{w:World}{K:W.Frag}{f:Addr}{k:Nat}{psp:vz}(F:Fun K x qual st f fd)(S:aJ N ps (ax st))(len:∀ ts Q,psp ts Q->ts.length=ps.length)
  (ji:∀(cdv:Value)(A:Around)(outer:List Env)(s:Shared)(H:Hp)(E:XK),cn k (A.deeper (envOfC qual (ax st) s.heap.objs.size f cdv)) ->
   ∃ t qs,mE (mX CX0 P w K mg base N qual (ax st) f cdv A outer s H E).nox K (bD st) t qs/\∀ ts Q t0 a,psp ts Q->ts[j]? = some t0->t0.adr=some a->qs { nx:=fun q=>∃ t',q[j]? = some (.o t')/\t'.adr=some a/\Q .n t',rt:=fun _=>False,ru:=fun q r=>∃ t',q[j]? = some (.o t')/\t'.adr=some a/\Q r t' } ((ts.map Sl.r).set j (.o t0)++List.replicate (N.length - ts.length) .no))
  (Nx:∀ ts Q,psp ts Q->∃ t0 a,ts[j]? = some t0/\t0.adr=some a):bc P w K mg base CX0 (k+1) f fd ps (spL K j psp):=by
 refine F.ok S (fun vs H Q E h=>?_) (fun cdv A outer s H vs Q E hr h=>?_)
 ·obtain⟨dl,ts,v0,t0,F0,Qp,_,hl,_,_,_,_,_,h,_⟩:=h;rw[hl];exact len ts Qp h
 ·obtain⟨dl,ts,v0,t0,F0,Qp,D,hl,hv,ht,r0,n0,ro,h,fin⟩:=h;obtain⟨t,qs,hb,hq⟩:=ji cdv A outer s H E hr;refine⟨t,hb.h,?_⟩;obtain⟨t0',a,ht',ea⟩:=Nx ts Qp h;rw[ht]at ht';cases ht';have z:=hq ts Qp t0 a h ht ea;have hj:j<ts.length:=(List.getElem?_eq_some_iff.mp ht).1;have R:=tX (N:=N) (hs:=hsq H F0) D hl hv r0 n0 ro hj HH;have ev0:=r0.r.adr ea;have inF:∀{b:Addr}{o:HO},H b=some o->b ∉ F0->jg H F0 b=some o:=fun h n=>by rw[lT n];exact h
  have Kh:∀{H':Hp}{σ:St}{q:Sq}{F':Nat->List Addr},Rel K dl (jg H F0) (hsq H F0) H' σ q F'->Ij dl H F0 H':=fun{H' σ q F'} r' =>
   ⟨fun b o e n nd nr=>r'.f.k b o (inF e n) nd nr,fun b x e n=>r'.f.r b x (inF e n),fun b xs hb e=>(by
    obtain⟨Fp,rq,_⟩:=r'.h _ (Ec hb e);cases rq.r with
    | q h=>exact⟨_,h⟩),r'.d⟩
  have fr:∀{b:Addr},jg H F0 b=none->b∈F0\/H b=none:=fun{b} h=>by
   by_cases e:b∈F0
   ·exact .inl e
   ·rw[lT e]at h;exact .inr h
  have at':∀{H':Hp}{σ:St}{q:Sq}{F':Nat->List Addr}{t':T},Rel K dl (jg H F0) (hsq H F0) H' σ q F'->q[j]? = some (.o t')->t'.adr=some a->Rp K dl H' v0 t' (F' j):=fun{H' σ q F' t'} r' e1 e2=>by
   obtain⟨v',_,rp⟩:=r'.g j _ _ e1 rfl;rw[ev0,<- rp.r.adr e2];exact rp
  refine hb.s dl (jg H F0) (hsq H F0) H _ _ _ _ ⟨_,R⟩ z ⟨fun H' σ q hr hz=>?_,fun _ _ _ _ hz=>hz.elim,fun _ _ _ _ hz=>hz.elim,fun _ _ _ _ _ _ _ _ _ hz=>hz.elim,fun H' σ q F' v r Fr r' rv f1 n1 dj hz=>?_⟩
  ·obtain⟨F',r'⟩:=hr;obtain⟨t',e1,e2,hz⟩:=hz;obtain⟨o1,o2,_⟩:=r'.o j t' e1;exact fin .non .n [] t' (F' j) H' (Kh r') (at' r' e1 e2) o1 (fun b hb=>fr (o2 b hb)) ⟨.n,fun _ z=>nomatch z⟩ List.nodup_nil (fun _ z=>nomatch z) (fun _ z=>nomatch z) hz
  ·obtain⟨t',e1,e2,hz⟩:=hz;obtain⟨o1,o2,_⟩:=r'.o j t' e1;exact fin v r Fr t' (F' j) H' (Kh r') (at' r' e1 e2) o1 (fun b hb=>fr (o2 b hb)) rv n1 (fun b hb=>fr (f1 b hb)) (dj j) hz
variable{F':List Addr}
section
variable{X:Cx}{K:W.Frag}{H₀ H':Hp}{hs:List (V×T)}{σ:St}{q:Sq}{F:Nat->List Addr}
theorem Rel.Kg{i:Nat}{t t':T}{v:V}(r:Rel K dl H₀ hs H σ q F)(hi:q[i]? = some (.o t))(hv:σ[i]? = some (some v))(f:Ij dl H (F i) H')(hr:Rp K dl H' v t' F')(n':F'.Nodup)(hF:∀ b∈F',b∈F i\/H b=none):Rel K dl H₀ hs H' σ (q.set i (.o t')) (rB F i F'):=by
 have th:∀{b:Addr},b∈F i->gC H b:=fun hb=>r.dw hb
 have ne:∀{b:Addr}{o:HO},H b=some o ->(∀ xs,o ≠ .lst xs) ->(∀ kv,o ≠ .dK kv)->b ∉ F i:=fun{b o} h n1 n2 z=>by
  rcases th z with⟨xs,e⟩ |⟨ks,e⟩
  ·rw[h]at e;exact n1 _ (Option.some.inj e)
  ·rw[h]at e;exact n2 _ (Option.some.inj e)
 have tf:TF H H':=⟨fun b vs h=>f.k b _ h (ne h (fun _ z=>nomatch z) fun _ z=>nomatch z) (r.d.nd h (fun _ z=>nomatch z) fun _ z=>nomatch z) (fun _ z=>nomatch z),fun b o u h=>f.k b _ h (ne h (fun _ z=>nomatch z) fun _ z=>nomatch z) (r.d.nd h (fun _ z=>nomatch z) fun _ z=>nomatch z) (fun _ z=>nomatch z),
  fun b φ h=>f.k b _ h (ne h (fun _ z=>nomatch z) fun _ z=>nomatch z) (r.d.nd h (fun _ z=>nomatch z) fun _ z=>nomatch z) (fun _ z=>nomatch z),fun b xs h=>(by
  by_cases hb:b∈F i
  ·exact f.l b xs hb h
  ·by_cases hn:Nd dl b
   ·exact⟨xs,f.k b _ h hb hn (fun _ z=>nomatch z)⟩
   ·unfold Nd at hn;obtain⟨p,hp,z⟩:∃ p∈dl,¬(b≠p.1/\b≠p.2):=Classical.byContradiction fun c=>hn fun p hp=>Classical.byContradiction fun z=>c ⟨p,hp,z⟩
    obtain⟨s,n,ls,Q⟩:=r.d p hp;obtain⟨s',n',ls',Q'⟩:=f.d p hp;have h1:b≠p.1:=f9 h Q.hd (fun z=>nomatch z)
    have h2:b=p.2:=Classical.byContradiction fun z'=>z ⟨h1,z'⟩
    exact⟨_,by rw[h2];exact Q'.hl⟩),fun b x h=>f.r b x h (ne h (fun _ z=>nomatch z) fun _ z=>nomatch z)⟩
 have st:∀{w:V}{u:T}{Fw:List Addr},Rp K dl H w u Fw ->(∀ b∈Fw,b ∉ F i)->Rp K dl H' w u Fw:=fun{w u Fw} h np =>
  ⟨h.r.cD tf (fun _ z=>z) fun b hb o e=>f.k b o e (np b hb) (h.n b hb) (.of (h.r.there b hb) e),h.n⟩
 obtain⟨o1,o2,o3⟩:=r.o i t hi;have out:∀ j,j≠i->∀ b∈F',b ∉ F j:=fun j hj b hb z=>by
  rcases hF b hb with h|h
  ·exact o3 j hj b h z
  ·exact(r.dw z).no h
 refine⟨f.d,fun j x u h1 h2=>?_,fun j x h1 h2=>?_,fun j hj=>?_,fun j u h1=>?_,fun p hp=>?_,⟨fun b o h n nr=>?_,fun b x h=>?_⟩,by simp[r.l]⟩
 ·rcases get_set h1 with⟨rfl,rfl,_⟩ |⟨ne',h1⟩
  ·cases h2;exact⟨v,hv,by rw[aK];exact hr⟩
  ·obtain⟨w,h3,h4⟩:=r.g j x u h1 h2;exact⟨w,h3,by rw[aA ne'];exact st h4 fun b hb z=>o3 j ne' b z hb⟩
 ·rcases get_set h1 with⟨rfl,rfl,_⟩ |⟨ne',h1⟩
  ·cases h2
  ·rw[aA ne'];exact r.n j x h1 h2
 ·have hl:i<q.length:=(List.getElem?_eq_some_iff.mp hi).1;rw[List.length_set]at hj;rw[aA (by omega)]
  exact r.z j hj
 ·rcases get_set h1 with⟨rfl,e,_⟩ |⟨ne',h1⟩
  ·rw[aK];exact⟨n',fun b hb=>(hF b hb).elim (o2 b) r.fz,fun k hk b hb=>by rw[aA hk];exact out k hk b hb⟩
  ·obtain⟨p1,p2,p3⟩:=r.o j u h1;rw[aA ne'];refine⟨p1,p2,fun k hk b hb z=>?_⟩
   by_cases ek:k=i
   ·subst ek;rw[aK]at z;exact out j ne' b z hb
   ·rw[aA ek]at z;exact p3 k hk b hb z
 ·obtain⟨Fp,h1,h2⟩:=r.h p hp;refine⟨Fp,st h1 (fun b hb z=>h2 i t hi b z hb),fun j u hj b hb z=>?_⟩
  rcases get_set hj with⟨rfl,e,_⟩ |⟨ne',hj⟩
  ·rw[aK]at hb;rcases hF b hb with h|h
   ·exact h2 j t hi b h z
   ·exact gC.no (h1.r.there b z) h
  ·rw[aA ne']at hb;exact h2 j u hj b hb z
 ·exact f.k b o (r.f.k b o h n nr) (fun z=>by rw[o2 b z]at h;cases h) n nr
 ·obtain⟨y,hy,e1⟩:=r.f.r b x h;obtain⟨y',hy',e2⟩:=f.r b y e1 (fun z=>by rw[o2 b z]at h;cases h)
  exact⟨y',Int.le_trans hy' hy,e2⟩
end
section
variable{X:Cx}{K:W.Frag}{H₀ H':Hp}{hs:List (V×T)}{σ:St}{q:Sq}{F:Nat->List Addr}{a b e o:Expr}{es:List Expr}{te tk tv:TE}{qe qk qv:QE}{tl:TA}{ql:QA}{pos pos' p apos aQ dS:Pos}
theorem Rel.zx{i:Nat}{t t':T}(r:Rel K dl H₀ hs H σ q F)(hi:q[i]? = some (.o t))(ht:∀ v,σ[i]? = some (some v)->az K dl H v t (F i)->az K dl H v t' (F i)):Rel K dl H₀ hs H σ (q.set i (.o t')) F:=by
 refine⟨r.d,fun j x u h1 h2=>?_,fun j x h1 h2=>?_,fun j hj=>r.z j (by rw[List.length_set]at hj;exact hj),fun j u h1=>?_,fun p hp=>?_,r.f,by simp[r.l]⟩
 ·rcases get_set h1 with⟨rfl,rfl,_⟩ |⟨ne,h1⟩
  ·cases h2;obtain⟨v,h3,h4⟩:=r.g j _ t hi rfl;exact⟨v,h3,ht v h3 h4.r,h4.n⟩
  ·exact r.g j x u h1 h2
 ·rcases get_set h1 with⟨rfl,rfl,_⟩ |⟨ne,h1⟩
  ·cases h2
  ·exact r.n j x h1 h2
 ·rcases get_set h1 with⟨rfl,_,_⟩ |⟨ne,h1⟩
  ·exact r.o j t hi
  ·exact r.o j u h1
 ·obtain⟨Fp,h1,h2⟩:=r.h p hp;refine⟨Fp,h1,fun j u hj=>?_⟩
  rcases get_set hj with⟨rfl,_,_⟩ |⟨ne,hj⟩
  ·exact h2 j t hi
  ·exact h2 j u hj
theorem Rel.asL{i:Nat}{p:Addr}{xs:List T}(r:Rel K dl H₀ hs H σ q F)(hi:q[i]? = some (.o (.lp p xs))):Rel K dl H₀ hs H σ (q.set i (.o (.l xs))) F:=r.zx hi fun v _ h=>by
 obtain⟨vs,G,rfl,e,h1,h2⟩:=h.lpp;rw[e];exact .l h1 h2
theorem Rel.asP{i:Nat}{p:Addr}{xs:List T}(r:Rel K dl H₀ hs H σ q F)(hi:q[i]? = some (.o (.l xs)))(hv:σ[i]? = some (some (.ref p))):Rel K dl H₀ hs H σ (q.set i (.o (.lp p xs))) F:=r.zx hi fun v h3 h=>by
 rw[hv]at h3;cases h3;obtain⟨p',vs,G,e1,e,h1,h2⟩:=h.lst;cases e1;rw[e];exact .lp h1 h2
theorem zO{i:Nat}(he:PE X e (a9 i)):QPS X K (.Return (some e) pos) (Ck (a9 i)) (fun D q=>match q[i]? with|some (.o t)=>D.ru (q.set i .no) t | _=>False):=⟨jE he,fun dl H₀ hs H σ q Dq D ⟨F,r⟩ hq E=>by
 split at hq
 ·rename_i t e1;obtain⟨v,hv,rp⟩:=r.g i _ t e1 rfl;obtain⟨o1,o2,o3⟩:=r.o i t e1;refine⟨v,hv,E.ru H (σ.set i none) _ _ v t (F i) (r.HZ i) rp o2 o1 (fun j b hb z=>?_) hq⟩
  by_cases ej:j=i
  ·rw[ej,aK]at z;cases z
  ·rw[aA ej]at z;exact o3 j ej b hb z
 ·exact hq.elim⟩
def Fe(i:Nat):QE:=fun q Q=>match q[i]? with
 | some (.o (.lp _ xs))=>Q (.l xs)
 | _=>False
theorem qvp(i:Nat){pos:Pos}(hN:X.N[i]? = some x:=by rfl)(hv:Vis X.env.scope x:=by first|exact Or.inl rfl|exact Or.inr (Or.inl rfl)|exact Or.inr (Or.inr rfl))(hd:(x ==("__debug__":Str))=false:=by decide)
  (hcd:(x ==("__classdict__":Str))=false:=by decide):QPE X K (.Name x pos) (a9 i) (Fe i):=⟨uh hN hv hd hcd,fun dl H σ q Q R rd hq k=>by
 unfold Fe at hq
 split at hq
 ·rename_i a ks e;obtain⟨v,F,h1,h2⟩:=rd.g i _ _ e rfl;obtain⟨vs,G,rfl,rfl,h3,h4⟩:=h2.r.lpp;exact⟨_,h1,k _ (.l ks) _ H (.refl rd.d) ⟨.l h3 h4,h2.n⟩ hq⟩
 ·exact hq.elim⟩
def z7(i:Nat)(qk qv:QE):QS:=fun D q=>qv q fun t=>match q[i]? with
 | some (.o (.lp a xs))=>qk q fun u=>match u with
  | .i k=>∃ j,ixN xs.length k=some j/\T.ims xs=true/\t.im=true/\D.nx (q.set i (.o (.lp a (xs.set j t))))
  | _=>False
 | _=>False
theorem xH{i:Nat}(hk:fK K tk qk)(hv:fK K tv qv):gD K (e7 tv (uZ (a9 i) tk rG)) (z7 i qk qv):=fun dl H₀ hs H σ q Dq D ⟨F,r⟩ hq E=>by
 refine hv dl H σ q _ _ r.rd hq fun w t F1 H1 e1 r1 hq=>?_
 split at hq
 ·rename_i a xs ei;obtain⟨v,hv',rp⟩:=(r.evo e1).g i _ _ ei rfl;refine⟨v,hv',hk dl H1 σ q _ _ (r.rd.evo e1) hq fun y u F2 H2 e2 r2 hq=>?_⟩
  split at hq
  ·obtain⟨j,hj,hm,ht,hq⟩:=hq;obtain⟨rfl,_⟩:=r2.r.int;obtain rfl:=r1.r.im ht;have rp2:=rp.evo e1.d e2;obtain⟨vs,G,rfl,eF,h1,h2⟩:=rp2.r.lpp;have eG:=h2.im hm;subst eG;have hil:i<q.length:=(List.getElem?_eq_some_iff.mp ei).1;refine⟨a,vs,_,j,rfl,rfl,h1,by rw[h2.len];exact hj,?_⟩
   have rA:=r.asL ei;obtain⟨F3,r3⟩:=rA.il (i:=i) (xs:=xs) (List.getElem?_set_self hil) hv' eF (e1.trans e2) (au.set (r1.evo e1.d e2).r j h2 rfl) List.nodup_nil fun _ z=>nomatch z
   have r4:=r3.asP (i:=i) (List.getElem?_set_self (by rw[List.length_set];exact hil)) hv'
   rw[List.set_set,List.set_set]at r4;exact E.nx _ _ _ ⟨_,r4⟩ hq
  ·exact hq.elim
 ·exact hq.elim
theorem zN{i:Nat}(ho:PE X o (a9 i))(hk:QPE X K a tk qk)(hv:QPE X K b tv qv)(hs:swapsWithSole [.Subscript o a pos'] b pos.line X.env=pure false:=by rfl)(hw:swappedStores [.Subscript o a pos'] b X.env=pure none:=by rfl)
  (h1:(assignEach [.Subscript o a pos'] X.env).map (·.2) = [assign (.Subscript o a pos') X.env]:=by rfl)
  (ha:∀ v,assign (.Subscript o a pos') X.env v =(do
   let ov <- holding [v] (eval o X.env)
   let iv <- holding [v,ov] (eval a X.env)
   standAt pos'
   holding [v,ov,iv] (setItem ov iv v)
   release [v,ov,iv] []):=by intro _;rfl):QPS X K (.Assign [.Subscript o a pos'] b pos) (e7 tv (uZ (a9 i) tk rG)) (z7 i qk qv) :=
 ⟨lE hv.h (ug ho hk.h set_list ha) hs hw h1,xH hk.s hv.s⟩
end
section
variable{X:Cx}{K:W.Frag}{e o:Expr}{es:List Expr}{te:TE}{tl:TA}{qe:QE}{ql:QA}{pos p apos aQ dS:Pos}{k k':Nat}{f:Addr}{prs:List Str}{ps:vz}{i m:Nat}
def Ad(m i j:Nat)(ps:vz)(ql:QA):QS:=fun D q=>match q[m]?,q[i]? with
 | some (.o (.l xs)),some (.o (.lp a ys))=>i≠m/\ql q fun ts=>ps (ts.set j (.lp a ys)) fun r t'=>t'.adr=some a/\match r with
  | .l zs=>T.ims zs=true/\xs.length+zs.length<=sizeLine/\D.nx ((q.set i (.o t')).set m (.o (.l (xs++zs))))
  | _=>False
 | _,_=>False
theorem zi(ha:BU X K es tl i j ql):gD K (fO (tBM K "list" gH (a9 m) (bP (j7 (spL K j ps) [] E0 tl) eD))) (Ad m i j ps ql):=fun dl H₀ hs H σ q Dq D ⟨F,r⟩ hq E=>by
 unfold Ad at hq
 split at hq
 ·rename_i xs a ys em ei;obtain⟨him,hq⟩:=hq;obtain⟨v,hv,rp⟩:=r.g m _ _ em rfl;obtain⟨l,vs,G,rfl,eF,h1,h2⟩:=rp.r.lst;obtain⟨w,hw,rc⟩:=r.g i _ _ ei rfl;obtain⟨us,Gc,rfl,eC,c1,c2⟩:=rc.r.lpp;refine⟨_,hv,.inl ⟨rfl,vs,SqL.of h1⟩,ha.s dl H σ q (.ref a) _ _ r.rd hw hq fun ws ts H1 e1 l1 hj ho hz=>?_⟩
  have r1:=r.evo e1;show spL K j ps (ws ++ []) H1 _ _;rw[List.append_nil];have hjl:j<ts.length:=by rw[<- l1];exact(List.getElem?_eq_some_iff.mp hj).1
  have rc1:=rc.evo r.d e1;refine⟨dl,ts.set j (.lp a ys),.ref a,.lp a ys,F i,_,r1.d,by simp[l1],hj,List.getElem?_set_self hjl,rc1,(r.o i _ ei).1,fun n v u ne h1 h2=>ho n v u ne h1 (by rwa [List.getElem?_set_ne (fun z=>ne z.symm)]at h2),hz,fun v' rr Fr t' F' H' le r' n' hF' rv nv hFr dj hw'=>?_⟩
  have r2:=r1.Kg ei hw le r' n' hF';obtain⟨_,hw'⟩:=hw'
  split at hw'
  ·obtain⟨iz,hl,hq⟩:=hw';obtain⟨b,zs',Gz,rfl,rfl,z1,z2⟩:=rv.r.lst;obtain rfl:=z2.im iz;have em2:(q.set i (.o t'))[m]? = some (.o (.l xs)):=by rw[List.getElem?_set_ne him];exact em
   obtain⟨v2,hv2,rp2⟩:=r2.g m _ _ em2 rfl;rw[hv]at hv2;cases hv2;obtain⟨l',vs',G',e',eF',h1',h2'⟩:=rp2.r.lst;cases e';refine⟨l,b,vs',zs',rfl,rfl,h1',z1,by rw[h2'.len,z2.len];exact hl,E.nx _ _ _ (r2.il (i:=m) em2 hv eF' (.refl r2.d) (h2'.append z2) ?_ fun c hc=>?_) hq⟩
   ·rw[List.append_nil]
    have:=(r2.o m _ em2).1
    rw[eF']at this;exact(List.nodup_cons.mp this).2
   ·rw[List.append_nil]at hc;exact .inl hc
  ·exact hw'.elim
 ·exact hq.elim
theorem CS(G:bc X.prog X.w X.K X.mg X.base CX0 k f fd prs (spL K j ps))(hr:cn k' X.A)(D:Dn X.K X.mg x st f fd prs)(ho:PE X o (a9 m))(ha:BU X K (e::es) tl i j ql)(hk:k<=k':=by first|decide|omega)(hg:Gl X x:=by exact rfl)
  (hdb:(x ==("__debug__":Str))=false:=by decide) (he:starEach (e::es) X.env =(false,eval e X.env)::starEach es X.env:=by rfl) (hpl:(backTo pos (starEach es X.env)).any (·.1)=false:=by rfl) (hK:X.K=K:=by rfl) (bN:attributeBase o "extend" X.env (eval o X.env)=eval o X.env:=by rfl)
  (gm:((backTo aQ (starEach [.Call (.Name x p) (e::es) [] pos] X.env)).all (fun x=>!x.1)&&(backToKw aQ (keywordEach [] X.env)).all (fun x=>x.1.isSome)
   && decide (([.Call (.Name x p) (e::es) [] pos]:List Expr).length+([]:List Keyword).length+(if([]:List Keyword).isEmpty then 0 else 1)<30))=true:=by rfl)
  (bM:(apos.endLine==aQ.line)=true:=by rfl) (hs:starEach [.Call (.Name x p) (e::es) [] pos] X.env =(false,eval (.Call (.Name x p) (e::es) [] pos) X.env)::starEach [] X.env:=by rfl) (cf:(backTo aQ (starEach [] X.env)).any (·.1)=false:=by rfl)
  (hsw:swapsWith (.Call (.Attribute o "extend" apos) [.Call (.Name x p) (e::es) [] pos] [] aQ) none dS.line X.env=pure false:=by rfl) :
  QPS X K (.Expr (.Call (.Attribute o "extend" apos) [.Call (.Name x p) (e::es) [] pos] [] aQ) dS) (fO (tBM K "list" gH (a9 m) (bP (j7 (spL K j ps) [] E0 tl) eD))) (Ad m i j ps ql) :=
 ⟨i5 (lO hK ho (kM G (hr.mono hk) hg D.m D.F.kp D.b .nil rV ha.h hdb he hpl) bN gm bM hs cf) hsw,zi ha⟩
structure BS(X:Cx)(K:W.Frag)(es:List Expr)(tl:TA)(j:Nat)(ql:QA):Prop where
 h:PA X es tl
 s:∀(dl:Dl)(H:Hp)(σ:St)(q:Sq)(Q:List T->Prop)(R:List V->Hp->Prop),RdR K dl H σ q->ql q Q ->
  (∀ vs ts v0 t0 F0 H',Evo dl H H'->vs.length=ts.length->vs[j]? = some v0->ts[j]? = some t0->Rp K dl H' v0 t0 F0->F0.Nodup ->(∀ b∈F0,H b=none) ->(∀ n v t,n≠j->vs[n]? = some v->ts[n]? = some t->Rp K dl H' v t [])->Q ts->R vs H')->tl σ H R
theorem CT(he:QPF X K e te qe)(hr:QPA X K es tl ql)(hs:starEach (e::es) X.env =(false,eval e X.env)::starEach es X.env:=by rfl):BS X K (e::es) (bP te tl) 0 (fun q Q=>qe q fun t=>ql q fun ts=>T.ims ts=true/\Q (t::ts)) :=
 ⟨a8 he.h hr.h hs,fun dl H σ q Q R rd hq k=>he.s dl H σ q _ _ rd hq fun v t F H0 e0 r0 f0 n0 hz=>hr.s dl H0 σ q _ _ (rd.evo e0) hz fun vs ts G H1 e1 r1 l1 hz=>k (v::vs) (t::ts) v t F H1 (e0.trans e1) (by simp[r1.r.len]) rfl rfl (r0.evo e0.d e1) n0 f0 (fun n v t ne h1 h2=>by
  cases n with
  | zero=>exact absurd rfl ne
  | succ n=>exact⟨r1.r.im1 hz.1 n v t (by simpa using h1) (by simpa using h2),fun _ z=>nomatch z⟩) hz.2⟩
theorem vS(he:QPE X K e te qe)(hr:BS X K es tl j ql)(hs:starEach (e::es) X.env =(false,eval e X.env)::starEach es X.env:=by rfl):BS X K (e::es) (bP te tl) (j+1) (fun q Q=>qe q fun t=>t.im=true/\ql q fun ts=>Q (t::ts)) :=
 ⟨a8 he.h hr.h hs,fun dl H σ q Q R rd hq k=>he.s dl H σ q _ _ rd hq fun v t F H1 e1 r1 hz=>hr.s dl H1 σ q _ _ (rd.evo e1) hz.2 fun vs ts v0 t0 F0 H2 e2 l2 hj ht r0 n0 f0 ho z=>by
  have r2:=r1.evo e1.d e2;obtain rfl:=r1.r.im hz.1;exact k (v::vs) (t::ts) v0 t0 F0 H2 (e1.trans e2) (by simp[l2]) (by simpa using hj) (by simpa using ht) r0 n0 (fun b hb=>e1.free (f0 b hb)) (fun n w u ne h1 h2=>by
   cases n with
   | zero=>simp at h1 h2;subst h1 h2;exact r2
   | succ n=>exact ho n w u (fun z=>ne (by rw[z])) (by simpa using h1) (by simpa using h2)) z⟩
def Aa(j:Nat)(ps:vz)(ql:QA):QE:=fun q Q=>ql q fun ts=>∃ xs,ts[j]? = some (.l xs)/\∀ a,ps (ts.set j (.lp a xs)) fun r _=>Q r
theorem xK(ha:BS X K es tl j ql):iO K (j7 (spL K j ps) [] E0 tl) (Aa j ps ql):=fun dl H σ q Q R rd hq k=>ha.s dl H σ q _ _ rd hq fun vs ts v0 t0 F0 H1 e1 l1 hj ht r0 n0 f0 ho hz=>by
 obtain⟨xs,ex,hz⟩:=hz;rw[ht]at ex;cases ex;obtain⟨a,us,G,rfl,rfl,h1,h2⟩:=r0.r.lst;have hjl:j<ts.length:=(List.getElem?_eq_some_iff.mp ht).1;show spL K j ps (vs ++ []) H1 _ _;rw[List.append_nil];refine⟨dl,ts.set j (.lp a xs),.ref a,.lp a xs,a::G,_,e1.d,by simp[l1],hj,List.getElem?_set_self hjl,⟨.lp h1 h2,r0.n⟩,n0,fun n v u ne h1 h2=>ho n v u ne h1 (by rwa [List.getElem?_set_ne (fun z=>ne z.symm)]at h2),hz a,fun v' rr Fr t' F' H' le r' n' hF' rv nv hFr dj hw'=>?_⟩
 have out:∀{b:Addr}{o:HO},H b=some o->b ∉ a::G:=fun h z=>by rw[f0 _ z]at h;cases h
 have ev:Evo dl H H':=⟨fun b o h n nr=>le.k b o (e1.k b o h n nr) (out h) n nr,le.d,fun b x h=>let⟨y,hy,e2⟩:=e1.r b x h;let⟨z,hz,e3⟩:=le.r b y e2 (out h);⟨z,Int.le_trans hz hy,e3⟩⟩
 exact k v' rr Fr H' ev rv (fun b hb=>(hFr b hb).elim (f0 b) e1.free) nv hw'
theorem zV(G:bc X.prog X.w X.K X.mg X.base CX0 k f fd prs (spL K j ps))(hr:cn k' X.A)(D:Dn X.K X.mg x st f fd prs)(ha:BS X K (e::es) tl j ql)(hk:k<=k':=by first|decide|omega)(hg:Gl X x:=by exact rfl)
  (hdb:(x ==("__debug__":Str))=false:=by decide) (he:starEach (e::es) X.env =(false,eval e X.env)::starEach es X.env:=by rfl) (hpl:(backTo pos (starEach es X.env)).any (·.1)=false:=by rfl) :
  QPF X K (.Call (.Name x p) (e::es) [] pos) (j7 (spL K j ps) [] E0 tl) (Aa j ps ql):=⟨kM G (hr.mono hk) hg D.m D.F.kp D.b .nil rV ha.h hdb he hpl,xK ha⟩
end
variable{elts:List Expr}{pos':Pos}
section
variable{X:Cx}{K:W.Frag}{a b:Expr}{ta tb:TE}{qa qb:QE}{pos p:Pos}
def zK:R2:=fun x y H Q=>∃ l b xs zs,x = .ref l/\y = .ref b/\Rd H l (.lst xs)/\Rd H b (.lst zs)/\xs.length+zs.length<=sizeLine/\∀ p,H p=none->Q (.ref p) (upd H p (.lst (xs++zs)))
theorem DF:OpR X (binaryOp .Add) zK:=by
 intro gV s σ H x y v u Q I rx ry h;obtain⟨l,b,xs,zs,rfl,rfl,hH,hB,hz,q⟩:=h;cases rx;cases ry;obtain⟨z,its,n,r,e⟩:=(show aV X.prog X.w H s.heap l (.lst xs)from hH.ok I.hok);obtain⟨z2,bu,n2,r2,e2⟩:=(show aV X.prog X.w H s.heap b (.lst zs)from hB.ok I.hok);have hl:=r.length;have hl2:=r2.length;refine PySem.P.add_list e e2 ?_ (by rw[List.size_toArray,List.size_toArray];omega)
 have ea:its.toArray++bu.toArray =(its++bu).toArray:=by simp
 rw[ea];exact⟨.ref _,_,I.Kf (t':=s.toks) (r.append r2) (by rw[List.length_append];omega),rfl,q _ I.fresh⟩
theorem Rp.Ke{v:V}{t:T}{ts:List T}(r:Rp K dl H v t F)(h:t.lst=some ts):∃ p vs G,v = .ref p/\Rd H p (.lst vs)/\au K dl H vs ts G:=by
 cases t with
 | l xs=>cases h;obtain⟨p,vs,G,rfl,rfl,h1,h2⟩:=r.r.lst;exact⟨p,vs,G,rfl,.inl h1,h2⟩
 | zl xs=>cases h;obtain⟨p,o,vs,rfl,rfl,h1,h2⟩:=r.r.zls;exact⟨p,vs,[],rfl,.inr ⟨o,h1⟩,h2⟩
 | _=>cases h
def Fh:Q2:=fun t u Q=>∃ xs ys,t.lst=some xs/\u.lst=some ys/\xs.length+ys.length<=sizeLine/\T.ims xs=true/\T.ims ys=true/\Q (.l (xs++ys))
theorem zm:cM K zK Fh:=by
 intro dl H x y t u F G Q R D r1 r2 hq k;obtain⟨xs,ys,e1,e2,hl,i1,i2,hq⟩:=hq;obtain⟨p,vs,G1,rfl,h1,f1⟩:=r1.Ke e1;obtain⟨p',ws,G2,rfl,h2,f2⟩:=r2.Ke e2;obtain rfl:=f1.im i1;obtain rfl:=f2.im i2;refine⟨p,p',vs,ws,rfl,rfl,h1,h2,by rw[f1.len,f2.len];exact hl,fun p hp=>?_⟩
 have rs:Rps K dl H (vs++ws) _ ([] ++ []):=⟨f1.append f2,fun c hc=>nomatch hc⟩
 exact k _ _ _ _ ((Evo.refl D).new hp) (rs.lst D hp) (fun b hb=>by rw[List.mem_singleton.mp hb];exact hp) (by simp) hq
theorem vY(ha:QPE X K a ta qa)(hb:QPE X K b tb qb):QPF X K (.BinOp a .Add b pos) (tOp zK ta tb) (qOp Fh qa qb):=⟨bV DF ha.h hb.h,og zm ha.s hb.s⟩
def Ln(qa:QE):QJ:=fun q Q=>qa q fun t=>match t with | .l xs=>Q (fD xs) q | _=>False
theorem zR{x1}(hm:X.mg "enumerate" = none)(ha:QPF X K a ta qa)(hg:Gl X "enumerate":=by exact rfl)(hs:starEach [a] X.env = [(false,eval a X.env)]:=by rfl)(hs':starEach [a] X.env =(false,eval a X.env)::starEach [] X.env:=by rfl)(hK:X.K=K:=by rfl) :
  QPJ X K (.Tuple elts x1 pos') (.Call (.Name "enumerate" p) [a] [] pos) (nH K false (bP ta eD)) (Ln qa):=⟨i8 hK hg hm (by kernel_rfl) (a8 ha.h cH hs') hs,fun dl H₀ hs H σ q Q R ⟨F0,r0⟩ hq k=>ha.s dl H σ q _ _ r0.rd hq fun v t F H' e1 r f n hz=>by
 split at hz
 ·have r1:=(r0.evo e1).hold r fun j u hj b hb z=>(r0.dw hb).no (f b z)
  obtain⟨l1,vs1,G,rfl,rfl,h1,h2⟩:=r.r.lst;exact⟨l1,rfl,⟨vs1,SqL.of h1⟩,k _ _ _ H' q ⟨F0,r1⟩ l5 hz⟩
 ·exact hz.elim⟩
end
end L2
namespace K27
open PySem L2
def top(i:Nat):Stmt:=PySem.Challenge.pw_pursewright_k27_pieces_and_ways.main.body.getD i (.Pass ⟨0,0,0,0⟩)
abbrev e9:Stmt:=inClass (top 6) 0
theorem ou:aJ ["self","piece","above","arm"] ["self","piece","above","arm"] (ax e9):=⟨rfl,rfl,rfl,by decide +kernel,rfl,by decide +kernel,by decide +kernel⟩
abbrev fT:Stmt:=top 1
theorem fb:aJ ["functions","name","number","function"] ["functions","name"] (ax fT):=⟨rfl,rfl,rfl,by decide +kernel,rfl,by decide +kernel,by decide +kernel⟩
abbrev fU:Stmt:=top 3
theorem fc:aJ ["kinds","kind","name","makers"] ["kinds","kind"] (ax fU):=⟨rfl,rfl,rfl,by decide +kernel,rfl,by decide +kernel,by decide +kernel⟩
abbrev c9:Stmt:=top 4
theorem cP:aJ ["kinds","maker","name","makers"] ["kinds","maker"] (ax c9):=⟨rfl,rfl,rfl,by decide +kernel,rfl,by decide +kernel,by decide +kernel⟩
abbrev oy:Stmt:=top 7
theorem iY:aJ ["body","told","waiting","spot"] ["body"] (ax oy):=⟨rfl,rfl,rfl,by decide +kernel,rfl,by decide +kernel,by decide +kernel⟩
abbrev c8:Stmt:=top 8
theorem jy:aJ ["piece","number"] ["piece","number"] (ax c8):=⟨rfl,rfl,rfl,by decide +kernel,rfl,by decide +kernel,by decide +kernel⟩
abbrev lb:Stmt:=top 9
theorem xO:aJ ["body"] ["body"] (ax lb):=⟨rfl,rfl,rfl,by decide +kernel,rfl,by decide +kernel,by decide +kernel⟩
abbrev zt:Stmt:=top 10
theorem tI:aJ ["body","n","found","told"] ["body","n"] (ax zt):=⟨rfl,rfl,rfl,by decide +kernel,rfl,by decide +kernel,by decide +kernel⟩
abbrev ig:Stmt:=top 11
theorem rC:aJ ["program","f","n"] ["program","f","n"] (ax ig):=⟨rfl,rfl,rfl,by decide +kernel,rfl,by decide +kernel,by decide +kernel⟩
abbrev dU:Stmt:=top 12
theorem b9:aJ ["program","f","told","found","spot","kinds"] ["program","f"] (ax dU):=⟨rfl,rfl,rfl,by decide +kernel,rfl,by decide +kernel,by decide +kernel⟩
abbrev ij:Stmt:=top 13
theorem fS:aJ ["program","piece","arm","kinds","word","fields"] ["program","piece","arm","kinds"] (ax ij):=⟨rfl,rfl,rfl,by decide +kernel,rfl,by decide +kernel,by decide +kernel⟩
abbrev tR:Stmt:=top 15
theorem iZ:aJ ["_law_script","_law_base","_law_cells","_law_number","_law_cell"] ["_law_script","_law_base"] (ax tR):=⟨rfl,rfl,rfl,by decide +kernel,rfl,by decide +kernel,by decide +kernel⟩
abbrev tQ:Stmt:=top 16
theorem kH:aJ ["_law_deal_here","_law_many","_law_number","_law_one","_law_other"] ["_law_deal_here","_law_many"] (ax tQ):=⟨rfl,rfl,rfl,by decide +kernel,rfl,by decide +kernel,by decide +kernel⟩
abbrev ox:Stmt:=top 17
theorem bz:aJ ["_law_deal_here","_law_many","_law_letters","_law_core","_law_at","_law_turn","_law_found","_law_k","_law_own","_law_word","_law_near"] ["_law_deal_here","_law_many"] (ax ox):=⟨rfl,rfl,rfl,by decide +kernel,rfl,by decide +kernel,by decide +kernel⟩
abbrev oC:Stmt:=top 18
theorem bK:aJ ["_law_deal_here","_law_words_here","_law_form","_law_a","_law_b","_law_m","_law_found","_law_many","_law_made","_law_k","_law_makers","_law_j","_law_wide","_law_fields"] ["_law_deal_here","_law_words_here"] (ax oC):=⟨rfl,rfl,rfl,by decide +kernel,rfl,by decide +kernel,by decide +kernel⟩
abbrev tO:Stmt:=top 19
theorem kG:aJ ["_law_deal_here","_law_scope","_law_some","_law_found","_law_kind","_law_own"] ["_law_deal_here","_law_scope","_law_some"] (ax tO):=⟨rfl,rfl,rfl,by decide +kernel,rfl,by decide +kernel,by decide +kernel⟩
abbrev oF:Stmt:=top 20
theorem cj:aJ ["_law_deal_here","_law_world","_law_scope","_law_kind","_law_f","_law_kinds_here","_law_heads","_law_words_here","_law_own","_law_x","_law_maker","_law_fields","_law_names"] ["_law_deal_here","_law_world","_law_scope","_law_kind","_law_f"] (ax oF):=⟨rfl,rfl,rfl,by decide +kernel,rfl,by decide +kernel,by decide +kernel⟩
abbrev tT:Stmt:=top 21
theorem cp:aJ ["_law_deal_here","_law_world","_law_scope","_law_f","_law_room","_law_kinds_here","_law_heads","_law_words_here","_law_x","_law_kind","_law_makers","_law_arms","_law_maker","_law_fields","_law_more","_law_names"] ["_law_deal_here","_law_world","_law_scope","_law_f","_law_room"] (ax tT):=⟨rfl,rfl,rfl,by decide +kernel,rfl,by decide +kernel,by decide +kernel⟩
abbrev tU:Stmt:=top 22
theorem br:aJ ["_law_deal_here","_law_world","_law_scope","_law_f","_law_room","_law_kinds_here","_law_heads","_law_words_here","_law_kind","_law_form","_law_x","_law_coins","_law_word","_law_y","_law_other","_law_g","_law_names","_law_name","_law_makers","_law_maker","_law_fields"] ["_law_deal_here","_law_world","_law_scope","_law_f","_law_room"] (ax tU):=⟨rfl,rfl,rfl,by decide +kernel,rfl,by decide +kernel,by decide +kernel⟩
abbrev jz:Stmt:=top 23
theorem bf:aJ ["_law_deal_here","_law_most","_law_room","_law_words_here","_law_kinds_here","_law_heads","_law_own","_law_f","_law_many","_law_params","_law_functions","_law_head","_law_body_here"] ["_law_deal_here","_law_most","_law_room"] (ax jz):=⟨rfl,rfl,rfl,by decide +kernel,rfl,by decide +kernel,by decide +kernel⟩
abbrev oE:Stmt:=top 24
theorem zr:aJ ["_law_piece"] ["_law_piece"] (ax oE):=⟨rfl,rfl,rfl,by decide +kernel,rfl,by decide +kernel,by decide +kernel⟩
abbrev oB:Stmt:=top 25
theorem fR:aJ ["_law_body_here","_law_ahead","_law_counter","_law_n","_law_found","_law_arm","_law_inner_here"] ["_law_body_here","_law_ahead","_law_counter"] (ax oB):=⟨rfl,rfl,rfl,by decide +kernel,rfl,by decide +kernel,by decide +kernel⟩
abbrev tN:Stmt:=top 26
theorem CK:aJ ["_law_kinds_here","_law_maker"] ["_law_kinds_here","_law_maker"] (ax tN):=⟨rfl,rfl,rfl,by decide +kernel,rfl,by decide +kernel,by decide +kernel⟩
abbrev tL:Stmt:=top 28
theorem CJ:aJ ["_law_program_here","_law_name"] ["_law_program_here","_law_name"] (ax tL):=⟨rfl,rfl,rfl,by decide +kernel,rfl,by decide +kernel,by decide +kernel⟩
abbrev oG:Stmt:=top 29
theorem ck:aJ ["_law_program_here","_law_f","_law_path","_law_found","_law_n","_law_piece","_law_arm","_law_g","_law_kind","_law_maker","_law_names","_law_fields"] ["_law_program_here","_law_f","_law_path"] (ax oG):=⟨rfl,rfl,rfl,by decide +kernel,rfl,by decide +kernel,by decide +kernel⟩
abbrev oA:Stmt:=top 30
theorem cE:aJ ["_law_program_here","_law_f","_law_function","_law_paths_here","_law_found","_law_one","_law_n","_law_told","_law_bound_here","_law_due"] ["_law_program_here","_law_f"] (ax oA):=⟨rfl,rfl,rfl,by decide +kernel,rfl,by decide +kernel,by decide +kernel⟩
abbrev j8:Stmt:=top 31
theorem tJ:aJ ["_law_script","_law_deal_here","_law_program_here"] ["_law_script"] (ax j8):=⟨rfl,rfl,rfl,by decide +kernel,rfl,by decide +kernel,by decide +kernel⟩
set_option genInjectivity false in
structure Adr where
 aE:Addr
 bC:Addr
 gn:FuncData
 cz:Addr
 ke:FuncData
 cA:Addr
 kg:FuncData
 bx:Addr
 fF:FuncData
 gO:Addr
 wN:FuncData
 bw:Addr
 fE:FuncData
 eV:Addr
 sF:FuncData
 nJ:Addr
 FK:FuncData
 cS:Addr
 mj:FuncData
 bZ:Addr
 h9:FuncData
 cT:Addr
 ml:FuncData
 jS:Addr
 Bt:FuncData
 jR:Addr
 Bs:FuncData
 gN:Addr
 wM:FuncData
 gR:Addr
 wR:FuncData
 jQ:Addr
 Br:FuncData
 gT:Addr
 wV:FuncData
 jT:Addr
 Bu:FuncData
 iF:Addr
 u9:FuncData
 dv:Addr
 nL:FuncData
 gS:Addr
 wU:FuncData
 gQ:Addr
 wQ:FuncData
 jP:Addr
 Bq:FuncData
 jO:Addr
 Bp:FuncData
 f_bound:Addr
 wW:FuncData
 gP:Addr
 wO:FuncData
 nK:Addr
 FL:FuncData
structure Txt(K:W.Frag)(mg:Str->Option Value)(a:Adr):Prop where
 cq:Cls K a.aE
 pH:mg "Spot" = some (.ref a.aE)
 pI:Mk K a.aE a.bC
 cV:d9 K a.aE "piece"
 bY:d9 K a.aE "above"
 ka:d9 K a.aE "arm"
 dR:Fun K "__init__" "Spot.__init__" e9 a.bC a.gn
 DV:Meth K a.aE "__init__" a.bC
 gx:Binds K a.gn ["self","piece","above","arm"] []
 kl:Dn K mg "number_of" fT a.cz a.ke ["functions","name"]
 km:Dn K mg "makers_of" fU a.cA a.kg ["kinds","kind"]
 fJ:Dn K mg "kind_of_maker" c9 a.bx a.fF ["kinds","maker"]
 kR:Dn K mg "spots" oy a.gO a.wN ["body"]
 fI:Dn K mg "spots_beneath" c8 a.bw a.fE ["piece","number"]
 mM:Dn K mg "pieces" lb a.eV a.sF ["body"]
 B3:Dn K mg "way" zt a.nJ a.FK ["body","n"]
 iS:Dn K mg "kinds_at" ig a.cS a.mj ["program","f","n"]
 ib:Dn K mg "kinds_ahead" dU a.bZ a.h9 ["program","f"]
 mP:Dn K mg "bound_by" ij a.cT a.ml ["program","piece","arm","kinds"]
 q9:Dn K mg "_law_deal" tR a.jS a.Bt ["_law_script","_law_base"]
 aX:Dn K mg "_law_draw" tQ a.jR a.Bs ["_law_deal_here","_law_many"]
 xq:Dn K mg "_law_words" ox a.gN a.wM ["_law_deal_here","_law_many"]
 xt:Dn K mg "_law_kinds" oC a.gR a.wR ["_law_deal_here","_law_words_here"]
 mO:Dn K mg "_law_fill" tO a.jQ a.Br ["_law_deal_here","_law_scope","_law_some"]
 q5:Dn K mg "_law_ended" oF a.gT a.wV ["_law_deal_here","_law_world","_law_scope","_law_kind","_law_f"]
 B5:Dn K mg "_law_case" tT a.jT a.Bu ["_law_deal_here","_law_world","_law_scope","_law_f","_law_room"]
 iT:Dn K mg "_law_body" tU a.iF a.u9 ["_law_deal_here","_law_world","_law_scope","_law_f","_law_room"]
 nV:Dn K mg "_law_program" jz a.dv a.nL ["_law_deal_here","_law_most","_law_room"]
 xu:Dn K mg "_law_inner" oE a.gS a.wU ["_law_piece"]
 qZ:Dn K mg "_law_paths" oB a.gQ a.wQ ["_law_body_here","_law_ahead","_law_counter"]
 vC:Dn K mg "_law_home" tN a.jP a.Bq ["_law_kinds_here","_law_maker"]
 B4:Dn K mg "_law_seat" tL a.jO a.Bp ["_law_program_here","_law_name"]
 xv:Dn K mg "_law_bound" oG a.f_bound a.wW ["_law_program_here","_law_f","_law_path"]
 xr:Dn K mg "_law_right" oA a.gP a.wO ["_law_program_here","_law_f"]
 LD:Dn K mg "law" j8 a.nK a.FL ["_law_script"]
 cC:mg "len" = none
 FQ:mg "all" = none
 fA:mg "list" = none
 cL:mg "tuple" = none
 BN:mg "int" = none
 gw:mg "dict" = none
 iJ:mg "reversed" = none
 w6:mg "max" = none
 dQ:mg "range" = none
 du:mg "isinstance" = none
 FP:mg "zip" = none
 c6:mg "enumerate" = none
def pJ:Str:="abcdefghijklmnopqrstuvwxyz"
def sx:List Str:=["kind","def","to","let","make","call"]
def hW:List Str:=["name","case","end","pay","get","give"]
def kept:List Str:=sx++hW
def near:List Str:=["lets","callx","payer","ender","tom","nameb","makes","gets","giver","kinds","defs","cases"]
theorem wx{i:Int}(h0:0<=i)(h1:i<26):atI (Str.cps pJ).toList i=some (kq i.toNat):=by
 obtain⟨n,rfl⟩:∃ n:Nat,i=n:=⟨i.toNat,by omega⟩
 have h2:n<26:=by omega
 have h3:∀ n:Fin 26,atI (Str.cps pJ).toList (n.val:Int)=some (kq n.val):=by decide +kernel
 have:=h3 ⟨n,h2⟩
 simpa using this
theorem AH:∀ w∈near,1<=w.length/\w.length<=20:=by decide +kernel
def tM(m:Mk1):T:=.t [.s m.1,.t (m.2.map .s)]
def tMs(ms:List Mk1):T:=.t (ms.map tM)
def tK(k:Kd):T:=.t [.s k.1,tMs k.2]
def tKs(ks:List Kd):T:=.t (ks.map tK)
def Al:PSp:=fun ts Q=>∃(ks:List Kd)(k:Str),ts = [tKs ks,.s k]/\Q (tMs (ko ks k))
theorem aT{α:Type}{f:α->T}(h:∀ x,(f x).im=true):∀ xs:List α,T.ims (xs.map f)=true
 | []=>by simp[T.ims]
 | x::r=>by simp[T.ims,h x,aT h r]
theorem nE(m:Mk1):(tM m).im=true:=by simp[tM,T.im,T.ims,aT (f:=T.s) (fun _=>rfl)]
theorem l7(m:List Mk1):(tMs m).im=true:=by simp[tMs,T.im,aT nE]
theorem nF(m:Kd):(tK m).im=true:=by simp[tK,T.im,T.ims,l7]
theorem qf(m:List Kd):(tKs m).im=true:=by simp[tKs,T.im,aT nF]
def Dc:PSp:=fun ts Q=>∃ m:Int,ts = [.cN,.i m]/\0<m/\m<=52/\∀ ws:List Str,(ws.length:Int)=m->ws.Nodup ->(∀ w∈ws,1<=w.length/\w.length<=20)->Q (.l (ws.map .s))
variable{ws:List Str}
theorem dB{w:Str}:inT (.s w) (ws.map T.s)=inV (.str w) (ws.map V.str):=by
 unfold inT inV;rw[List.any_map,List.any_map];rfl
theorem jk(ws:List Str):fls (ws.map T.s)=true:=by
 unfold fls;rw[List.all_map,List.all_eq_true];exact fun _ _=>rfl
theorem aS(ws:List Str):T.ims (ws.map T.s)=true:=aT (fun _=>rfl) ws
theorem noq{w z:Str}(h:z∈hW):w++("q":Str)≠z:=by
 intro e;have h1:(w++("q":Str)).cps.toList.getLast? = some 113:=by simp[Str.cps_append,show(Str.ofString "q").cps = #[113]from by decide +kernel]
 rw[e]at h1;have h2:∀ z∈hW,z.cps.toList.getLast? ≠ some 113:=by decide +kernel
 exact h2 z h h1
theorem Hj{w:Str}:inV (.str (w++("q":Str))) (hW.map V.str)=false:=by
 cases e:inV (.str (w++("q":Str))) (hW.map V.str)with
 | false=>rfl
 | true=>exact absurd rfl (noq (w:=w) (wC.mp e))
theorem iC{w:Str}:inV (.str w) (kept.map V.str) =(inV (.str w) (sx.map V.str)||inV (.str w) (hW.map V.str)):=by
 unfold kept inV;rw[List.map_append,List.any_append]
theorem EK{i:Int}(h0:0<=i)(h1:i<ws.length):∃ w,atI (ws.map T.s) i=some (.s w)/\w∈ws:=by
 obtain⟨v,e,hm⟩:=Ie (xs:=ws.map T.s) h0 (by simpa using h1)
 obtain⟨w,hw,rfl⟩:=List.mem_map.mp hm;exact⟨w,e,hw⟩
structure xg(ks:List Kd):Prop where
 k1:1<=ks.length
 k2:ks.length<=3
 nd:(ks.map (·.1)).Nodup
 mn:(names ks).Nodup
 ne:∀ k∈ks,k.2 ≠ []/\k.2.length<=6
 fl:∀ k∈ks,∀ m∈k.2,m.2.length<=4/\∀ f∈m.2,f∈ks.map (·.1)
def Dg:PSp:=fun ts Q=>∃ ws:List Str,ts = [.cN,.l (ws.map .s)]/\ws.length=40/\ws.Nodup/\∀ ks,xg ks ->(∀ m∈names ks,m∈ws)->Q (tKs ks)
variable{j:Nat}
theorem dA{w:Str}(h:ws[j]? = some w):atI (ws.map T.s) (j:Int)=some (.s w):=bE (by rw[List.getElem?_map,h];rfl)
theorem K8(h:ws.length=40):cZ (ws.map T.s) (some 4) none++cZ (ws.map T.s) none (some 4) =(ws.drop 4++ws.take 4).map T.s:=by
 unfold cZ;have e1:HT.sIx (ws.map T.s).length 0 (some 4)=4:=by rw[List.length_map,h];rfl
 have e2:HT.sIx (ws.map T.s).length (ws.map T.s).length (some 4)=4:=by rw[List.length_map,h];rfl
 rw[e1,e2];show(List.drop 4 (ws.map T.s)).take ((ws.map T.s).length - 4)++(List.drop 0 (ws.map T.s)).take (4 - 0)=_;rw[List.take_of_length_le (by rw[List.length_drop];omega),List.drop_zero,List.map_append,List.map_drop,List.map_take]
theorem Bx{α β:Type}(f:α->β)(xs:List α)(lo hi:Option Int):cZ (xs.map f) lo hi =(cZ xs lo hi).map f:=by
 unfold cZ;rw[List.length_map,<- List.map_drop,<- List.map_take]
theorem wF(ws:List Str)(lo hi:Option Int):T.ims (cZ (ws.map T.s) lo hi)=true:=by rw[Bx];exact aS _
theorem JM(x y:Int)(b:Bool):atI [T.i x,T.i y] (if b=true then 1 else 0)=some (.i (if b=true then y else x)):=by cases b <;> rfl
theorem Fm{x y z r:Int}(h0:0<=r)(h1:r<3):∃ v,atI [T.i x,T.i y,T.i z] r=some (.i v)/\(v=x\/v=y\/v=z):=by
 obtain⟨n,rfl⟩:∃ n:Nat,r=n:=⟨r.toNat,by omega⟩
 match n,h1 with
 | 0,_=>exact⟨x,rfl,.inl rfl⟩
 | 1,_=>exact⟨y,rfl,.inr (.inl rfl)⟩
 | 2,_=>exact⟨z,rfl,.inr (.inr rfl)⟩
 | n+3,h=>omega
theorem leK(a b:Nat)(h:Nat.ble a b=true:=by rfl):a<=b:=Nat.le_of_ble_eq_true h
theorem vm{α:Type}{p:α->Prop}:∀ x∈([]:List α),p x:=fun _ h=>absurd h List.not_mem_nil
theorem all1{α:Type}{p:α->Prop}{a:α}(h:p a):∀ x ∈ [a],p x:=fun _ hx=>List.mem_singleton.mp hx▸h
theorem all2{α:Type}{p:α->Prop}{a b:α}(h:p a)(h2:p b):∀ x ∈ [a,b],p x:=fun x hx=>(List.mem_cons.mp hx).elim (fun e=>e▸h) (all1 h2 x)
theorem NM{α:Type}{p:α->Prop}{a b c:α}(h:p a)(h2:p b)(h3:p c):∀ x ∈ [a,b,c],p x:=fun x hx=>(List.mem_cons.mp hx).elim (fun e=>e▸h) (all2 h2 h3 x)
structure mF(ws M:List Str)(many:Nat)(ks:List Kd)(k made:Nat):Prop where
 nm:ks.map (·.1)=ws.take k
 mn:names ks=M.take made
 b1:made<=6*k
 ne:∀ k∈ks,k.2 ≠ []/\k.2.length<=6
 fl:∀ k∈ks,∀ m∈k.2,m.2.length<=4/\∀ f∈m.2,f∈ws.take many
variable{ks:List Kd}{ms:List Mk1}
theorem mF.next{M:List Str}{many:Nat}{k made dz:Nat}{n:Str}(D:mF ws M many ks k made)(hn:ws[k]? = some n)(hm:M.take made++ms.map (·.1)=M.take dz)(h0:ms ≠ [])(h1:ms.length<=6)(h2:dz<=made+ms.length)(h3:∀ m∈ms,m.2.length<=4/\∀ f∈m.2,f∈ws.take many) :
  mF ws M many (ks ++ [(n,ms)]) (k+1) dz where
 nm:=by rw[List.map_append,D.nm,<- take_one hn];rfl
 mn:=by
  have:names (ks ++ [(n,ms)])=names ks++ms.map (·.1):=by unfold names;rw[List.flatMap_append];simp
  rw[this,D.mn,hm]
 b1:=by have:=D.b1;omega
 ne:=fun x hx=>by
  rcases List.mem_append.mp hx with h|h
  ·exact D.ne x h
  ·rw[List.mem_singleton.mp h];exact⟨h0,h1⟩
 fl:=fun x hx=>by
  rcases List.mem_append.mp hx with h|h
  ·exact D.fl x h
  ·rw[List.mem_singleton.mp h];exact h3
theorem mF.good{M:List Str}{many:Nat}{made:Nat}(D:mF ws M many ks many made)(hw:ws.Nodup)(hM:M.Nodup)(h1:1<=many)(h2:many<=3)(hl:3<=ws.length):xg ks:=by
 have hlen:ks.length=many:=by
  have:=congrArg List.length D.nm
  rw[List.length_map,List.length_take]at this;omega
 refine⟨by omega,by omega,by rw[D.nm];exact hw.sublist (List.take_sublist _ _),by rw[D.mn];exact hM.sublist (List.take_sublist _ _),D.ne,fun k hk m hm=>?_⟩
 have z:=D.fl k hk m hm;rw[D.nm];exact z
theorem qd{a b:Str}:decide ((Sum.inr a:Key) = .inr b)=decide (a=b):=by
 by_cases h:a=b
 ·subst h;simp
 ·rw[decide_eq_false h,decide_eq_false fun z=>h (Sum.inr.inj z)]
variable{P:Program}{mg:Str->Option Value}{base:Heap}
theorem never{w:World}{K:W.Frag}{CX:CXT}{k:Nat}{f:Addr}{fd:FuncData}{ps:List Str}{sp:PSp}(h:∀ ts Q,¬ sp ts Q):bc P w K mg base CX k f fd ps (spQ K sp) :=
 ⟨fun _ _ _ _ hz=>by obtain⟨_,ts,_,Qp,_,_,z,_⟩:=hz;exact(h ts Qp z).elim,fun _ _ _ _ _ _ _ _ _ _ _ _ _ hz=>by obtain⟨_,ts,_,Qp,_,_,z,_⟩:=hz;exact(h ts Qp z).elim⟩
def kEn(k:Kd):Key×T:=(.inr k.1,tMs k.2)
theorem jc:∀ ks:List Kd,cR (ks.map tK)=some (ks.map kEn)
 | []=>rfl
 | k::r=>by
  show(match(some (.inr k.1):Option Key),cR (r.map tK)with|some k',some r=>some ((k',tMs k.2)::r) | _,_=>none)=_
  rw[jc r];rfl
theorem lP:∀{ps acc:List (Key×T)},(ps.map (·.1)).Nodup ->(∀ p∈ps,∀ q∈acc,q.1≠p.1)->bL acc ps=acc++ps
 | [],acc,_,_=>by simp[bL]
 | p::ps,acc,h,hd=>by
  have h':=List.nodup_cons.mp h;have e:xU acc p.1 p.2=acc ++ [p]:=by
   unfold xU;rw[if_neg];intro z;obtain⟨q,hq,hz⟩:=List.any_eq_true.mp z;exact hd p (by simp) q hq (of_decide_eq_true hz)
  show bL (xU acc p.1 p.2) ps=_;rw[e,lP h'.2 fun p' hp' q hq=>?_]
  ·simp
  ·rcases List.mem_append.mp hq with z|z
   ·exact hd p' (by simp[hp']) q z
   ·rw[List.mem_singleton.mp z];exact fun e=>h'.1 (List.mem_map.mpr ⟨p',hp',e.symm⟩)
theorem DY{k:Str}(h:k∈ks.map (·.1)):cc (ks.map kEn) (.inr k)=some (tMs (ko ks k)):=by
 unfold cc ko
 induction ks with
 | nil=>cases h
 | cons x r ih =>
  by_cases e:x.1=k
  ·rw[List.map_cons,List.find?_cons,List.find?_cons,show(kEn x).1 = .inr x.1 from rfl,qd,decide_eq_true e];rfl
  ·have h':k∈r.map (·.1):=by
    rcases List.mem_cons.mp h with z|z
    ·exact absurd z.symm e
    ·exact z
   rw[List.map_cons,List.find?_cons,List.find?_cons,show(kEn x).1 = .inr x.1 from rfl,qd,decide_eq_false e];exact ih h'
theorem En(h:(ks.map (·.1)).Nodup):bL [] (ks.map kEn)=ks.map kEn:=by
 rw[lP]
 ·rfl
 ·rw[List.map_map]
  have:(ks.map ((fun x:Key×T=>x.1) ∘ kEn)) =(ks.map (·.1)).map Sum.inr:=by rw[List.map_map];rfl
  rw[this];exact List.pairwise_map.mpr (h.imp fun hne z=>hne (Sum.inr.inj z))
 ·intro p _ q hq;cases hq
theorem jJ{k:Str}(g:(ks.map (·.1)).Nodup)(h:k∈ks.map (·.1)):cc (bL [] (ks.map kEn)) (.inr k)=some (tMs (ko ks k)):=by rw[En g,DY h]
structure mG(ks:List Kd):Prop where
 k1:1<=ks.length
 k2:ks.length<=6
 nd:(ks.map (·.1)).Nodup
 mn:(names ks).Nodup
 ne:∀ k∈ks,k.2 ≠ []/\k.2.length<=6
 fl:∀ k∈ks,∀ m∈k.2,m.2.length<=4/\∀ f∈m.2,f∈ks.map (·.1)
theorem Ic{r:Int}(h0:0<=r)(h1:r.toNat<ws.length):atI (ws.map L2.T.s) r=some (.s ws[r.toNat]):=by
 have:=dA (ws:=ws) (j:=r.toNat) (w:=ws[r.toNat]) (by simp[h1])
 rwa [Int.toNat_of_nonneg h0]at this
abbrev Sc:=List (Str×Str)
def tP(p:Str×Str):T:=.t [.s p.1,.s p.2]
theorem dM(p:Str×Str):(tP p).im=true:=rfl
def Fills(sc:Sc)(ns fs:List Str):Prop:=ns.length=fs.length/\∀ p∈ns.zip fs,p∈sc
variable{sc:Sc}{ns:List Str}
theorem Fills.snoc{fs:List Str}{n f:Str}(h:Fills sc ns fs)(hp:(n,f)∈sc):Fills sc (ns ++ [n]) (fs ++ [f]):=by
 refine⟨by simp[h.1],fun p hp'=>?_⟩
 rw[List.zip_append h.1]at hp';rcases List.mem_append.mp hp' with z|z
 ·exact h.2 p z
 ·simp at z;rw[z];exact hp
def ud:PSp:=fun ts Q=>∃(sc:Sc)(fs:List Str)(t:T),(t = .t (fs.map .s)\/t = .l (fs.map .s))/\ts = [.cN,.l (sc.map tP),t]/\sc.length<=60/\fs.length<=1000/\Q .n/\∀ ns:List Str,Fills sc ns fs->Q (.t (ns.map .s))
abbrev Hd:=Str×Sc×Str
def tH(h:Hd):T:=.t [.s h.1,.t (h.2.1.map tP),.s h.2.2]
theorem Kw(h:Hd):(tH h).im=true:=by
 show(true&&(T.ims (h.2.1.map tP)&&true))=true;rw[aT dM];rfl
def tW(ks:List Kd)(hs:List Hd)(ws:List Str):T:=.t [tKs ks,.l (hs.map tH),.l (ws.map .s)]
structure Wld(ks:List Kd)(hs:List Hd)(ws:List Str):Prop where
 gk:mG ks
 wl:ws.length=40
 wn:ws.Nodup
 h1:1<=hs.length
 h8:hs.length<=8
 hn:(hs.map (·.1)).Nodup
 hp:∀ h∈hs,h.2.1.length<=4/\(∀ p∈h.2.1,p.2∈ks.map (·.1))/\h.2.1.map (·.1)=ws.take h.2.1.length/\h.2.2∈ks.map (·.1)
structure mD(ks:List Kd)(ws:List Str)(h:Hd)(sc:Sc):Prop where
 nm:sc.map (·.1)=ws.take sc.length
 ln:sc.length<=30
 kd:∀ p∈sc,p.2∈ks.map (·.1)
 p1:h.2.1.length<=sc.length
 pf:sc.take h.2.1.length=h.2.1
abbrev Arm:=Str×List Str×T×Nat
def tA(a:Arm):T:=.t [.s a.1,.t (a.2.1.map .s),a.2.2.1]
inductive Snd(ks:List Kd)(hs:List Hd)(r:Str):Nat->Sc->T->Prop
 | give{sc:Sc}{x:Str}:(x,r)∈sc->Snd ks hs r 1 sc (.t [.s "give",.s x])
 | cO{n:Nat}{sc:Sc}{w:Str}{c:Int}{b:T}:(w = "pay" \/ w = "get")->Snd ks hs r n sc b->Snd ks hs r (n+1) sc (.t [.s w,.i c,b])
 | name{n:Nat}{sc:Sc}{x y k:Str}{b:T}:(y,k)∈sc->x ∉ sc.map (·.1)->Snd ks hs r n (sc ++ [(x,k)]) b->Snd ks hs r (n+1) sc (.t [.s "name",.s x,.s y,b])
 | make{n:Nat}{sc:Sc}{x:Str}{m:Mk1}{kd:Kd}{ns:List Str}{b:T}:kd∈ks->m∈kd.2->Fills sc ns m.2->x ∉ sc.map (·.1)->Snd ks hs r n (sc ++ [(x,kd.1)]) b->Snd ks hs r (n+1) sc (.t [.s "make",.s x,.s m.1,.t (ns.map .s),b])
 | call{n:Nat}{sc:Sc}{x:Str}{h:Hd}{ns:List Str}{b:T}:h∈hs->Fills sc ns (h.2.1.map (·.2))->x ∉ sc.map (·.1)->Snd ks hs r n (sc ++ [(x,h.2.2)]) b->Snd ks hs r (n+1) sc (.t [.s "call",.s x,.s h.1,.t (ns.map .s),b])
 | case{sc:Sc}{x:Str}{kd:Kd}(arms:List Arm):(x,kd.1)∈sc->kd∈ks->arms.map (·.1)=kd.2.map (·.1) ->
   (∀(i:Nat)(a:Arm)(m:Mk1),arms[i]? = some a->kd.2[i]? = some m->a.2.1.length=m.2.length/\(sc.map (·.1)++a.2.1).Nodup) ->
   (∀(i:Nat)(a:Arm)(m:Mk1),arms[i]? = some a->kd.2[i]? = some m->Snd ks hs r a.2.2.2 (sc++a.2.1.zip m.2) a.2.2.1) ->
   Snd ks hs r (1+(arms.map (·.2.2.2)).sum) sc (.t [.s "case",.s x,.t (arms.map tA)])
theorem Snd.im{ks:List Kd}{hs:List Hd}{r:Str}{n:Nat}{sc:Sc}{b:T}(h:Snd ks hs r n sc b):b.im=true:=by
 induction h with
 | give _=>rfl
 | cO _ _ ih=>show(true&&(true&&(T.im _&&true)))=true;rw[ih];rfl
 | name _ _ _ ih=>show(true&&(true&&(true&&(T.im _&&true))))=true;rw[ih];rfl
 | make _ _ _ _ _ ih=>show(true&&(true&&(true&&(T.ims _&&(T.im _&&true)))))=true;rw[ih,aS];rfl
 | call _ _ _ _ ih=>show(true&&(true&&(true&&(T.ims _&&(T.im _&&true)))))=true;rw[ih,aS];rfl
 | @case sc x kd arms _ _ hn _ _ ih =>
  show(true&&(true&&(T.ims (arms.map tA)&&true)))=true
  have:T.ims (arms.map tA)=true:=by
   have go:∀(l:List T),(∀ t∈l,t.im=true)->T.ims l=true:=by
    intro l
    induction l with
    | nil=>intro _;rfl
    | cons t r ih=>intro h;show(t.im&&T.ims r)=true;rw[h t List.mem_cons_self,ih fun t ht=>h t (List.mem_cons_of_mem _ ht)];rfl
   refine go _ fun t ht=>?_
   obtain⟨a,ha,rfl⟩:=List.mem_map.mp ht;obtain⟨i,hi,e⟩:=List.getElem_of_mem ha;have hl:kd.2.length=arms.length:=by have:=congrArg List.length hn;simpa using this.symm
   have z:=ih i a (kd.2[i]'(by omega)) (by rw[List.getElem?_eq_getElem hi,e]) (List.getElem?_eq_getElem _)
   show(true&&(T.ims (a.2.1.map .s)&&(a.2.2.1.im&&true)))=true;rw[z,aS];rfl
  rw[this];rfl
def tb:Nat->List Nat
 | 0=>[2]
 | n+1=>(1+max ((tb n).getD 0 2) (max ((tb n).getD 1 2) (max (2*(tb n).getD 2 2) (max (3*(tb n).getD 3 2) (max (4*(tb n).getD 4 2) (max (5*(tb n).getD 5 2) (6*(tb n).getD 6 2)))))))::tb n
def sz(n:Nat):Nat:=(tb n).getD 0 2
theorem fN:∀ n k:Nat,(tb n).getD k 2=sz (n - k)
 | 0,0=>rfl
 | 0,k+1=>by rw[Nat.zero_sub];rfl
 | n+1,0=>rfl
 | n+1,k+1=>by
  rw[Nat.add_sub_add_right,<- fN n k];rfl
theorem vJ(n:Nat):sz (n+1)=1+max (sz n) (max (sz (n - 1)) (max (2*sz (n - 2)) (max (3*sz (n - 3)) (max (4*sz (n - 4)) (max (5*sz (n - 5)) (6*sz (n - 6))))))):=by
 show 1+max ((tb n).getD 0 2) _=_;rw[fN,fN,fN,fN,fN,fN,fN];rfl
theorem tj(n:Nat):1+sz n<=sz (n+1):=by rw[vJ];omega
theorem y7:∀ n:Nat,2<=sz n
 | 0=>Nat.le_refl _
 | n+1=>by have:=tj n;have:=y7 n;omega
variable{n:Nat}
theorem Cn{k:Nat}(h1:1<=k)(h6:k<=6):1+k*sz (n - k)<=sz (n+1):=by
 rw[vJ]
 have:k=1\/k=2\/k=3\/k=4\/k=5\/k=6:=by omega
 rcases this with rfl|rfl|rfl|rfl|rfl|rfl <;> omega
theorem Cm{m:Nat}(h:n<=m):sz n<=sz m:=by
 induction h with
 | refl=>exact Nat.le_refl _
 | step _ ih=>exact Nat.le_trans ih (Nat.le_trans (Nat.le_add_left _ _) (tj _))
theorem IK:sz 30<=50000:=by decide +kernel
theorem so{kd:Kd}(g:(ks.map (·.1)).Nodup)(h:kd∈ks):ko ks kd.1=kd.2:=by
 unfold ko
 induction ks with
 | nil=>cases h
 | cons x r ih =>
  rw[List.map_cons,List.nodup_cons]at g;by_cases e:x.1=kd.1
  ·rcases List.mem_cons.mp h with z|z
   ·subst z;simp
   ·exact absurd (List.mem_map.mpr ⟨kd,z,e.symm⟩) g.1
  ·rw[List.find?_cons,decide_eq_false e];rcases List.mem_cons.mp h with z|z
   ·exact absurd (by rw[z]) e
   ·exact ih g.2 z
theorem Fz{k:Str}(h:k∈ks.map (·.1)):∃ kd∈ks,kd.1=k:=by
 obtain⟨kd,h1,h2⟩:=List.mem_map.mp h;exact⟨kd,h1,h2⟩
variable{x:Str}
theorem mD.fresh{h:Hd}(S:mD ks ws h sc)(wn:ws.Nodup)(hx:ws[sc.length]? = some x):x ∉ sc.map (·.1):=by
 rw[S.nm];intro z;have q:=wn.sublist (List.take_sublist (sc.length+1) ws);rw[<- take_one hx]at q;exact(List.nodup_append.mp q).2.2 x z x (by simp) rfl
theorem mD.snoc{h:Hd}{k:Str}(S:mD ks ws h sc)(hx:ws[sc.length]? = some x)(hl:sc.length<30)(hk:k∈ks.map (·.1)):mD ks ws h (sc ++ [(x,k)]) where
 nm:=by rw[List.map_append,S.nm,List.length_append];exact take_one hx
 ln:=by rw[List.length_append];simp;omega
 kd:=fun p hp=>by
  rcases List.mem_append.mp hp with z|z
  ·exact S.kd p z
  ·rw[List.mem_singleton.mp z];exact hk
 p1:=by rw[List.length_append];have:=S.p1;omega
 pf:=by rw[List.take_append_of_le_length S.p1];exact S.pf
def kK:PSp:=fun ts Q=>∃(ks:List Kd)(hs:List Hd)(ws:List Str)(sc:Sc)(f:Nat)(h:Hd),ts = [.cN,tW ks hs ws,.l (sc.map tP),.s h.2.2,.i f]/\Wld ks hs ws/\hs[f]? = some h/\mD ks ws h sc/\∀ n b,n<=2->Snd ks hs h.2.2 n sc b->Dep 2 b->Q b
def ip(N:Nat):PSp:=fun ts Q=>∃(ks:List Kd)(hs:List Hd)(ws:List Str)(sc:Sc)(f:Nat)(h:Hd)(u:Int),ts = [.cN,tW ks hs ws,.l (sc.map tP),.i f,.rm u]/\Wld ks hs ws/\hs[f]? = some h/\mD ks ws h sc/\sc.length<=21/\u.toNat<N/\∀ n b,n<=sz u.toNat->Snd ks hs h.2.2 n sc b->Dep (3*u.toNat+2) b->Q b
def GU(N:Nat):PSp:=fun ts Q=>∃(ks:List Kd)(hs:List Hd)(ws:List Str)(sc:Sc)(f:Nat)(h:Hd)(u:Int),ts = [.cN,tW ks hs ws,.l (sc.map tP),.i f,.rm u]/\Wld ks hs ws/\hs[f]? = some h/\mD ks ws h sc/\sc.length<=17/\sc ≠ []/\u.toNat<N/\∀ n b,n<=sz (u.toNat+1)->Snd ks hs h.2.2 n sc b->Dep (3*u.toNat+5) b->Q b
theorem Bv{α:Type}{xs:List α}(h:n<=xs.length):cZ xs none (some (n:Int))=xs.take n:=by
 unfold cZ;rw[HT.zu,HT.CL,Nat.min_eq_left h,List.drop_zero,Nat.sub_zero]
theorem Fills.self:Fills sc ((sc.take n).map (·.1)) ((sc.take n).map (·.2)):=by
 refine⟨by simp,fun p hp=>?_⟩
 rw[List.zip_map',List.mem_map]at hp;obtain⟨q,hq,rfl⟩:=hp;exact List.mem_of_mem_take hq
theorem vD{fs:List Str}(h:ns.length=fs.length):(ns.zip fs).map (·.1)=ns:=by
 rw[List.map_fst_zip (by omega)]
theorem mD.more{h:Hd}{fs:List Str}(S:mD ks ws h sc)(wn:ws.Nodup)(e:ns =(ws.drop sc.length).take fs.length)(hl:sc.length+fs.length<=30)(hw:40<=ws.length)(hk:∀ f∈fs,f∈ks.map (·.1)) :
  ns.length=fs.length/\(sc.map (·.1)++ns).Nodup/\mD ks ws h (sc++ns.zip fs):=by
 have l1:ns.length=fs.length:=by rw[e,List.length_take,List.length_drop];omega
 have e2:sc.map (·.1)++ns=ws.take (sc.length+fs.length):=by rw[S.nm,e,List.take_add]
 have lz:(ns.zip fs).length=fs.length:=by rw[List.length_zip];omega
 refine⟨l1,by rw[e2];exact wn.sublist (List.take_sublist _ _),⟨?_,?_,fun p hp=>?_,?_,?_⟩⟩
 ·rw[List.map_append,vD l1,e2,List.length_append,lz]
 ·rw[List.length_append,lz];omega
 ·rcases List.mem_append.mp hp with z|z
  ·exact S.kd p z
  ·exact hk p.2 (List.of_mem_zip z).2
 ·rw[List.length_append];have:=S.p1;omega
 ·rw[List.take_append_of_le_length S.p1];exact S.pf
variable{arms:List Arm}{B:Nat}
theorem Gd(h:∀ a∈arms,a.2.2.2<=B):(arms.map (·.2.2.2)).sum<=arms.length*B:=by
 induction arms with
 | nil=>simp
 | cons a r ih =>
  have h1:=h a List.mem_cons_self;have h2:=ih fun b hb=>h b (List.mem_cons_of_mem _ hb)
  rw[List.map_cons,List.sum_cons,List.length_cons,Nat.add_mul];omega
structure FZ(ks:List Kd)(hs:List Hd)(r:Str)(sc:Sc)(B D:Nat)(a:Arm)(m:Mk1):Prop where
 nm:a.1=m.1
 ln:a.2.1.length=m.2.length
 nd:(sc.map (·.1)++a.2.1).Nodup
 sn:Snd ks hs r a.2.2.2 (sc++a.2.1.zip m.2) a.2.2.1
 sz:a.2.2.2<=B
 dp:Dep D a.2.2.1
structure m7(ks:List Kd)(hs:List Hd)(r:Str)(sc:Sc)(B D:Nat)(arms:List Arm)(ms:List Mk1):Prop where
 ln:arms.length=ms.length
 ok:∀(i:Nat)(a:Arm)(m:Mk1),arms[i]? = some a->ms[i]? = some m->FZ ks hs r sc B D a m
variable{hs:List Hd}{r:Str}{D:Nat}
theorem m7.snoc{a:Arm}{m:Mk1}(h:m7 ks hs r sc B D arms ms)(ha:FZ ks hs r sc B D a m):m7 ks hs r sc B D (arms ++ [a]) (ms ++ [m]):=by
 refine⟨by simp[h.ln],fun i a' m' h1 h2=>?_⟩
 by_cases hi:i<arms.length
 ·rw[List.getElem?_append_left hi]at h1;rw[List.getElem?_append_left (by rw[<- h.ln];exact hi)]at h2
  exact h.ok i a' m' h1 h2
 ·rw[List.getElem?_append_right (by omega)]at h1
  rw[List.getElem?_append_right (by rw[<- h.ln];omega),<- h.ln]at h2
  have hi0:i - arms.length=0:=by
   have:=(List.getElem?_eq_some_iff.mp h1).1
   simp at this;omega
  rw[hi0]at h1 h2;simp at h1 h2;subst h1 h2;exact ha
theorem m7.snd{kd:Kd}(h:m7 ks hs r sc B D arms kd.2)(hx:(x,kd.1)∈sc)(hk:kd∈ks):Snd ks hs r (1+(arms.map (·.2.2.2)).sum) sc (.t [.s "case",.s x,.t (arms.map tA)])/\(arms.map (·.2.2.2)).sum<=arms.length*B:=by
 refine⟨.case arms hx hk ?_ (fun i a m h1 h2=>⟨(h.ok i a m h1 h2).ln,(h.ok i a m h1 h2).nd⟩) (fun i a m h1 h2=>(h.ok i a m h1 h2).sn),Gd fun a ha=>?_⟩
 ·apply List.ext_getElem?
  intro i;rw[List.getElem?_map,List.getElem?_map];by_cases hi:i<arms.length
  ·have e1:=List.getElem?_eq_getElem hi;have e2:kd.2[i]? = some (kd.2[i]'(by rw[<- h.ln];exact hi)):=List.getElem?_eq_getElem _
   rw[e1,e2];exact congrArg some (h.ok i _ _ e1 e2).nm
  ·rw[List.getElem?_eq_none (by omega),List.getElem?_eq_none (by rw[<- h.ln];omega)]
   rfl
 ·obtain⟨i,hi,e⟩:=List.getElem_of_mem ha;exact(h.ok i a _ (by rw[List.getElem?_eq_getElem hi,e]) (List.getElem?_eq_getElem (by rw[<- h.ln];exact hi))).sz
theorem gc{α:Type}{xs:List α}{f:α->T}{r:Int}(h0:0<=r)(h1:r<xs.length):∃ x∈xs,atI (xs.map f) r=some (f x):=by
 have h:r.toNat<xs.length:=by omega
 refine⟨xs[r.toNat],List.getElem_mem h,?_⟩
 have:=bE (xs:=xs.map f) (j:=r.toNat) (v:=f xs[r.toNat]) (by rw[List.getElem?_map,List.getElem?_eq_getElem h];rfl)
 rwa [Int.toNat_of_nonneg h0]at this
theorem max_two{r r':Int}(r0:0<=r)(r1:r<n)(r0':0<=r')(r1':r'<n):0 <=(if r' > r then r' else r)/\(if r' > r then r' else r)<n:=by split <;> omega
theorem yP{α β:Type}{A:List α}{B:List β}{a:α}{b:β}(ha:A[j]? = some a)(hb:B[j]? = some b):(A.take (j+1)).zip (B.take (j+1)) =(A.take j).zip (B.take j) ++ [(a,b)]:=by
 have h1:=(List.getElem?_eq_some_iff.mp ha).1;have h2:=(List.getElem?_eq_some_iff.mp hb).1;rw[List.take_add_one,List.take_add_one,ha,hb,List.zip_append (by rw[List.length_take,List.length_take];omega)]
 rfl
theorem m7.im{ks:List Kd}{hs:List Hd}{r:Str}{sc:Sc}{B D:Nat}{arms:List Arm}{ms:List Mk1}(h:m7 ks hs r sc B D arms ms):T.ims (arms.map tA)=true:=by
 have go:∀(l:List T),(∀ t∈l,t.im=true)->T.ims l=true:=by
  intro l
  induction l with
  | nil=>intro _;rfl
  | cons t r ih=>intro h;show(t.im&&T.ims r)=true;rw[h t List.mem_cons_self,ih fun t ht=>h t (List.mem_cons_of_mem _ ht)];rfl
 refine go _ fun t ht=>?_
 obtain⟨a,ha,rfl⟩:=List.mem_map.mp ht;obtain⟨i,hi,e⟩:=List.getElem_of_mem ha;have z:=(h.ok i a _ (by rw[List.getElem?_eq_getElem hi,e]) (List.getElem?_eq_getElem (by rw[<- h.ln];exact hi))).sn.im
 show(true&&(T.ims (a.2.1.map .s)&&(a.2.2.1.im&&true)))=true;rw[z,aS];rfl
theorem sE{l:List Str}:Dep (n+1) (.t (l.map .s)):=Dep.t fun x hx=>by
 obtain⟨z,_,rfl⟩:=List.mem_map.mp hx;exact Dep.s
theorem gU:∀ x∈([]:List T),Dep n x:=fun _ z=>nomatch z
theorem cB{t:T}{ts:List T}(h:Dep n t)(hs:∀ x∈ts,Dep n x):∀ x∈t::ts,Dep n x:=fun x hx=>(List.mem_cons.mp hx).elim (fun e=>e▸h) (hs x)
theorem mh:Dep (n+1) (.t [.s "give",.s x]):=Dep.t (cB Dep.s (cB Dep.s gU))
theorem yy{w:Str}{c:Int}{b:T}(h:Dep D b):Dep (D+1) (.t [.s w,.i c,b]):=Dep.t (cB Dep.s (cB Dep.i (cB h gU)))
variable{y:Str}
theorem Bm{w:Str}{b:T}(h:Dep D b):Dep (D+1) (.t [.s w,.s x,.s y,b]):=Dep.t (cB Dep.s (cB Dep.s (cB Dep.s (cB h gU))))
theorem jl{w:Str}{b:T}(h:Dep D b)(h1:1<=D):Dep (D+1) (.t [.s w,.s x,.s y,.t (ns.map .s),b]):=by
 obtain⟨k,rfl⟩:∃ k,D=k+1:=⟨D - 1,by omega⟩
 exact Dep.t (cB Dep.s (cB Dep.s (cB Dep.s (cB sE (cB h gU)))))
theorem m7.dep(h:m7 ks hs r sc B D arms ms)(h1:1<=D):Dep (D+3) (.t [.s "case",.s x,.t (arms.map tA)]):=by
 obtain⟨k,rfl⟩:∃ k,D=k+1:=⟨D - 1,by omega⟩
 refine Dep.t (cB Dep.s (cB Dep.s (cB (Dep.t fun t ht=>?_) gU)))
 obtain⟨a,ha,rfl⟩:=List.mem_map.mp ht;obtain⟨i,hi,e⟩:=List.getElem_of_mem ha;exact Dep.t (cB Dep.s (cB sE (cB (h.ok i a _ (by rw[List.getElem?_eq_getElem hi,e]) (List.getElem?_eq_getElem (by rw[<- h.ln];exact hi))).dp gU)))
abbrev Fn:=Hd×T×Nat
def tF(f:Fn):T:=.t [.s f.1.1,.t (f.1.2.1.map tP),.s f.1.2.2,f.2.1]
structure Prog(ks:List Kd)(fs:List Fn):Prop where
 gk:mG ks
 l8:fs.length<=8
 hn:(fs.map (·.1.1)).Nodup
 pk:∀ f∈fs,f.1.2.1.length<=4/\(∀ p∈f.1.2.1,p.2∈ks.map (·.1))/\(f.1.2.1.map (·.1)).Nodup/\f.1.2.2∈ks.map (·.1)
 sn:∀ f∈fs,Snd ks (fs.map (·.1)) f.1.2.2 f.2.2 f.1.2.1 f.2.1/\f.2.2<=50000
 dp:∀ f∈fs,Dep 92 f.2.1
theorem xg.p(g:xg ks):mG ks:=⟨g.k1,by have:=g.k2;omega,g.nd,g.mn,g.ne,g.fl⟩
def xV:PSp:=fun ts Q=>∃ m u:Int,ts = [.cN,.i m,.i u]/\0<m/\m<=8/\0<=u/\u<=30/\∀ ks fs,Prog ks fs->Q (.t [tKs ks,.t (fs.map tF)])
def iw(o:Nat)(f:Nat):Nat:=if o=0 then f else 39 - f
structure nS(ks:List Kd)(ws:List Str)(o:Nat)(hs:List Hd)(i:Nat):Prop where
 ln:hs.length=i
 nm:hs.map (fun h=>some h.1) =(List.range i).map fun f=>ws[iw o f]?
 hp:∀ h∈hs,h.2.1.length<=4/\(∀ p∈h.2.1,p.2∈ks.map (·.1))/\h.2.1.map (·.1)=ws.take h.2.1.length/\h.2.2∈ks.map (·.1)
theorem nS.snoc{o:Nat}{i:Nat}{h:Hd}(H:nS ks ws o hs i)(hn:ws[iw o i]? = some h.1)(hp:h.2.1.length<=4/\(∀ p∈h.2.1,p.2∈ks.map (·.1))/\h.2.1.map (·.1)=ws.take h.2.1.length/\h.2.2∈ks.map (·.1)):nS ks ws o (hs ++ [h]) (i+1) where
 ln:=by simp[H.ln]
 nm:=by rw[List.map_append,H.nm,List.range_succ,List.map_append];simp[hn]
 hp:=fun h' hm=>by
  rcases List.mem_append.mp hm with z|z
  ·exact H.hp h' z
  ·rw[List.mem_singleton.mp z];exact hp
theorem nS.nd{o:Nat}{i:Nat}(H:nS ks ws o hs i)(hl:ws.length=40)(wn:ws.Nodup)(hi:i<=8):(hs.map (·.1)).Nodup:=by
 have e:(hs.map (·.1)).map some =(List.range i).map fun f=>ws[iw o f]?:=by rw[<- H.nm,List.map_map];rfl
 have n:((List.range i).map fun f=>ws[iw o f]?).Nodup:=by
  refine List.pairwise_map.mpr (List.Pairwise.imp_of_mem (fun{a b} ha hb hne z=>?_) (List.nodup_range (n:=i)))
  have ha:=List.mem_range.mp ha;have hb:=List.mem_range.mp hb;have l1:iw o a<ws.length:=by unfold iw;split <;> omega
  have e2:ws[iw o a]? = ws[iw o b]?:=z
  have:=(List.getElem?_inj l1 wn).mp e2
  unfold iw at this
  split at this <;> omega
 rw[<- e]at n;exact(List.pairwise_map.mp n).imp fun hne z=>hne (by rw[z])
variable{N:Nat}{u:Int}{fm:Int}{sc':Sc}
section
variable{P:Program}{w:World}{K:W.Frag}{mg:Str->Option Value}{base:Heap}{a:Adr}
theorem fq(T:Txt K mg a):bc P w K mg base CX0 1 a.jR a.Bs ["_law_deal_here","_law_many"] y8:=by
 refine T.aX.F.ok kH (fun vs H Q E h=>?_) (fun cdv A outer s H vs Q E hr h=>?_)
 ·obtain⟨d,l,m,rfl,_⟩:=h;rfl
 ·obtain⟨d,l,m,rfl,⟨s0,n0,ls0,D0⟩,m0,m1,k⟩:=h;have hu:=bR hr;refine⟨_,((bA (rN PassesOwn.never (PW.pt (Ae (i4 Fo (fi hu (pv 0) cx (fun _ _=>rfl)) bg (bj _)) (v8 (i4 wm (lJ jo (by rfl) T.cC PySem.boot_len (a8 (fi hu (pv 0) cx (fun _ _=>rfl)) cH)) bg (bj _)))))
 (ff (oU hu (pv 0) cx (um PySem.F.plainAttrs_list PySem.F.slot_list_pop PySem.F.type_list_pop AJ (fi hu (pv 0) cx (fun _ _=>rfl))) rfl)))
 (bA (f6 (i:=2) kH.nd rfl (Or.inl rfl) (fi hu (pv 0) cx (fun _ _=>rfl)))
 (bA (Fi (i4 wm (pv 2) bg (bj _))
 (bA (oU hu (pv 0) cx (bV rY (pv 2) (pv 1)) rfl)
 (ff (jE (bV fk (pv 2) (pv 1)))))
 wb)
 (bA (f6 (i:=3) kH.nd rfl (Or.inl rfl) (bV fk (bV jG (bV iu (fi hu (pv 0) cx (fun _ _=>rfl)) bg) bg) bg))
 (bA (oU hu (pv 0) cx (bV fk (bV jG (bV iu (pv 3) bg) bg) bg) rfl)
 (bA (f6 (i:=4) kH.nd rfl (Or.inl rfl) (bV fk (bV iu (fi hu (pv 0) cx (fun _ _=>rfl)) (fi hu (pv 0) cx (fun _ _=>rfl))) bg))
 (ff (jE (bV fk (bV jG (bV iu (bV fk (bV iu (pv 3) (pv 3)) bg) bg) (pv 4)) (pv 1))))))))))),?_⟩
  refine xA (fun c σ H1=>∃ s n ls,σ = [some (.ref d),some (.int m),none,none,none]/\b8 H1 d l s n ls/\Kp d l H H1/\c=ls.length) ⟨s0,n0,ls0,rfl,D0,Kp.refl,rfl⟩ ?_ ?_
  ·rintro c σ H1 ⟨s1,n1,ls,rfl,D,K1,rfl⟩
   refine⟨_,rfl,d,_,rfl,D.KO,?_⟩;refine⟨_,rfl,_,_,rfl,rfl,_,rfl,?_⟩;refine aI (fun h1=>?_) (fun h1=>?_)
   ·have h1:0<n1:=of_decide_eq_true h1;have q0:0<=n1 / m:=Int.ediv_nonneg (by omega) (by omega)
    refine⟨_,rfl,_,rfl,_,_,rfl,rfl,⟨m0,m1⟩,_,rfl,d,_,rfl,D.JB,?_⟩;refine⟨_,rfl,_,rfl,_,_,rfl,rfl,m0,?_⟩;exact k _ _ (mod_lt m0).1 (mod_lt m0).2 ⟨_,_,_,D.num q0⟩ K1.F4
   ·have b1:=mod_lt (x:=s1*48271+7919) (m:=2147483647) (by decide)
    refine⟨_,rfl,d,_,rfl,D.Bc,_,_,rfl,rfl,.inr ⟨by decide,by decide⟩,_,_,rfl,rfl,_,_,rfl,rfl,(by show(0:Int)<2147483647;decide),?_⟩
    have b2:=mod_lt (x:=(s1*48271+7919) % 2147483647*40692+104729) (m:=2147483399) (by decide)
    refine⟨_,rfl,_,_,rfl,rfl,.inr ⟨by decide,by decide⟩,_,_,rfl,rfl,_,_,rfl,rfl,(by show(0:Int)<2147483399;decide),_,rfl,d,_,rfl,D.Jz,?_⟩
    have D2:=D.MM (m:=((s1*48271+7919) % 2147483647*40692+104729) % 2147483399) b2.1 (by omega)
    refine⟨_,rfl,d,_,rfl,D2.Bc,_,rfl,d,_,rfl,D2.Bc,_,_,rfl,rfl,.inl ⟨by omega,by omega⟩,_,_,rfl,rfl,(by show(0:Int)<2147483563;decide),?_⟩
    have b4:=mod_lt (x:=(s1*48271+7919) % 2147483647*((s1*48271+7919) % 2147483647)) (m:=2147483629) (by decide)
    refine⟨_,rfl,_,rfl,_,_,rfl,rfl,.inl ⟨by omega,by omega⟩,_,_,rfl,rfl,(by show(0:Int)<2147483629;decide),_,_,rfl,rfl,.inr ⟨by decide,by decide⟩,_,rfl,_,_,rfl,rfl,_,rfl,_,_,rfl,rfl,m0,?_⟩
    exact k _ _ (mod_lt m0).1 (mod_lt m0).2 ⟨_,_,_,D2⟩ K1.F4
  ·rintro c σ H1 ⟨s1,n1,ls,rfl,D,K1,rfl⟩ hx
   refine⟨_,rfl,d,_,rfl,D.KO,rfl,_,rfl,?_⟩;refine aI (fun h1=>?_) (fun h1=>hx)
   refine⟨_,rfl,d,_,rfl,D.FH,l,_,rfl,.inl (SqL.of D.hl),_,_,rfl,rfl,_,rfl,?_⟩;refine aI (fun h2=>?_) (fun h2=>hx)
   have h2:(0:Int)<((ls.map V.int).length:Int):=of_decide_eq_true h2;rcases List.eq_nil_or_concat ls with rfl |⟨ls',x,rfl⟩
   ·simp at h2
   ·have hl':H1 l=some (.lst (ls'.map V.int ++ [.int x])):=by simpa using D.hl
    refine⟨fun σ' H'=>∃ s n ls2,σ' = [some (.ref d),some (.int m),none,none,none]/\b8 H' d l s n ls2/\Kp d l H H'/\ls2.length<(ls' ++ [x]).length,fun σ' H' ⟨s2,n2,ls2,e,D2,K2,h⟩=>⟨ls2.length,by simpa using h,s2,n2,ls2,e,D2,K2,rfl⟩,?_⟩
    have x0:0<=x:=D.l0 x (by simp)
    have D2:=D.list (ls':=ls') fun y hy=>D.l0 y (by simp[hy])
    refine⟨_,rfl,d,_,rfl,D.FH,.inl ⟨rfl,_,SqL.of hl'⟩,l,_,.int x,rfl,rfl,hl',(by simp),?_⟩
    rw[List.dropLast_concat];refine⟨_,rfl,d,_,rfl,D2.JB,?_⟩;exact⟨_,_,ls',rfl,D2.num x0,(K1.MG).F4,by simp⟩
theorem DJ(T:Txt K mg a):bc P w K mg base CX0 1 a.jS a.Bt ["_law_script","_law_base"] (Gf K):=by
 refine T.q9.F.ok iZ (fun vs H Q E h=>?_) (fun cdv A outer s H vs Q E hr h=>?_)
 ·obtain⟨a,ns,b,rfl,_⟩:=h;rfl
 ·obtain⟨p0,ns,b,rfl,hS,hlen,b0,b1,k⟩:=h;have hu:=bR hr;refine⟨_,((bA (wc (i:=2) iZ.nd rfl (Or.inl rfl) rfl (kL (rQ vL (pv 0) (oV (pv 1)) (oV bg))) (N':=["_law_cell"]) (.own rfl .nil) (fun _ _ _ _ _=>⟨(jb (i:=0) (show(["_law_cell"]:List Str).Nodup from by decide +kernel) rfl (Or.inl rfl)),wa,(lJ (gX rfl) (by rfl) T.w6 (by kernel_rfl) (a8 (pv 0) (a8 (bV uo bg (pv 0)) cH)))⟩))
 (bA (f6 (i:=3) iZ.nd rfl (Or.inl rfl) (bV jG bg (pv 1)))
 (bA (Ai PassesOwn.never rfl (kL (pv 2)) (jb (i:=4) iZ.nd rfl (Or.inl rfl))
 (ff (f6 (i:=3) iZ.nd rfl (Or.inl rfl) (bV fk (bV jG (bV iu (pv 3) bg) (bV fk (pv 4) bg)) bg))))
 (ff (jE (Dz (lG cx (pv 3) (lG cx bg (lG cx (lI rfl rfl T.fA rfl T.iJ (we rfl (kL (pv 2)) (N':=["_law_cell"]) (.own rfl .nil) (fun _ _ _ _ _=>⟨(jb (i:=0) (show(["_law_cell"]:List Str).Nodup from by decide +kernel) rfl (Or.inl rfl)),(v9 (i4 JR (pv 0) (bV G7 bg bg) (bj _))),(pv 0)⟩))) Dk))) rfl rfl (by intro z;cases z) (by decide)))))))),?_⟩
  obtain⟨cs,ecs,lcs⟩:=Bw ns (some b) (some 63);refine⟨_,rfl,_,rfl,_,rfl,_,rfl,p0,_,rfl,hS,fun p hp=>⟨p,rfl,⟨_,SqL.of aw⟩,?_⟩⟩
  rw[ecs];have s1:iP H (upd H p (.lst (cs.map V.int))):=(iP.refl H).new hp;refine nM (K:=K) (a:=p) (xs:=cs.map V.int) (fun i ys σ' H'=>∃ zs:List Int,ys=zs.map V.int/\(∀ z∈zs,0<=z)/\zs.length=i/\(∃ o,σ' = [o])/\H'=upd H p (.lst (cs.map V.int))) ⟨[],rfl,by simp,rfl,⟨_,rfl⟩,rfl⟩ ?_ ?_ ?_
  ·rintro i ys σ' H' hi ⟨zs,rfl,_,hz,_,rfl⟩
   refine⟨SqL.of aw,?_⟩;rw[List.length_map]at hi ⊢;exact aC (by omega)
  ·rintro i x ys σ' H' hi ⟨zs,rfl,z0,hz,⟨o,rfl⟩,rfl⟩
   obtain⟨c,rfl⟩:=int_at hi;refine Ei ?_;refine⟨_,rfl,_,rfl,_,_,rfl,rfl,_,_,rfl,?_⟩;refine⟨zs ++ [if 0 - c > c then 0 - c else c],by simp,?_,by simp[hz],⟨_,rfl⟩,rfl⟩
   intro z hz';rcases List.mem_append.mp hz' with h|h
   ·exact z0 z h
   ·rw[List.mem_singleton.mp h]
    split <;> omega
  ·rintro ys σ' H' ⟨zs,rfl,z0,hz,_,rfl⟩ D hD
   have s2:iP H (upd (upd H p (.lst (cs.map V.int))) D (.lst (zs.map V.int))):=s1.new hD;have hcD:(upd (upd H p (.lst (cs.map V.int))) D (.lst (zs.map V.int))) D=some (.lst (zs.map V.int)):=aw
   generalize upd (upd H p (.lst (cs.map V.int))) D (.lst (zs.map V.int))=H2 at s2 hcD ⊢
   refine⟨_,rfl,_,_,rfl,rfl,?_⟩;refine⟨_,rfl,D,rfl,⟨_,SqL.of hcD⟩,Bf (K:=K) (a:=D) (xs:=zs.map V.int) (fun i σ' H'=>∃(n:Int)(o:Option V),σ' = [some (.ref p0),some (.int b),some (.ref D),some (.int n),o]/\0<=n/\n<2147483647/\H2=H')
    ⟨_,_,rfl,by omega,by omega,rfl⟩ (fun i σ' H' _ ⟨_,_,_,_,_,e⟩=>by rw[<- e];exact SqL.of hcD) ?_ ?_⟩
   ·rintro i y σ' H' hi ⟨n,o,rfl,n0,n1,rfl⟩
    obtain⟨z,rfl⟩:=int_at hi;refine⟨_,rfl,_,_,rfl,rfl,.inr ⟨by decide,by decide⟩,_,rfl,_,_,rfl,rfl,(by show(0:Int)<2147483629;decide),_,_,rfl,rfl,_,_,rfl,rfl,(by show(0:Int)<2147483647;decide),?_⟩
    exact⟨_,_,rfl,(mod_lt (by decide)).1,(mod_lt (by decide)).2,rfl⟩
   ·rintro σ' H' ⟨n,o,rfl,n0,n1',rfl⟩
    intro pd hpd;have HN:(upd H2 pd (.dK [])) D=some (.lst (zs.map V.int)):=by rw[aj (aP hcD hpd)];exact hcD
    have s3:iP H (upd H2 pd (.dK [])):=s2.new hpd;have HJ:(upd H2 pd (.dK [])) pd=some (.dK []):=aw;have fpd:H pd=none:=s2.free hpd
    generalize upd H2 pd (.dK [])=H3 at HN s3 HJ ⊢
    refine⟨_,rfl,_,rfl,D,rfl,⟨_,SqL.of HN⟩,nM (K:=K) (a:=D) (xs:=zs.map V.int) (fun i ys σ' H'=>∃ ws:List Int,ys=ws.map V.int/\(∀ z∈ws,0<=z)/\ws.length<=i/\(∃ o,σ' = [o])/\H3=H') ⟨[],rfl,by simp,Nat.le_refl _,⟨_,rfl⟩,rfl⟩ ?_ ?_ ?_⟩
    ·rintro i ys σ' H' hi ⟨ws,rfl,_,hz',_,rfl⟩
     refine⟨SqL.of HN,?_⟩;rw[List.length_map]at hi ⊢;rw[List.length_map]at hz;exact aC (by omega)
    ·rintro i x ys σ' H' hi ⟨ws,rfl,w0,hz',⟨o,rfl⟩,rfl⟩
     obtain⟨c,rfl,hc⟩:=Ea hi;refine⟨_,rfl,_,_,rfl,rfl,⟨by decide,by decide,by decide⟩,_,_,rfl,rfl,_,rfl,?_⟩
     refine aI (fun h1=>?_) (fun h1=>?_)
     ·refine⟨_,rfl,ws ++ [c],by simp,?_,by simp;omega,⟨_,rfl⟩,rfl⟩
      intro z hz';rcases List.mem_append.mp hz' with h|h
      ·exact w0 z h
      ·rw[List.mem_singleton.mp h];exact z0 c hc
     ·exact⟨ws,rfl,w0,by omega,⟨_,rfl⟩,rfl⟩
    ·rintro ys σ' H' ⟨ws,rfl,w0,hz',_,rfl⟩ D2 hD2
     refine⟨D2,_,rfl,SqL.of aw,fun q hq=>?_⟩
     have n1:pd≠D2:=aP HJ hD2;have e1:(upd H3 D2 (.lst (ws.map V.int))) pd=some (.dK []):=by rw[aj n1];exact HJ
     have n2:pd≠q:=aP e1 hq;have s4:iP H (upd (upd H3 D2 (.lst (ws.map V.int))) q (.lst ((ws.map V.int).reverse))):=(s3.new hD2).new hq;refine⟨by rw[aj n2];exact e1,[(.inr "seed",.int n),(.inr "number",.int 0),(.inr "left",.ref q)],rfl,(by show 3<=15;decide),?_⟩
     rw[show cI [] [((.inr "seed":Key),V.int n),(.inr "number",.int 0),(.inr "left",.ref q)]=dk n 0 q from by kernel_rfl]
     refine k pd q _ fpd ((s3.new hD2).free hq) ⟨n,0,ws.reverse,aw,?_,n0,n1',Int.le_refl _,?_⟩ ?_
     ·rw[aj n2.symm,aw,List.map_reverse]
     ·intro x hx;exact w0 x (by simpa using hx)
     ·intro c o hc
      have:c≠pd:=aP hc fpd
      rw[aj this];exact s4 c o hc
theorem pE(T:Txt K mg a):bc P w K mg base CX0 1 a.cA a.kg ["kinds","kind"] (spQ K Al):=by
 refine T.km.F.okQ fc (fun ts Q h=>?_) (fun _ _ _ _ _ _ hr=>?_)
 ·obtain⟨ks,k,rfl,_⟩:=h;rfl
 ·have hu:=bR hr;refine⟨_,_,((ag (cv (g:=(Tg.tp [2,3])) PassesOwn.never rfl (oM (QPE.f (qv 0))) (fh (bI 2 fc.nd) (bI 3 fc.nd))
 (aq (a7 (bQ hu (qv 2) (qv 1))
 (aq (aD (QPE.f (qv 3))))
 aH)))
 (aq (aD (av ai))))),fun ts Q h=>?_⟩
  obtain⟨ks,k,rfl,hq⟩:=h;refine⟨qf ks,fun i q=>(∃ o2 o3,q = [.r (tKs ks),.r (.s k),o2,o3])/\∀(j:Nat)(y:Kd),j<i->ks[j]? = some y->y.1≠k,⟨⟨_,_,rfl⟩,fun j y hj=>absurd hj (Nat.not_lt_zero _)⟩,?_,?_⟩
  ·rintro i x q hx ⟨⟨o2,o3,rfl⟩,hno⟩
   rw[List.getElem?_map]at hx;obtain⟨kk,hk,rfl⟩:=Option.map_eq_some_iff.mp hx;refine⟨_,rfl,?_⟩;refine⟨rfl,?_⟩;refine aI (fun g1=>?_) (fun g1=>?_)
   ·refine⟨l7 _,?_⟩;rw[wu hk (V.str.inj (of_decide_eq_true g1)) hno]at hq;exact hq
   ·refine⟨⟨_,_,rfl⟩,fun j y hj hy=>?_⟩
    by_cases e:j=i
    ·subst e;rw[hk]at hy;cases hy;exact fun z=>g1 (decide_eq_true (congrArg V.str z))
    ·exact hno j y (by omega) hy
  ·rintro q ⟨⟨o2,o3,rfl⟩,hno⟩
   rw[DU fun j y hy=>hno j y (by have:=(List.getElem?_eq_some_iff.mp hy).1;simp;omega) hy]at hq
   exact hq
theorem Au(T:Txt K mg a):bc P w K mg base CX0 2 a.gN a.wM ["_law_deal_here","_law_many"] (spQ K Dc):=by
 have aR:=iG (@fq P w K mg base a T);refine T.xq.F.okQ bz (fun ts Q h=>?_) (fun _ _ _ _ _ _ hr=>?_)
 ·obtain⟨m,rfl,_⟩:=h;rfl
 ·have hu:=bR hr;refine⟨_,_,((ag (aF 2 bz.nd aW)
 (ag (aF 3 bz.nd (C1 (QPF.w aW) (QPF.w (bt rfl (gK rfl T.dQ (ae (QPF.w (aU aR hr T.aX (ae (qv 0) (ae ah ay)))) ay)) (N':=["_law_k","_law_letters","_law_deal_here"]) (.own rfl (.got (i:=2) rfl rfl (.inl rfl) (.got (i:=0) rfl rfl (.inl rfl) .nil))) (bH (g:=(Tg.nm 0)) (fun _ _ _ _ _=>⟨(cw 0),(QPE.f (ao (qv 1) (QPF.w (aU aR hr T.aX (ae (qv 2) (ae ah ay))))))⟩))))))
 (ag (aF 4 bz.nd (aU aR hr T.aX (ae (qv 0) (ae (QPF.w (bq (QPF.w (bS T.cC (ae (qv 3) ay))) ah)) ay))))
 (ag (aF 5 bz.nd (aU aR hr T.aX (ae (qv 0) (ae ah ay))))
 (ag (aF 6 bz.nd (aM ai))
 (ag (cv (g:=(Tg.nm 7)) PassesOwn.never rfl (gJ rfl T.dQ (ae (qv 1) ay)) (bI 7 bz.nd)
 (ag (aF 8 bz.nd (QPE.f (ao (qv 2) (QPF.w (zT (QPF.w (bq (qv 5) (QPF.w (lC ah (qv 7))))) ah)))))
 (ag (aF 9 bz.nd (bq (QPF.w (bq (QPF.w (bq (QPF.w (bq (QPF.w (cX (qv 3) dJ (dH (qv 4)))) (qv 8))) (QPF.w (cX (qv 3) (dH (qv 4)) dJ)))) (QPF.w (lC (QPF.w aW) (QPF.w (zT (qv 7) ah)))))) (QPF.w (lC (QPF.w aW) (QPF.w (C3 (qv 7) ah))))))
 (ag (a7 (bF (ur rfl) om rfl (qv 9) (QPF.w (av (gL (by rfl)))))
 (aq (aF 9 bz.nd (bq (qv 9) (QPF.w aW))))
 aH)
 (ag (a7 (bF (ur rfl) om rfl (qv 9) (QPF.w (av (gL (by rfl)))))
 (aq (aF 9 bz.nd (bq (qv 9) (QPF.w aW))))
 aH)
 (aq (a6 (i:=6) (pv 6) (QPE.f (qv 9)))))))))
 (ag (aF 10 bz.nd (aM (gL (by rfl))))
 (ag (aF 10 bz.nd (bq (qv 10) (QPF.w (aM (gL (by rfl))))))
 (ag (aF 9 bz.nd (QPE.f (ao (qv 10) (QPF.w (aU aR hr T.aX (ae (qv 0) (ae ah ay)))))))
 (ag (a7 (QPW.pt (tZ (bQ hu (QPF.w (aU aR hr T.aX (ae (qv 0) (ae ah ay)))) ah) (oI (bF (x4 rfl) om rfl (qv 9) (qv 6)))))
 (aq (CQ (i:=6) (pv 6) (QPF.w (aU aR hr T.aX (ae (qv 0) (ae (qv 1) ay)))) (qv 9)))
 aH)
 (aq (kJ (i:=6) (pv 6)))))))))))))),fun ts Q h=>?_⟩
  obtain⟨m,rfl,m0,m1,hq⟩:=h;refine⟨by decide,by decide,fun n n0 n1=>⟨by omega,by omega,aC (by rw[cF];omega),fun i ys=>∃ cs:List Nat,ys=cs.map (fun c=>.s ⟨#[c]⟩)/\cs.length=i,⟨[],rfl,rfl⟩,?_,?_⟩⟩
  ·rintro i x ys hx ⟨cs,rfl,hc⟩
   obtain⟨rfl,hi⟩:=fV hx;refine⟨_,rfl,by decide,by decide,fun r r0 r1=>⟨by decide +kernel,_,wx r0 r1,rfl,?_⟩⟩
   exact⟨cs ++ [kq r.toNat],by simp,by simp[hc]⟩
  ·rintro ys ⟨cs,rfl,hc⟩
   rw[cF]at hc;have e2:((cs.map (fun c=>(⟨#[c]⟩:Str))).map (·.length)).sum=cs.length:=by
    clear hc
    induction cs with
    | nil=>rfl
    | cons c cs ih=>simp only[List.map_cons,List.sum_cons,List.length_cons,ih,show(⟨#[c]⟩:Str).length=1 from rfl];omega
   refine⟨cs.map (fun c=>(⟨#[c]⟩:Str)),?_,?_,?_⟩
   ·rw[<- Cj,List.map_map];rfl
   ·rw[e2,show(Str.ofString "").length=0 from by decide +kernel];omega
   have z:=PySem.size_glued (Str.ofString "") (cs.map (fun c=>(⟨#[c]⟩:Str)))
   rw[e2,show(Str.ofString "").length=0 from by decide +kernel]at z
   have lz:(Txt.join (Str.ofString "") (cs.map (fun c=>(⟨#[c]⟩:Str)))).length<=5:=by
    show(Builtin.Str.glued _ _).length<=5;omega
   generalize Txt.join (Str.ofString "") (cs.map (fun c=>(⟨#[c]⟩:Str)))=core at lz ⊢
   refine⟨bh (by omega),by omega,by omega,fun at_ a0 a1=>⟨by decide,by decide,fun tn t0 t1=>?_⟩⟩
   have lc1:(Txt.slice core none (some at_)).length<=5:=Nat.le_trans (Txt.slice_le _ _ _) lz;have lc2:(Txt.slice core (some at_) none).length<=5:=Nat.le_trans (Txt.slice_le _ _ _) lz;have lx:(Str.ofString "x").length=1:=by decide +kernel
   have ly:(Str.ofString "y").length=1:=by decide +kernel
   have lq:(Str.ofString "q").length=1:=by decide +kernel
   refine⟨by omega,by omega,fun i q=>(∃ o7 o8 o9 L,q = [.r .cN,.r (.i m),.o (.s pJ),.o (.s core),.o (.i at_),.o (.i tn),.o (.l L),o7,o8,o9,.no]/\L =((List.range i).map (wordOf kept (Txt.slice core none (some at_)) (Txt.slice core (some at_) none) tn.toNat)).map .s),⟨_,_,_,_,rfl,rfl⟩,?_,?_⟩
   ·rintro i x q hx ⟨o7,o8,o9,L,rfl,rfl⟩
    obtain⟨rfl,hi⟩:=fV hx;have hi:i<52:=by omega
    have e1:∀ c:Nat,(⟨#[c]⟩:Str).length=1:=fun _=>rfl
    have eL:kq (((tn+7*(0+(i:Int))) % 26).toNat)=kq (tn.toNat+7*i):=by
     have ht:tn+7*(0+(i:Int)) =((tn.toNat+7*i:Nat):Int):=by rw[Int.zero_add,Int.natCast_add,Int.natCast_mul,Int.toNat_of_nonneg t0];rfl
     rw[ht];show 97+(tn.toNat+7*i) % 26 % 26=97+(tn.toNat+7*i) % 26;rw[Nat.mod_mod]
    have r1:=eR "x" ((0+(i:Int)) % 2).toNat;have r2:=eR "y" ((0+(i:Int)) / 26).toNat;rw[lx]at r1;rw[ly]at r2;refine⟨_,rfl,.inl ⟨by omega,by omega⟩,(by show(0:Int)<26;decide),(by decide +kernel),_,wx (mod_lt (by decide)).1 (mod_lt (by decide)).2,rfl,?_⟩
    refine⟨bh (by omega),bh (by rw[e1];omega),bh (by omega),bh (by rw[Str.length_append,e1];omega),(by show(0:Int)<2;decide),by omega,by omega,by omega,bh (by rw[Str.length_append,Str.length_append,e1];omega),⟨by decide,by decide⟩,by omega,by omega,by omega,bh (by rw[Str.length_append,Str.length_append,Str.length_append,e1];omega),?_⟩
    have eW:Txt.slice core none (some at_)++⟨#[kq (((tn+7*(0+(i:Int))) % 26).toNat)]⟩++Txt.slice core (some at_) none++fW "x" ((0+(i:Int)) % 2).toNat++fW "y" ((0+(i:Int)) / 26).toNat=b7 (Txt.slice core none (some at_)) (Txt.slice core (some at_) none) tn.toNat i:=by
     unfold b7;rw[eL,show((0+(i:Int)) % 2).toNat=i % 2 from by rw[Int.zero_add];rfl,show((0+(i:Int)) / 26).toNat=i / 26 from by rw[Int.zero_add];rfl]
    have lW:=gZ (Txt.slice core none (some at_)) (Txt.slice core (some at_) none) tn.toNat i;rw[eW];have snoc:∀ z:Str,z=wordOf kept (Txt.slice core none (some at_)) (Txt.slice core (some at_) none) tn.toNat i ->
      ((List.range i).map (wordOf kept (Txt.slice core none (some at_)) (Txt.slice core (some at_) none) tn.toNat)).map L2.T.s ++ [L2.T.s z] =((List.range (i+1)).map (wordOf kept (Txt.slice core none (some at_)) (Txt.slice core (some at_) none) tn.toNat)).map L2.T.s:=fun z hz=>by
     subst hz;rw[List.range_succ];simp
    have ln:(((List.range i).map (wordOf kept (Txt.slice core none (some at_)) (Txt.slice core (some at_) none) tn.toNat)).map L2.T.s).length<sizeLine:=aC (by simp;omega)
    refine⟨by rfl,aI (fun g1=>?_) (fun g1=>?_)⟩
    ·have g1:inV (.str (b7 (Txt.slice core none (some at_)) (Txt.slice core (some at_) none) tn.toNat i)) (sx.map V.str)=true:=by rw[<- dB];exact g1
     refine⟨bh (by rw[lq];omega),by rfl,aI (fun g2=>?_) (fun _=>?_)⟩
     ·have g2:inT (.s (b7 (Txt.slice core none (some at_)) (Txt.slice core (some at_) none) tn.toNat i++("q":Str))) (hW.map L2.T.s)=true:=g2;rw[dB,Hj]at g2;cases g2
     exact⟨ln,rfl,_,_,_,_,rfl,snoc (b7 (Txt.slice core none (some at_)) (Txt.slice core (some at_) none) tn.toNat i++("q":Str)) (by unfold wordOf;rw[iC,g1,Bool.true_or,if_pos rfl])⟩
    ·have g1:inV (.str (b7 (Txt.slice core none (some at_)) (Txt.slice core (some at_) none) tn.toNat i)) (sx.map V.str)=false:=by
      cases e:inV (.str (b7 (Txt.slice core none (some at_)) (Txt.slice core (some at_) none) tn.toNat i)) (sx.map V.str)with
      | false=>rfl
      | true=>rw[<- dB]at e;exact absurd e g1
     refine⟨by rfl,aI (fun g2=>?_) (fun g2=>?_)⟩
     ·have g2:inV (.str (b7 (Txt.slice core none (some at_)) (Txt.slice core (some at_) none) tn.toNat i)) (hW.map V.str)=true:=by rw[<- dB];exact g2
      exact⟨bh (by rw[lq];omega),ln,rfl,_,_,_,_,rfl,snoc (b7 (Txt.slice core none (some at_)) (Txt.slice core (some at_) none) tn.toNat i++("q":Str)) (by unfold wordOf;rw[iC,g1,g2,Bool.false_or,if_pos rfl])⟩
     ·have g2:inV (.str (b7 (Txt.slice core none (some at_)) (Txt.slice core (some at_) none) tn.toNat i)) (hW.map V.str)=false:=by
       cases e:inV (.str (b7 (Txt.slice core none (some at_)) (Txt.slice core (some at_) none) tn.toNat i)) (hW.map V.str)with
       | false=>rfl
       | true=>rw[<- dB]at e;exact absurd e g2
      exact⟨ln,rfl,_,_,_,_,rfl,snoc (b7 (Txt.slice core none (some at_)) (Txt.slice core (some at_) none) tn.toNat i) (by unfold wordOf;rw[iC,g1,g2,Bool.false_or,if_neg (by decide),Str.append_empty])⟩
   ·rintro q ⟨o7,o8,o9,L,rfl,rfl⟩
    rw[cF];have nd:((List.range m.toNat).map (wordOf kept (Txt.slice core none (some at_)) (Txt.slice core (some at_) none) tn.toNat)).Nodup:=nodup_range fun i j hi hj hne=>xy (by omega) (by omega) hne
    have wl:∀ w∈(List.range m.toNat).map (wordOf kept (Txt.slice core none (some at_)) (Txt.slice core (some at_) none) tn.toNat),1<=w.length/\w.length<=20:=fun w hw=>by
     obtain⟨i,hi,rfl⟩:=List.mem_map.mp hw;exact sV lc1 lc2 (by have:=List.mem_range.mp hi;omega)
    have ll:((List.range m.toNat).map (wordOf kept (Txt.slice core none (some at_)) (Txt.slice core (some at_) none) tn.toNat)).length=m.toNat:=by simp
    generalize(List.range m.toNat).map (wordOf kept (Txt.slice core none (some at_)) (Txt.slice core (some at_) none) tn.toNat)=ws at nd wl ll
    refine⟨bh (by decide),by rfl,by rfl,by decide,by decide,fun r r0 r1=>?_⟩
    obtain⟨wd,ew,hm⟩:=EK (ws:=near) r0 r1;refine⟨_,ew,rfl,by decide,by decide,fun r3 _ _=>⟨rfl,?_⟩⟩
    have done:Q (.l (ws.map .s)):=hq ws (by omega) nd wl
    refine aI (fun _=>?_) (fun _=>Nh done)
    refine⟨by rw[jk];rfl,aI (fun h2=>?_) (fun _=>done)⟩
    have hni:wd ∉ ws:=Eb (by rw[<- dB];simpa using h2)
    refine⟨m0,by omega,fun r4 r40 r41=>⟨r4.toNat,?_,aS ws,rfl,?_⟩⟩
    ·unfold ixN;rw[if_pos r40,if_pos (by rw[List.length_map];omega)]
    ·have z:=hq (ws.set r4.toNat wd) (by rw[List.length_set];omega) (yf nd hni) fun w hw=>by
      rcases List.mem_or_eq_of_mem_set hw with z|z
      ·exact wl w z
      ·rw[z];exact AH wd hm
     rw[List.map_set]at z;exact z
theorem Ax(T:Txt K mg a):bc P w K mg base CX0 2 a.gR a.wR ["_law_deal_here","_law_words_here"] (spQ K Dg):=by
 have aR:=iG (@fq P w K mg base a T);refine T.xt.F.okQ bK (fun ts Q h=>?_) (fun _ _ _ _ _ _ hr=>?_)
 ·obtain⟨ws,rfl,_⟩:=h;rfl
 ·have hu:=bR hr;refine⟨_,_,((ag (aF 2 bK.nd (aU aR hr T.aX (ae (qv 0) (ae ah ay))))
 (ag (GA (i:=3) (j:=4) rfl bK.nd rfl rfl (by decide) rfl rfl (ao (qv 1) ah) (ao (qv 1) ah) rfl)
 (ag (aF 5 bK.nd (bq (QPF.w (cX (qv 1) (dH ah) dJ)) (QPF.w (cX (qv 1) dJ (dH ah)))))
 (ag (a7 (bQ hu (qv 2) ah)
 (aq (aD (av (af (av (af (QPE.f (qv 3)) (af (av (af (av (af (QPE.f (ao (qv 5) ah)) (af (av ai) ai))) (af (av (af (QPE.f (ao (qv 5) ah)) (af (av (af (QPE.f (qv 3)) ai)) ai))) ai))) ai))) ai))))
 aH)
 (ag (a7 (bQ hu (qv 2) ah)
 (aq (aD (av (af (av (af (QPE.f (qv 3)) (af (av (af (av (af (QPE.f (ao (qv 5) ah)) (af (av ai) ai))) (af (av (af (QPE.f (ao (qv 5) ah)) (af (av (af (QPE.f (qv 3)) ai)) ai))) (af (av (af (QPE.f (ao (qv 5) ah)) (af (av (af (QPE.f (qv 3)) ai)) ai))) ai)))) ai))) ai))))
 aH)
 (ag (a7 (bQ hu (qv 2) ah)
 (aq (aD (av (af (av (af (QPE.f (qv 3)) (af (av (af (av (af (QPE.f (ao (qv 5) ah)) (af (av ai) ai))) (af (av (af (QPE.f (ao (qv 5) ah)) (af (av ai) ai))) ai))) ai))) (af (av (af (QPE.f (qv 4)) (af (av (af (av (af (QPE.f (ao (qv 5) ah)) (af (av ai) ai))) (af (av (af (QPE.f (ao (qv 5) ah)) (af (av (af (QPE.f (qv 3)) (af (QPE.f (qv 4)) ai))) ai))) ai))) ai))) ai)))))
 aH)
 (ag (a7 (bQ hu (qv 2) ah)
 (aq (aD (av (af (av (af (QPE.f (qv 3)) (af (av (af (av (af (QPE.f (ao (qv 5) ah)) (af (av ai) ai))) (af (av (af (QPE.f (ao (qv 5) ah)) (af (av (af (QPE.f (qv 3)) (af (QPE.f (qv 3)) ai))) ai))) ai))) ai))) ai))))
 aH)
 (ag (a7 (bQ hu (qv 2) ah)
 (aq (aD (av (af (av (af (QPE.f (qv 3)) (af (av (af (av (af (QPE.f (ao (qv 5) ah)) (af (av ai) ai))) (af (av (af (QPE.f (ao (qv 5) ah)) (af (av (af (QPE.f (qv 4)) ai)) ai))) ai))) ai))) (af (av (af (QPE.f (qv 4)) (af (av (af (av (af (QPE.f (ao (qv 5) ah)) (af (av (af (QPE.f (qv 3)) ai)) ai))) ai)) ai))) ai)))))
 aH)
 (ag (aF 6 bK.nd (aM ai))
 (ag (aF 7 bK.nd (bq ah (QPF.w (aU aR hr T.aX (ae (qv 0) (ae ah ay))))))
 (ag (aF 8 bK.nd bG)
 (ag (cv (g:=(Tg.nm 9)) PassesOwn.never rfl (gJ rfl T.dQ (ae (qv 7) ay)) (bI 9 bK.nd)
 (ag (aF 10 bK.nd (aM ai))
 (ag (cv (g:=(Tg.nm 11)) PassesOwn.never rfl (gJ rfl T.dQ (ae (QPF.w (bq ah (QPF.w (aU aR hr T.aX (ae (qv 0) (ae (QPF.w (jC (aM (af bG (af bG ai))) (QPF.w (aO jX oj (by rfl) T.BN (by kernel_rfl) (ae (QPF.w (oO (uu hu rfl) oo (bj _) (qv 7) ah)) ay))))) ay)))))) ay)) (bI 11 bK.nd)
 (ag (aF 12 bK.nd (lC (QPF.w (aU aR hr T.aX (ae (qv 0) (ae (QPF.w (jC (aM (af bG (af bG (af bG ai)))) (QPF.w (aU aR hr T.aX (ae (qv 0) (ae ah ay)))))) ay)))) (QPF.w (aO jX oj (by rfl) T.BN (by kernel_rfl) (ae (QPF.w (oO wm (ot (g':=fun i j=>.b (decide (j<i))) fun _ _ _ _=>.b _) (bj _) (QPF.w (bq (qv 9) (qv 11))) ah)) ay)))))
 (ag (gI (i:=13) bK.nd rfl (Or.inl rfl) rfl (gK rfl T.dQ (ae (qv 12) ay)) (N':=["_law_i","_law_words_here","_law_deal_here","_law_many"]) (.own rfl (.got (i:=1) rfl rfl (.inl rfl) (.got (i:=0) rfl rfl (.inl rfl) (.got (i:=7) rfl rfl (.inl rfl) .nil)))) (bH (g:=(Tg.nm 0)) (fun _ _ _ _ _=>⟨(cw 0),(QPE.f (ao (qv 1) (QPF.w (aU aR hr T.aX (ae (qv 2) (ae (qv 3) ay))))))⟩)))
 (ag (a6 (i:=10) (pv 10) (av (af (QPE.f (ao (qv 5) (qv 8))) (af (aO (b6 rfl) bX (by rfl) T.cL (by kernel_rfl) (ae (qv 13) ay)) ai))))
 (aq (aF 8 bK.nd (bq (qv 8) ah)))))))
 (aq (a6 (i:=6) (pv 6) (av (af (QPE.f (ao (qv 1) (qv 9))) (af (aO (b6 rfl) bX (by rfl) T.cL (by kernel_rfl) (ae (qv 10) ay)) ai))))))))
 (aq (aD (aO (b6 rfl) bX (by rfl) T.cL (by kernel_rfl) (ae (qv 6) ay))))))))))))))))),fun ts Q h=>?_⟩
  obtain⟨ws,rfl,hl,hnd,hq⟩:=h;obtain⟨x0,x1,wr,rfl⟩:∃ x0 x1 wr,ws=x0::x1::wr:=by
   match ws,hl with
   | x0::x1::wr,_=>exact⟨x0,x1,wr,rfl⟩
  have at0:atI ((x0::x1::wr).map L2.T.s) 0=some (.s x0):=dA (j:=0) rfl;have at1:atI ((x0::x1::wr).map L2.T.s) 1=some (.s x1):=dA (j:=1) rfl;refine⟨by decide,by decide,fun fm f0 f1=>⟨_,at0,rfl,_,at1,rfl,aS _,aS _,?_⟩⟩
  have hM:((x0::x1::wr).drop 4++(x0::x1::wr).take 4).Nodup:=xP hnd;have lM:((x0::x1::wr).drop 4++(x0::x1::wr).take 4).length=40:=by rw[List.length_append,List.length_drop,List.length_take];omega
  refine⟨bh (by have:=congrArg List.length (K8 hl);rw[List.length_append,List.length_map]at this;omega),wF _ _ _,wF _ _ _,?_⟩
  rw[K8 hl];have hMw:∀ x∈(x0::x1::wr).drop 4++(x0::x1::wr).take 4,x∈x0::x1::wr:=fun x hx=>(List.mem_append.mp hx).elim List.mem_of_mem_drop List.mem_of_mem_take
  generalize(x0::x1::wr).drop 4++(x0::x1::wr).take 4=M at hM lM hMw
  obtain⟨m0,m1,m2,m3,mr,rfl⟩:∃ m0 m1 m2 m3 mr,M=m0::m1::m2::m3::mr:=by
   match M,lM with
   | m0::m1::m2::m3::mr,_=>exact⟨m0,m1,m2,m3,mr,rfl⟩
  have t0:atI ((m0::m1::m2::m3::mr).map L2.T.s) 0=some (.s m0):=dA (j:=0) rfl;have t1:atI ((m0::m1::m2::m3::mr).map L2.T.s) 1=some (.s m1):=dA (j:=1) rfl;have t2:atI ((m0::m1::m2::m3::mr).map L2.T.s) 2=some (.s m2):=dA (j:=2) rfl;have t3:atI ((m0::m1::m2::m3::mr).map L2.T.s) 3=some (.s m3):=dA (j:=3) rfl;have hw3:3 <=(x0::x1::wr).length:=by omega
  have mkf:∀(ks:List Kd)(n made:Nat),mF (x0::x1::wr) (m0::m1::m2::m3::mr) n ks n made->1<=n->n<=3->Q (tKs ks):=fun ks n made D n1 n3=>hq ks (D.good hnd hM n1 n3 hw3) fun x hx=>hMw x (List.mem_of_mem_take (D.mn▸hx))
  have a1:x0∈(x0::x1::wr).take 1:=List.mem_cons_self;have a2:x0∈(x0::x1::wr).take 2:=List.mem_cons_self;have b2:x1∈(x0::x1::wr).take 2:=List.mem_cons_of_mem _ List.mem_cons_self;refine⟨rfl,aI (fun _=>?_) (fun _=>?_)⟩
  ·refine⟨rfl,_,t0,rfl,_,t1,rfl,rfl,?_⟩;exact mkf [(x0,[(m0,[]),(m1,[x0])])] 1 2 ⟨rfl,rfl,by decide,all1 ⟨List.cons_ne_nil _ _,leK 2 6⟩,all1 (all2 ⟨leK 0 4,vm⟩ ⟨leK 1 4,all1 a1⟩)⟩ (by decide) (by decide)
  refine⟨rfl,aI (fun _=>?_) (fun _=>?_)⟩
  ·refine⟨rfl,_,t0,rfl,_,t1,rfl,rfl,_,t2,rfl,rfl,?_⟩;exact mkf [(x0,[(m0,[]),(m1,[x0]),(m2,[x0])])] 1 3 ⟨rfl,rfl,by decide,all1 ⟨List.cons_ne_nil _ _,leK 3 6⟩,all1 (NM ⟨leK 0 4,vm⟩ ⟨leK 1 4,all1 a1⟩ ⟨leK 1 4,all1 a1⟩)⟩ (by decide) (by decide)
  refine⟨rfl,aI (fun _=>?_) (fun _=>?_)⟩
  ·refine⟨rfl,_,t0,rfl,_,t1,rfl,rfl,_,t2,rfl,_,t3,rfl,rfl,rfl,?_⟩;exact mkf [(x0,[(m0,[]),(m1,[])]),(x1,[(m2,[]),(m3,[x0,x1])])] 2 4 ⟨rfl,rfl,by decide,all2 ⟨List.cons_ne_nil _ _,leK 2 6⟩ ⟨List.cons_ne_nil _ _,leK 2 6⟩,all2 (all2 ⟨leK 0 4,vm⟩ ⟨leK 0 4,vm⟩) (all2 ⟨leK 0 4,vm⟩ ⟨leK 2 4,all2 a2 b2⟩)⟩ (by decide) (by decide)
  refine⟨rfl,aI (fun _=>?_) (fun _=>?_)⟩
  ·refine⟨rfl,_,t0,rfl,_,t1,rfl,rfl,rfl,?_⟩;exact mkf [(x0,[(m0,[]),(m1,[x0,x0])])] 1 2 ⟨rfl,rfl,by decide,all1 ⟨List.cons_ne_nil _ _,leK 2 6⟩,all1 (all2 ⟨leK 0 4,vm⟩ ⟨leK 2 4,all2 a1 a1⟩)⟩ (by decide) (by decide)
  refine⟨rfl,aI (fun _=>?_) (fun _=>?_)⟩
  ·refine⟨rfl,_,t0,rfl,_,t1,rfl,rfl,rfl,_,t2,rfl,rfl,?_⟩;exact mkf [(x0,[(m0,[]),(m1,[x1])]),(x1,[(m2,[x0])])] 2 3 ⟨rfl,rfl,by decide,all2 ⟨List.cons_ne_nil _ _,leK 2 6⟩ ⟨List.cons_ne_nil _ _,leK 1 6⟩,all2 (all2 ⟨leK 0 4,vm⟩ ⟨leK 1 4,all1 b2⟩) (all1 ⟨leK 1 4,all1 a2⟩)⟩ (by decide) (by decide)
  clear t0 t1 t2 t3 at0 at1 mkf a1 a2 b2 hw3
  generalize hMM:m0::m1::m2::m3::mr=M at hM lM hMw ⊢
  generalize hWW:x0::x1::wr=ws at hnd hl hMw hq ⊢
  refine⟨by decide,by decide,fun r2 r20 r21=>?_⟩
  refine⟨by omega,by omega,fun i q=>∃ ks made L o9 o10 o11 o12 o13,q = [.r .cN,.r (.l (ws.map .s)),.o (.i fm),.o (.s x0),.o (.s x1),.o (.l (M.map .s)),.o (.l L),.o (.i (1+r2)),.o (.i (made:Nat)),o9,o10,o11,o12,o13]/\L=ks.map tK/\mF ws M (1+r2).toNat ks i made,
   ⟨[],0,_,_,_,_,_,_,rfl,rfl,⟨rfl,rfl,Nat.le_refl _,(fun _ z=>nomatch z),(fun _ z=>nomatch z)⟩⟩,?_,?_⟩
  ·rintro i x q hx ⟨ks,made,L,o9,o10,o11,o12,o13,rfl,rfl,D⟩
   obtain⟨rfl,hi⟩:=fV hx;have hb1:=D.b1;have lks:ks.length=i:=by
    have:=congrArg List.length D.nm
    rw[List.length_map,List.length_take,Nat.min_eq_left (by omega)]at this
    exact this
   have hwi:i<ws.length:=by omega
   refine⟨_,rfl,rfl,_,JM 3 6 _,?_,?_,fun r5 r50 r51=>?_⟩
   ·split <;> decide
   ·split <;> decide
   have r5b:r5<6:=by split at r51 <;> omega
   refine⟨by omega,by omega,fun j q=>∃ ms dz L' o11 o12 o13,q = [.r .cN,.r (.l (ws.map .s)),.o (.i fm),.o (.s x0),.o (.s x1),.o (.l (M.map .s)),.o (.l (ks.map tK)),.o (.i (1+r2)),.o (.i (dz:Nat)),.r (.i (0+(i:Nat))),.o (.l L'),o11,o12,o13]/\L'=ms.map tM/\ms.length=j/\dz=made+j/\M.take made++ms.map (·.1)=M.take dz/\(∀ m∈ms,m.2.length<=4/\∀ f∈m.2,f∈ws.take (1+r2).toNat),
    ⟨[],made,_,_,_,_,rfl,rfl,rfl,rfl,by simp,fun _ z=>nomatch z⟩,?_,?_⟩
   ·rintro j x q hx ⟨ms,dz,L',o11,o12,o13,rfl,rfl,lms,emd,hmd,hfl⟩
    obtain⟨rfl,hj⟩:=fV hx;refine⟨_,rfl,by decide,by decide,fun r6 r60 r61=>?_⟩
    obtain⟨v,ev,hv⟩:=Fm (x:=3) (y:=3) (z:=5) r60 r61;refine⟨_,ev,by omega,by omega,fun r7 r70 r71=>?_⟩
    refine⟨.inl ⟨by omega,by omega⟩,?_⟩
    have hwd:∀ b:Bool,0<=r7*(if b=true then 1 else 0)/\r7*(if b=true then 1 else 0)<=4:=fun b=>by cases b <;> simp <;> omega
    obtain⟨w0,w4⟩:=hwd (decide (0<0+(i:Int)+(0+(j:Int))))
    generalize hwv:r7*(if decide (0<0+(i:Int)+(0+(j:Int)))=true then 1 else 0)=wide at w0 w4 ⊢
    refine⟨by omega,by omega,aC (by rw[cF];omega),fun p ys=>∃ fs:List Str,ys=fs.map .s/\fs.length=p/\∀ f∈fs,f∈ws.take (1+r2).toNat,⟨[],rfl,rfl,fun _ z=>nomatch z⟩,?_,?_⟩
    ·rintro p x ys hx ⟨fs,rfl,lf,hf⟩
     obtain⟨rfl,hp⟩:=fV hx;refine⟨_,rfl,by omega,by omega,fun r8 r80 r81=>?_⟩
     have h8:r8.toNat<ws.length:=by omega
     have e8:atI (ws.map L2.T.s) r8=some (.s ws[r8.toNat]):=by
      have:=dA (ws:=ws) (j:=r8.toNat) (w:=ws[r8.toNat]) (by simp[h8])
      rwa [Int.toNat_of_nonneg r80]at this
     refine⟨_,e8,rfl,fs ++ [ws[r8.toNat]],by simp,by simp[lf],fun f hff=>?_⟩
     rcases List.mem_append.mp hff with h|h
     ·exact hf f h
     ·rw[List.mem_singleton.mp h];exact List.mem_take_iff_getElem.mpr ⟨r8.toNat,Nat.lt_min.mpr ⟨(Int.toNat_lt_toNat (by omega)).mpr r81,h8⟩,rfl⟩
    ·rintro ys ⟨fs,rfl,lf,hf⟩
     rw[cF]at lf;have hi2:i<=2:=Nat.le_of_lt_succ (Nat.lt_of_lt_of_le hi (Int.toNat_le.mpr (show 1+r2<=3 by omega)))
     have hj5:j<=5:=Nat.le_of_lt_succ (Nat.lt_of_lt_of_le hj (Int.toNat_le.mpr (show 1+r5<=6 by omega)))
     have FE:dz<M.length:=by rw[emd,lM];exact Nat.lt_of_le_of_lt (Nat.add_le_add (Nat.le_trans hb1 (Nat.mul_le_mul_left 6 hi2)) hj5) (by decide)
     have em:atI (M.map L2.T.s) ((dz:Nat):Int)=some (.s M[dz]):=dA (by simp[FE])
     refine⟨aC (by rw[List.length_map];omega),_,em,rfl,aS _,?_⟩
     refine⟨ms ++ [(M[dz],fs)],dz+1,_,_,_,_,rfl,by simp[tM],by simp[lms],by omega,?_,fun m hm=>?_⟩
     ·rw[List.map_append,<- List.append_assoc,hmd];exact take_one (by simp[FE])
     ·rcases List.mem_append.mp hm with h|h
      ·exact hfl m h
      ·rw[List.mem_singleton.mp h];exact⟨by show fs.length<=4;omega,hf⟩
   ·rintro q ⟨ms,dz,L',o11,o12,o13,rfl,rfl,lms,emd,hmd,hfl⟩
    rw[cF]at lms emd;have ei:atI (ws.map L2.T.s) (0+((i:Nat):Int))=some (.s ws[i]):=by rw[Int.zero_add];exact dA (by simp[hwi])
    refine⟨aC (by rw[List.length_map];omega),_,ei,rfl,aT nE _,?_⟩
    refine⟨ks ++ [(ws[i],ms)],dz,_,_,_,_,_,_,rfl,by simp[tK,tMs],D.next (by simp[hwi]) hmd (fun z=>?_) (by omega) (by omega) hfl⟩
    rw[z]at lms;simp at lms;omega
  ·rintro q ⟨ks,made,L,o9,o10,o11,o12,o13,rfl,rfl,D⟩
   rw[cF]at D;refine⟨aT nF _,?_⟩;exact hq ks (D.good hnd hM (by omega) (by omega) (by omega)) fun x hx=>hMw x (List.mem_of_mem_take (D.mn▸hx))
theorem wq(T:Txt K mg a):bc P w K mg base CX0 2 a.jQ a.Br ["_law_deal_here","_law_scope","_law_some"] (spQ K ud):=by
 have aR:=iG (@fq P w K mg base a T);refine T.mO.F.okQ kG (fun ts Q h=>?_) (fun _ _ _ _ _ _ hr=>?_)
 ·obtain⟨sc,fs,t,_,rfl,_⟩:=h;rfl
 ·have hu:=bR hr;refine⟨_,_,((ag (aF 3 kG.nd (aM ai))
 (ag (cv (g:=(Tg.nm 4)) PassesOwn.never rfl (GC (i:=2) (pv 2)) (bI 4 kG.nd)
 (ag (gI (i:=5) kG.nd rfl (Or.inl rfl) rfl (cG (qv 1)) (N':=["_law_name","_law_other","_law_kind"]) (.own rfl (.own rfl (.got (i:=4) rfl rfl (.inl rfl) .nil))) (t6 (g:=(Tg.tp [0,1])) (fun _ _ _ _ _=>⟨(fh (cw 0) (cw 1)),(bQ hu (qv 1) (qv 2)),(QPE.f (qv 0))⟩)))
 (ag (a7 (bQ hu (qv 5) (QPF.w (aM ai)))
 (aq (aD cQ))
 aH)
 (aq (a6 (i:=3) (pv 3) (QPE.f (ao (qv 5) (QPF.w (cm (gX rfl) tw (by rfl) T.w6 (by kernel_rfl) (ae (QPF.w (aU aR hr T.aX (ae (qv 0) (ae (QPF.w (bS T.cC (ae (qv 5) ay))) ay)))) (ae (QPF.w (aU aR hr T.aX (ae (qv 0) (ae (QPF.w (bS T.cC (ae (qv 5) ay))) ay)))) ay)))))))))))
 (aq (aD (aO (b6 rfl) bX (by rfl) T.cL (by kernel_rfl) (ae (qv 3) ay))))))),fun ts Q h=>?_⟩
  obtain⟨sc,fs,t,ht,rfl,hsc,hfs,hn,hq⟩:=h;rcases ht with rfl|rfl
  all_goals
   refine⟨fun i q=>∃ ns o4 o5 L,q = [.r .cN,.r (.l (sc.map tP)),.r _,.o (.l L),o4,o5]/\L=ns.map .s/\Fills sc ns (fs.take i),⟨[],_,_,_,rfl,rfl,rfl,fun _ z=>nomatch z⟩,?_,?_⟩
   ·rintro i x q hx ⟨ns,o4,o5,L,rfl,rfl,hF⟩
    rw[List.getElem?_map]at hx;obtain⟨f,hf,rfl⟩:=Option.map_eq_some_iff.mp hx;have hif:i<fs.length:=(List.getElem?_eq_some_iff.mp hf).1;refine⟨_,rfl,aC (by rw[List.length_map];omega),fun k ys=>∃ os:List Str,ys=os.map .s/\os.length<=k/\∀ n∈os,(n,f)∈sc,⟨[],rfl,Nat.le_refl _,fun _ z=>nomatch z⟩,?_,?_⟩
    ·rintro k x ys hx ⟨os,rfl,lo,ho⟩
     rw[List.getElem?_map]at hx;obtain⟨p,hp,rfl⟩:=Option.map_eq_some_iff.mp hx;refine⟨_,rfl,rfl,aI (fun e=>⟨rfl,os ++ [p.1],by simp,by simp;omega,fun n hn=>?_⟩) (fun _=>⟨os,rfl,by omega,ho⟩)⟩
     rcases List.mem_append.mp hn with h|h
     ·exact ho n h
     ·rw[List.mem_singleton.mp h];have e':(L2.T.s p.2).v =(L2.T.s f).v:=by simpa using e
      have e2:p.2=f:=V.str.inj e';rw[<- e2];exact List.mem_of_getElem? hp
    ·rintro ys ⟨os,rfl,lo,ho⟩
     rw[List.length_map]at lo;refine⟨by rw[jk];rfl,aI (fun _=>hn) (fun hne=>?_)⟩
     have l0:0<os.length:=by
      cases os with
      | nil=>exact absurd rfl hne
      | cons _ _=>simp
     have ln:ns.length=i:=by rw[hF.1,List.length_take];omega
     have lo':((os.map L2.T.s).length:Int)=os.length:=by rw[List.length_map]
     refine⟨aC (by rw[List.length_map];omega),by rw[lo'];omega,by rw[lo'];omega,fun r r0 r1=>⟨by rw[lo'];omega,by rw[lo'];omega,fun r' r0' r1'=>?_⟩⟩
     rw[lo']at r1 r1';have hm:∃ m:Int,(if r' > r then r' else r)=m/\0<=m/\m<os.length:=⟨_,rfl,by split <;> omega,by split <;> omega⟩
     obtain⟨m,em,m0,m1⟩:=hm;have hmo:m.toNat<os.length:=by omega
     refine⟨.s os[m.toNat],(by show atI (os.map L2.T.s) (if r' > r then r' else r)=_;rw[em];exact Ic m0 hmo),rfl,ns ++ [os[m.toNat]],_,_,_,rfl,by simp,?_⟩
     rw[<- take_one hf];exact hF.snoc (ho _ (List.getElem_mem _))
   ·rintro q ⟨ns,o4,o5,L,rfl,rfl,hF⟩
    rw[List.length_map,List.take_length]at hF;exact⟨aS _,hq ns hF⟩
theorem Az(T:Txt K mg a):bc P w K mg base CX0 3 a.gT a.wV ["_law_deal_here","_law_world","_law_scope","_law_kind","_law_f"] (spQ K kK):=by
 have mI:=@wq P w K mg base a T;refine T.q5.F.okQ cj (fun ts Q h=>?_) (fun _ _ _ _ _ _ hr=>?_)
 ·obtain⟨ks,hs,ws,sc,f,h,rfl,_⟩:=h;rfl
 ·have hu:=bR hr;refine⟨_,_,((ag (oK (g:=(Tg.tp [5,6,7])) (i:=1) (pv 1) (ja (K:=K) (n:=3) rfl rfl (bB (bI 5 cj.nd) (bB (bI 6 cj.nd) (bB (bI 7 cj.nd) i9)))))
 (ag (aF 8 cj.nd (aU mI hr T.mO (ae (qv 0) (ae (qv 2) (ae (QPF.w (aM (af (QPE.f (qv 3)) ai))) ay)))))
 (ag (a7 (bF kN iX (bj _) (qv 8) (QPF.w cQ))
 (aq (aD (av (af aW (af (QPE.f (ao (qv 8) ah)) ai)))))
 aH)
 (ag (aF 9 cj.nd (QPE.f (ao (qv 7) (QPF.w (bS T.cC (ae (qv 2) ay))))))
 (ag (cv (g:=(Tg.tp [10,11])) PassesOwn.never rfl (oM (QPE.f (fe (QPF.w (aO (bU rfl) cu (by rfl) T.gw (by kernel_rfl) (ae (qv 5) ay))) (qv 3)))) (fh (bI 10 cj.nd) (bI 11 cj.nd))
 (ag (aF 12 cj.nd (aU mI hr T.mO (ae (qv 0) (ae (qv 2) (ae (qv 11) ay)))))
 (aq (a7 (bF kN iX (bj _) (qv 12) (QPF.w cQ))
 (aq (aD (av (af aW (af (QPE.f (qv 9)) (af (QPE.f (qv 10)) (af (QPE.f (qv 12)) (af (av (af aW (af (QPE.f (qv 9)) ai))) ai))))))))
 aH))))
 (ag (aF 12 cj.nd (aO (b6 rfl) bX (by rfl) T.cL (by kernel_rfl) (ae (QPF.w (bt rfl (cG (QPF.w (cX (qv 2) dJ (dH (QPF.w (bS T.cC (ae (ao (ao (qv 6) (qv 4)) ah) ay))))))) (N':=["_law_name","_law_other"]) (.own rfl (.own rfl .nil)) (bH (g:=(Tg.tp [0,1])) (fun _ _ _ _ _=>⟨(fh (cw 0) (cw 1)),(QPE.f (qv 0))⟩)))) ay)))
 (aq (aD (av (af aW (af (QPE.f (qv 9)) (af (QPE.f (ao (ao (qv 6) (qv 4)) ah)) (af (QPE.f (qv 12)) (af (av (af aW (af (QPE.f (qv 9)) ai))) ai))))))))))))))),fun ts Q hh=>?_⟩
  obtain⟨ks,hs,ws,sc,f,h,rfl,W,hf,S,hq⟩:=hh;have Ee:h∈hs:=List.mem_of_getElem? hf;obtain⟨hp1,hp2,hp3,hp4⟩:=W.hp h Ee;have ef:atI (hs.map tH) (f:Int)=some (tH h):=bE (by rw[List.getElem?_map,hf];rfl)
  have hsl:sc.length<ws.length:=by have:=S.ln;have:=W.wl;omega
  have ex:atI (ws.map L2.T.s) ((sc.map tP).length:Int)=some (.s ws[sc.length]):=by rw[List.length_map];exact dA (List.getElem?_eq_getElem hsl)
  have fx:ws[sc.length] ∉ sc.map (·.1):=S.fresh W.wn (List.getElem?_eq_getElem hsl)
  generalize ws[sc.length]=x at ex fx
  refine⟨_,rfl,rfl,sc,[h.2.2],_,.inr rfl,rfl,by have:=S.ln;omega,by show 1<=1000;decide,?_,fun ns hF=>?_⟩
  ·obtain⟨kd,hkd,ek⟩:=Fz hp4;refine⟨_,ex,rfl,aT nF ks,_,jc ks,_,jJ W.gk.nd hp4,l7 _,fun i q=>∃ o10 o11 o12,q = [.r .cN,.r (tW ks hs ws),.r (.l (sc.map tP)),.r (.s h.2.2),.r (.i f),.r (tKs ks),.r (.l (hs.map tH)),.r (.l (ws.map .s)),.o .n,.o (.s x),o10,o11,o12],⟨_,_,_,rfl⟩,?_,?_⟩
   ·rintro i t q hx ⟨o10,o11,o12,rfl⟩
    rw[List.getElem?_map]at hx;obtain⟨m,hm,rfl⟩:=Option.map_eq_some_iff.mp hx;have hm':m∈kd.2:=by rw[<- so W.gk.nd hkd,ek];exact List.mem_of_getElem? hm
    refine⟨_,rfl,sc,m.2,_,.inl rfl,rfl,by have:=S.ln;omega,by have:=(W.gk.fl kd hkd m hm').1;omega,⟨_,_,_,rfl⟩,fun ns hF=>?_⟩
    refine⟨rfl,rfl,aS _,rfl,hq 2 _ (by decide) (.make hkd hm' hF fx (.give ?_)) (jl mh (Nat.le_refl _))⟩
    rw[ek];simp
   ·rintro q ⟨o10,o11,o12,rfl⟩
    have ec:cZ (sc.map tP) none (some ((h.2.1.map tP).length:Int))=h.2.1.map tP:=by rw[List.length_map,Bv (by rw[List.length_map];exact S.p1),<- List.map_take,S.pf]
    refine⟨_,ef,_,rfl,aT dM _,?_⟩;rw[ec];refine⟨aC (by rw[List.length_map];omega),fun i ys=>ys =((h.2.1.take i).map (·.1)).map .s,rfl,?_,?_⟩
    ·rintro i t ys hx rfl
     rw[List.getElem?_map]at hx;obtain⟨p,hp,rfl⟩:=Option.map_eq_some_iff.mp hx;refine⟨_,rfl,rfl,?_⟩;show _ ++ [L2.T.s p.1]=_;rw[List.take_add_one,hp];simp
    ·rintro ys rfl
     rw[List.length_map,List.take_length];refine⟨aS _,rfl,_,ef,_,rfl,rfl,aS _,rfl,hq 2 _ (by decide) (.call Ee ?_ fx (.give (by simp))) (jl mh (Nat.le_refl _))⟩
     have z:=Fills.self (sc:=sc) (n:=h.2.1.length)
     rwa [S.pf]at z
  ·obtain⟨n,rfl⟩:∃ n,ns = [n]:=by
    match ns,hF.1 with
    | [n],_=>exact⟨n,rfl⟩
   exact⟨_,rfl,rfl,hq 1 _ (by decide) (.give (hF.2 (n,h.2.2) (by simp))) mh⟩
theorem DK(T:Txt K mg a)(N:Nat)(fB:bc P w K mg base CX0 (2*N+3) a.iF a.u9 ["_law_deal_here","_law_world","_law_scope","_law_f","_law_room"] (spQ K (ip N))):bc P w K mg base CX0 (2*N+4) a.jT a.Bu ["_law_deal_here","_law_world","_law_scope","_law_f","_law_room"] (spQ K (GU N)):=by
 have aR:=iG (@fq P w K mg base a T);refine T.B5.F.okQ cp (fun ts Q h=>?_) (fun _ _ _ _ _ _ hr=>?_)
 ·obtain⟨ks,hs,ws,sc,f,h,u,rfl,_⟩:=h;rfl
 ·have hu:=bR hr;refine⟨_,_,((ag (oK (g:=(Tg.tp [5,6,7])) (i:=1) (pv 1) (ja (K:=K) (n:=3) rfl rfl (bB (bI 5 cp.nd) (bB (bI 6 cp.nd) (bB (bI 7 cp.nd) i9)))))
 (ag (lu (g:=(Tg.tp [8,9])) (ao (qv 2) (QPF.w (cm (gX rfl) tw (by rfl) T.w6 (by kernel_rfl) (ae (QPF.w (aU aR hr T.aX (ae (qv 0) (ae (QPF.w (bS T.cC (ae (qv 2) ay))) ay)))) (ae (QPF.w (aU aR hr T.aX (ae (qv 0) (ae (QPF.w (bS T.cC (ae (qv 2) ay))) ay)))) ay))))) (fh (bI 8 cp.nd) (bI 9 cp.nd)))
 (ag (aF 10 cp.nd (QPE.f (fe (QPF.w (aO (bU rfl) cu (by rfl) T.gw (by kernel_rfl) (ae (qv 5) ay))) (qv 9))))
 (ag (rJ (i:=4) (pv 4) (pv 4) (QPF.w (bS T.cC (ae (qv 10) ay))))
 (ag (aF 11 cp.nd (aM ai))
 (ag (cv (g:=(Tg.tp [12,13])) PassesOwn.never rfl (oM (QPE.f (qv 10))) (fh (bI 12 cp.nd) (bI 13 cp.nd))
 (ag (gI (i:=14) cp.nd rfl (Or.inl rfl) rfl (vV rfl T.c6 (by kernel_rfl) (ae (qv 13) ay)) (N':=["_law_k","_law_field","_law_words_here","_law_scope"]) (.own rfl (.own rfl (.got (i:=7) rfl rfl (.inl rfl) (.got (i:=2) rfl rfl (.inl rfl) .nil)))) (bH (g:=(Tg.tp [0,1])) (fun _ _ _ _ _=>⟨(fh (cw 0) (cw 1)),(av (af (QPE.f (ao (qv 2) (QPF.w (bq (QPF.w (bS T.cC (ae (qv 3) ay))) (qv 0))))) (af (QPE.f (qv 1)) ai)))⟩)))
 (ag (aF 15 cp.nd (aO (b6 rfl) bX (by rfl) T.cL (by kernel_rfl) (ae (QPF.w (bt rfl (cG (qv 14)) (N':=["_law_name","_law_field"]) (.own rfl (.own rfl .nil)) (bH (g:=(Tg.tp [0,1])) (fun _ _ _ _ _=>⟨(fh (cw 0) (cw 1)),(QPE.f (qv 0))⟩)))) ay)))
 (aq (a6 (i:=11) (pv 11) (av (af (QPE.f (qv 12)) (af (QPE.f (qv 15)) (af (aU fB hr T.iT (ae (qv 0) (ae (qv 1) (ae (QPF.w (bq (qv 2) (qv 14))) (ae (qv 3) (ae (qv 4) ay)))))) ai)))))))))
 (aq (aD (av (af aW (af (QPE.f (qv 8)) (af (aO (b6 rfl) bX (by rfl) T.cL (by kernel_rfl) (ae (qv 11) ay)) ai))))))))))))),fun ts Q hh=>?_⟩
  obtain⟨ks,hs,ws,sc,f,h,u,rfl,W,hf,S,hl,hne,huN,hq⟩:=hh;have l0:0<sc.length:=List.length_pos_iff.mpr hne;have lsc:((sc.map tP).length:Int)=sc.length:=by rw[List.length_map]
  refine⟨_,rfl,by rw[lsc];omega,by rw[lsc];omega,fun r r0 r1=>⟨by rw[lsc];omega,by rw[lsc];omega,fun r' r0' r1'=>?_⟩⟩
  rw[lsc]at r1 r1';obtain⟨m0,m1⟩:=max_two r0 r1 r0' r1';obtain⟨⟨x,k⟩,hx,ex⟩:=gc (f:=tP) m0 m1;refine⟨tP (x,k),ex,rfl,_,rfl,?_⟩;obtain⟨kd,hkd,ek⟩:=Fz (S.kd _ hx);obtain rfl:kd.1=k:=ek;have em:=so W.gk.nd hkd;refine⟨aT nF ks,_,jc ks,tMs kd.2,by rw[jJ W.gk.nd (S.kd _ hx),em],l7 _,Int.natCast_nonneg _,?_⟩
  obtain⟨ne1,ne6⟩:=W.gk.ne kd hkd;have lk1:1<=kd.2.length:=List.length_pos_iff.mpr ne1;have lkm:((kd.2.map tM).length:Int)=kd.2.length:=by rw[List.length_map]
  have wl:=W.wl;have e1:(u - ((kd.2.map tM).length:Int)).toNat=u.toNat - kd.2.length:=by rw[lkm];omega
  generalize u - ((kd.2.map tM).length:Int)=u' at e1 ⊢
  refine⟨l7 kd.2,fun i q=>∃ arms L o12 o13 o14 o15,q = [.r .cN,.r (tW ks hs ws),.r (.l (sc.map tP)),.r (.i f),.r (.rm u'),.r (tKs ks),.r (.l (hs.map tH)),.r (.l (ws.map .s)),.r (.s x),.r (.s kd.1),.o (tMs kd.2),.o (.l L),o12,o13,o14,o15]/\L=arms.map tA/\m7 ks hs h.2.2 sc (sz u'.toNat) (3*u'.toNat+2) arms (kd.2.take i),
   ⟨[],_,_,_,_,_,rfl,rfl,⟨rfl,fun i a m h1=>by simp at h1⟩⟩,?_,?_⟩
  ·rintro i t q hx ⟨arms,L,o12,o13,o14,o15,rfl,rfl,hA⟩
   rw[List.getElem?_map]at hx;obtain⟨m,hm,rfl⟩:=Option.map_eq_some_iff.mp hx;obtain⟨fl4,flk⟩:=W.gk.fl kd hkd m (List.mem_of_getElem? hm);have hik:i<kd.2.length:=(List.getElem?_eq_some_iff.mp hm).1;have lA:arms.length=i:=by rw[hA.ln,List.length_take];omega
   obtain⟨ln,ndn,S'⟩:=S.more (ns:=(ws.drop sc.length).take m.2.length) W.wn rfl (by omega) (by omega) flk
   refine⟨_,rfl,aC (by rw[bO,List.length_map];omega),fun j ys=>ys =(((ws.drop sc.length).take j).zip (m.2.take j)).map tP,rfl,?_,?_⟩
   ·rintro j y ys hy rfl
    obtain⟨z,hz,rfl⟩:=dE hy;rw[List.getElem?_map]at hz;obtain⟨g,hg,rfl⟩:=Option.map_eq_some_iff.mp hz;have hjm:j<m.2.length:=(List.getElem?_eq_some_iff.mp hg).1;have hwj:sc.length+j<ws.length:=by omega
    have ew:atI (ws.map L2.T.s) (((sc.map tP).length:Int)+(j:Nat))=some (.s ws[sc.length+j]):=by
     rw[List.length_map];exact dA (j:=sc.length+j) (List.getElem?_eq_getElem hwj)
    refine⟨_,rfl,_,ew,rfl,rfl,?_⟩;show _ ++ [tP (ws[sc.length+j],g)]=_;rw[yP (a:=ws[sc.length+j]) (by rw[List.getElem?_drop,List.getElem?_eq_getElem hwj]) hg,List.map_append]
    rfl
   ·rintro ys rfl
    rw[show(fD (m.2.map L2.T.s)).length=m.2.length by rw[bO,List.length_map],List.take_length]
    generalize hns:(ws.drop sc.length).take m.2.length=ns at ln ndn S' ⊢
    refine⟨aC (by rw[List.length_map,List.length_zip];omega),fun j ys=>ys =(((ns.zip m.2).take j).map (·.1)).map .s,rfl,?_,?_⟩
    ·rintro j y ys hy rfl
     rw[List.getElem?_map]at hy;obtain⟨p,hp,rfl⟩:=Option.map_eq_some_iff.mp hy;refine⟨_,rfl,rfl,?_⟩;show _ ++ [L2.T.s p.1]=_;rw[List.take_add_one,hp];simp
    ·rintro ys rfl
     rw[show((ns.zip m.2).map tP).length =(ns.zip m.2).length by rw[List.length_map],List.take_length,vD ln]
     refine⟨aS _,aC (by rw[List.length_map];omega),rfl,aS _,bh (by rw[List.length_map,List.length_map,List.length_zip];omega),aT dM _,aT dM _,ks,hs,ws,sc++ns.zip m.2,f,h,_,by rw[List.map_append],W,hf,S',by rw[List.length_append,List.length_zip];omega,by omega,fun n b hn hb dd=>?_⟩
     refine⟨arms ++ [(m.1,ns,b,n)],_,_,_,_,_,rfl,by simp[tA],?_⟩
     rw[List.take_add_one,hm];exact hA.snoc ⟨rfl,ln,ndn,hb,hn,dd⟩
  ·rintro q ⟨arms,L,o12,o13,o14,o15,rfl,rfl,hA⟩
   rw[List.length_map,List.take_length]at hA;obtain⟨hS,hle⟩:=hA.snd hx hkd;refine⟨rfl,hA.im,hq _ _ ?_ hS ((hA.dep (by omega)).mono (by omega))⟩
   rw[hA.ln,e1]at hle
   have:=Cn (n:=u.toNat) lk1 ne6
   omega
def qMk(N:Nat):QS:=oP (zY (Tg.tp [17,18]) (qOp qIx (aZ 5) (eM jF (aG (aZ 0) (aG (qCB t9 (aG (aZ 5) cY)) cY)))))
 (oP (zY (Tg.tp [19,20]) (qOp qIx (aZ 18) (eM jF (aG (aZ 0) (aG (qCB t9 (aG (aZ 18) cY)) cY)))))
  (oP (t7 16 (eM ud (aG (aZ 0) (aG (aZ 2) (aG (aZ 20) cY)))))
   (oP (C6 (nq (qOp (xS false) (aZ 16) (qC .n))) (fun D q=>eM kK (aG (aZ 0) (aG (aZ 1) (aG (aZ 2) (aG (aZ 8) (aG (aZ 3) cY))))) q D.rt) vZ)
    fun D q=>rK (aG (qC (.s (Str.ofString "make"))) (aG (qIm (aZ 10)) (aG (qIm (aZ 19)) (aG (qIm (aZ 16)) (aG (eM (ip N) (aG (aZ 0) (aG (aZ 1) (aG (qOp xT (aZ 2) (C5 (aG (rK (aG (qIm (aZ 10)) (aG (qIm (aZ 17)) cY))) cY))) (aG (aZ 3) (aG (aZ 4) cY)))))) cY))))) q D.rt)))
def qCl(N:Nat):QS:=oP (C6 (nq (qOp C7 (aZ 9) (qC (.i 6))))
 (oP (t7 15 (eM jF (aG (aZ 0) (aG (qCB t9 (aG (aZ 6) cY)) cY))))
  (oP (t7 16 (eM ud (aG (aZ 0) (aG (aZ 2) (aG (v7 [none] (asT (qOp qIx (qOp qIx (aZ 6) (aZ 15)) (qC (.i 1)))) (Tg.nm 0) zZ (qIm (qOp qIx (aZ 0) (qC (.i 1))))) cY)))))
   (C6 (nq (qOp (xS true) (aZ 16) (qC .n))) (fun D q=>rK (aG (qC (.s (Str.ofString "call"))) (aG (qIm (aZ 10)) (aG (qIm (qOp qIx (qOp qIx (aZ 6) (aZ 15)) (qC (.i 0)))) (aG (qIm (aZ 16)) (aG (eM (ip N) (aG (aZ 0) (aG (aZ 1) (aG (qOp xT (aZ 2) (C5 (aG (rK (aG (qIm (aZ 10)) (aG (qIm (qOp qIx (qOp qIx (aZ 6) (aZ 15)) (qC (.i 2)))) cY))) cY))) (aG (aZ 3) (aG (aZ 4) cY)))))) cY))))) q D.rt) vZ))) vZ) (qMk N)
def qNm(N:Nat):QS:=oP (zY (Tg.tp [13,14]) (qOp qIx (aZ 2) (eM jF (aG (aZ 0) (aG (qCB t9 (aG (aZ 2) cY)) cY)))))
 fun D q=>rK (aG (qC (.s (Str.ofString "name"))) (aG (qIm (aZ 10)) (aG (qIm (aZ 13)) (aG (eM (ip N) (aG (aZ 0) (aG (aZ 1) (aG (qOp xT (aZ 2) (C5 (aG (rK (aG (qIm (aZ 10)) (aG (qIm (aZ 14)) cY))) cY))) (aG (aZ 3) (aG (aZ 4) cY)))))) cY)))) q D.rt
structure xw(N B D:Nat)(ks:List Kd)(hs:List Hd)(ws:List Str)(sc:Sc)(f:Nat)(h:Hd)(u:Int)(x:Str)(Q:L2.T->Prop):Prop where
 W:Wld ks hs ws
 kd:∀ p∈sc,p.2∈ks.map (·.1)
 l16:sc.length<=16
 fx:x ∉ sc.map (·.1)
 hE:kK [.cN,tW ks hs ws,.l (sc.map tP),.s h.2.2,.i f] Q
 go:∀{k:Str},k∈ks.map (·.1)->∀{Q':L2.T->Prop},(∀ n b,n<=B->Snd ks hs h.2.2 n (sc ++ [(x,k)]) b->Dep D b->Q' b)->ip N [.cN,tW ks hs ws,.l (sc.map tP ++ [tP (x,k)]),.i f,.rm u] Q'
 hq:∀ n b,n<=B+1->Snd ks hs h.2.2 n sc b->Dep (D+1) b->Q b
 d1:1<=D
theorem vR{f:Nat}{h:Hd}{Q:L2.T->Prop}(C:xw N B D ks hs ws sc f h u x Q)(o10 o11 o12 o13 o14 o15 o16 o17 o18 o19:Sl) :
  qMk N { nx:=fun _=>Q .n,rt:=Q } [.r .cN,.r (tW ks hs ws),.r (.l (sc.map tP)),.r (.i f),.r (.rm u),.r (tKs ks),.r (.l (hs.map tH)),.r (.l (ws.map .s)),.o (.s h.2.2),.o (.i fm),.o (.s x),o10,o11,o12,o13,o14,o15,o16,o17,o18,o19]:=by
 obtain⟨W,kdm,h3,fx,hE,go,hq,d1⟩:=C;have lk:((ks.map tK).length:Int)=ks.length:=by rw[List.length_map]
 have k1:=W.gk.k1;have k2:=W.gk.k2;refine⟨by rw[lk];omega,by rw[lk];omega,fun r6 r60 r61=>?_⟩
 rw[lk]at r61;obtain⟨kd,hkd,ek⟩:=gc (f:=tK) r60 r61;obtain⟨ne1,ne6⟩:=W.gk.ne kd hkd;have lm:((kd.2.map tM).length:Int)=kd.2.length:=by rw[List.length_map]
 have l1:1<=kd.2.length:=List.length_pos_iff.mpr ne1;refine⟨_,ek,nF kd,_,rfl,by rw[lm];omega,by rw[lm];omega,fun r7 r70 r71=>?_⟩
 rw[lm]at r71;obtain⟨m,hm,em⟩:=gc (f:=tM) r70 r71;refine⟨_,em,nE m,_,rfl,sc,m.2,_,.inl rfl,rfl,by omega,by have:=(W.gk.fl kd hkd m hm).1;omega,hE,fun ns hF=>?_⟩
 refine⟨rfl,rfl,aS _,rfl,rfl,bh (by rw[List.length_map];show sc.length+1<=10000;omega),aT dM _,rfl,?_⟩
 exact go (List.mem_map.mpr ⟨kd,hkd,rfl⟩) fun n b hn hb dd=>hq (n+1) _ (by omega) (.make hkd hm hF fx hb) (jl dd d1)
theorem CM{f:Nat}{h:Hd}{Q:L2.T->Prop}{nx:Sq->Prop}(C:xw N B D ks hs ws sc f h u x Q)(hne:sc ≠ [])(o10 o11 o12 o13 o14 o15 o16 o17 o18 o19:Sl) :
  qNm N { nx:=nx,rt:=Q } [.r .cN,.r (tW ks hs ws),.r (.l (sc.map tP)),.r (.i f),.r (.rm u),.r (tKs ks),.r (.l (hs.map tH)),.r (.l (ws.map .s)),.o (.s h.2.2),.o (.i fm),.o (.s x),o10,o11,o12,o13,o14,o15,o16,o17,o18,o19]:=by
 obtain⟨W,kdm,h3,fx,hE,go,hq,d1⟩:=C;have lsc:((sc.map tP).length:Int)=sc.length:=by rw[List.length_map]
 have l0:0<sc.length:=List.length_pos_iff.mpr hne;refine⟨by rw[lsc];omega,by rw[lsc];omega,fun r5 r50 r51=>?_⟩
 rw[lsc]at r51;obtain⟨⟨y,k⟩,hy,ey⟩:=gc (f:=tP) r50 r51;refine⟨_,ey,rfl,_,rfl,rfl,rfl,rfl,rfl,bh (by rw[List.length_map];show sc.length+1<=10000;omega),aT dM _,rfl,?_⟩
 exact go (kdm _ hy) fun n b hn hb dd=>hq (n+1) _ (by omega) (.name hy fx hb) (Bm dd)
theorem CO{f:Nat}{h:Hd}{Q:L2.T->Prop}(C:xw N B D ks hs ws sc f h u x Q)(o10 o11 o12 o13 o14 o15 o16 o17 o18 o19:Sl) :
  qCl N { nx:=fun _=>Q .n,rt:=Q } [.r .cN,.r (tW ks hs ws),.r (.l (sc.map tP)),.r (.i f),.r (.rm u),.r (tKs ks),.r (.l (hs.map tH)),.r (.l (ws.map .s)),.o (.s h.2.2),.o (.i fm),.o (.s x),o10,o11,o12,o13,o14,o15,o16,o17,o18,o19]:=by
 obtain⟨W,kdm,h3,fx,hE,go,hq,d1⟩:=id C;refine⟨rfl,aI (fun _=>?_) (fun _=>vR C _ _ _ _ _ _ _ _ _ _)⟩
 have lh:((hs.map tH).length:Int)=hs.length:=by rw[List.length_map]
 have h1':=W.h1;have h8':=W.h8;refine⟨by rw[lh];omega,by rw[lh];omega,fun g g0 g1=>?_⟩
 rw[lh]at g1;obtain⟨hd,hhd,eg⟩:=gc (f:=tH) g0 g1;obtain⟨q1,q2,q3,q4⟩:=W.hp hd hhd;refine⟨_,eg,_,rfl,aC (by rw[List.length_map];omega),fun i ys=>ys =((hd.2.1.take i).map (·.2)).map .s,rfl,?_,?_⟩
 ·rintro i t ys ht rfl
  rw[List.getElem?_map]at ht;obtain⟨p,hp,rfl⟩:=Option.map_eq_some_iff.mp ht;refine⟨_,rfl,_,rfl,rfl,?_⟩;show _ ++ [L2.T.s p.2]=_;rw[List.take_add_one,hp];simp
 ·rintro ys rfl
  rw[show(hd.2.1.map tP).length=hd.2.1.length by rw[List.length_map],List.take_length]
  refine⟨sc,hd.2.1.map (·.2),_,.inr rfl,rfl,by omega,by rw[List.length_map];omega,vR C _ _ _ _ _ _ _ _ _ _,fun ns hF=>?_⟩
  refine⟨rfl,_,eg,_,rfl,rfl,aS _,rfl,_,eg,_,rfl,rfl,bh (by rw[List.length_map];show sc.length+1<=10000;omega),aT dM _,rfl,?_⟩
  exact go q4 fun n b hn hb dd=>hq (n+1) _ (by omega) (.call hhd hF fx hb) (jl dd d1)
theorem JL{r:Int}(h0:0<=r)(h1:r<3):∃ w:Str,atI [L2.T.s "pay",L2.T.s "pay",L2.T.s "get"] r=some (.s w)/\(w = "pay" \/ w = "get"):=by
 obtain⟨n,rfl⟩:∃ n:Nat,r=n:=⟨r.toNat,by omega⟩
 match n,h1 with
 | 0,_=>exact⟨_,rfl,.inl rfl⟩
 | 1,_=>exact⟨_,rfl,.inl rfl⟩
 | 2,_=>exact⟨_,rfl,.inr rfl⟩
 | n+3,h=>omega
theorem DL(T:Txt K mg a)(N:Nat):bc P w K mg base CX0 (2*N+3) a.iF a.u9 ["_law_deal_here","_law_world","_law_scope","_law_f","_law_room"] (spQ K (ip N)):=by
 induction N with
 | zero =>
  refine never fun ts Q hh=>?_
  obtain⟨ks,hs,ws,sc,f,h,u,rfl,W,hf,S,hl,huN,hq⟩:=hh;omega
 | succ N fB =>
  have Io:=DK T N fB;have aR:=iG (@fq P w K mg base a T);have mI:=@wq P w K mg base a T;have xh:=@Az P w K mg base a T;refine T.iT.F.okQ br (fun ts Q h=>?_) (fun _ _ _ _ _ _ hr=>?_)
  ·obtain⟨ks,hs,ws,sc,f,h,u,rfl,_⟩:=h;rfl
  ·have hu:=bR hr;refine⟨_,_,((ag (oK (g:=(Tg.tp [5,6,7])) (i:=1) (pv 1) (ja (K:=K) (n:=3) rfl rfl (bB (bI 5 br.nd) (bB (bI 6 br.nd) (bB (bI 7 br.nd) i9)))))
 (ag (aF 8 br.nd (QPE.f (ao (ao (qv 6) (qv 3)) ah)))
 (ag (aF 9 br.nd (aU aR hr T.aX (ae (qv 0) (ae ah ay))))
 (ag (a7 (QPW.pt (lr (zM (C0 (qv 4) ah) ah) (lr (bQ hu (qv 9) ah) (lj (Jl (QPF.w (bS T.cC (ae (qv 2) ay))) ah)))))
 (aq (aD (aU xh hr T.q5 (ae (qv 0) (ae (qv 1) (ae (qv 2) (ae (qv 8) (ae (qv 3) ay))))))))
 aH)
 (ag (rJ (i:=4) (pv 4) (pv 4) ah)
 (ag (aF 10 br.nd (QPE.f (ao (qv 7) (QPF.w (bS T.cC (ae (qv 2) ay))))))
 (ag (a7 (zM (qv 9) ah)
 (ag (aF 11 br.nd (bq ah (QPF.w (aU aR hr T.aX (ae (qv 0) (ae (QPF.w (jC (aM (af bG (af bG (af bG ai)))) (QPF.w (aU aR hr T.aX (ae (qv 0) (ae ah ay)))))) ay))))))
 (ag (aF 12 br.nd (jC (aM (gL (by rfl))) (QPF.w (aU aR hr T.aX (ae (qv 0) (ae ah ay))))))
 (aq (aD (av (af (QPE.f (qv 12)) (af (QPE.f (qv 11)) (af (aU fB hr T.iT (ae (qv 0) (ae (qv 1) (ae (qv 2) (ae (qv 3) (ae (qv 4) ay)))))) ai))))))))
 aH)
 (ag (a7 (QPW.pt (tZ (zM (qv 9) ah) (oI (bF (rX hu rfl) ng (bj _) (qv 2) (QPF.w (aM ai))))))
 (aq (aD (aU Io hr T.B5 (ae (qv 0) (ae (qv 1) (ae (qv 2) (ae (qv 3) (ae (qv 4) ay))))))))
 aH)
 (ag (a7 (QPW.pt (tZ (bQ hu (qv 9) ah) (oI (bF (rX hu rfl) ng (bj _) (qv 2) (QPF.w (aM ai))))))
 (ag (lu (g:=(Tg.tp [13,14])) (ao (qv 2) (QPF.w (aU aR hr T.aX (ae (qv 0) (ae (QPF.w (bS T.cC (ae (qv 2) ay))) ay))))) (fh (bI 13 br.nd) (bI 14 br.nd)))
 (aq (aD (av (af aW (af (QPE.f (qv 10)) (af (QPE.f (qv 13)) (af (aU fB hr T.iT (ae (qv 0) (ae (qv 1) (ae (QPF.w (bq (qv 2) (QPF.w (aM (af (av (af (QPE.f (qv 10)) (af (QPE.f (qv 14)) ai))) ai))))) (ae (qv 3) (ae (qv 4) ay)))))) ai))))))))
 aH)
 (ag (a7 (bQ hu (qv 9) ah)
 (ag (aF 15 br.nd (aU aR hr T.aX (ae (qv 0) (ae (QPF.w (bS T.cC (ae (qv 6) ay))) ay))))
 (ag (aF 16 br.nd (aU mI hr T.mO (ae (qv 0) (ae (qv 2) (ae (QPF.w (bt rfl (jB (ao (ao (qv 6) (qv 15)) ah)) (N':=["_law_param"]) (.own rfl .nil) (bH (g:=(Tg.nm 0)) (fun _ _ _ _ _=>⟨(cw 0),(QPE.f (ao (qv 0) ah))⟩)))) ay)))))
 (aq (a7 (bF kN iX (bj _) (qv 16) (QPF.w cQ))
 (aq (aD (av (af aW (af (QPE.f (qv 10)) (af (QPE.f (ao (ao (qv 6) (qv 15)) ah)) (af (QPE.f (qv 16)) (af (aU fB hr T.iT (ae (qv 0) (ae (qv 1) (ae (QPF.w (bq (qv 2) (QPF.w (aM (af (av (af (QPE.f (qv 10)) (af (QPE.f (ao (ao (qv 6) (qv 15)) ah)) ai))) ai))))) (ae (qv 3) (ae (qv 4) ay)))))) ai))))))))
 aH))))
 aH)
 (ag (lu (g:=(Tg.tp [17,18])) (ao (qv 5) (QPF.w (aU aR hr T.aX (ae (qv 0) (ae (QPF.w (bS T.cC (ae (qv 5) ay))) ay))))) (fh (bI 17 br.nd) (bI 18 br.nd)))
 (ag (lu (g:=(Tg.tp [19,20])) (ao (qv 18) (QPF.w (aU aR hr T.aX (ae (qv 0) (ae (QPF.w (bS T.cC (ae (qv 18) ay))) ay))))) (fh (bI 19 br.nd) (bI 20 br.nd)))
 (ag (aF 16 br.nd (aU mI hr T.mO (ae (qv 0) (ae (qv 2) (ae (qv 20) ay)))))
 (ag (a7 (bF As vN (bj _) (qv 16) (QPF.w cQ))
 (aq (aD (aU xh hr T.q5 (ae (qv 0) (ae (qv 1) (ae (qv 2) (ae (qv 8) (ae (qv 3) ay))))))))
 aH)
 (aq (aD (av (af aW (af (QPE.f (qv 10)) (af (QPE.f (qv 19)) (af (QPE.f (qv 16)) (af (aU fB hr T.iT (ae (qv 0) (ae (qv 1) (ae (QPF.w (bq (qv 2) (QPF.w (aM (af (av (af (QPE.f (qv 10)) (af (QPE.f (qv 17)) ai))) ai))))) (ae (qv 3) (ae (qv 4) ay)))))) ai))))))))))))))))))))))),fun ts Q hh=>?_⟩
   obtain⟨ks,hs,ws,sc,f,h,u,rfl,W,hf,S,hl,huN,hq⟩:=hh;have ef:atI (hs.map tH) (f:Int)=some (tH h):=bE (by rw[List.getElem?_map,hf];rfl)
   have hE:kK [.cN,tW ks hs ws,.l (sc.map tP),.s h.2.2,.i f] Q:=⟨ks,hs,ws,sc,f,h,rfl,W,hf,S,fun n b hn hb dd=>hq n b (Nat.le_trans hn (y7 _)) hb (dd.mono (by omega))⟩
   have lsc:((sc.map tP).length:Int)=sc.length:=by rw[List.length_map]
   have wl:=W.wl;have hsl:sc.length<ws.length:=by omega
   have ex:atI (ws.map L2.T.s) ((sc.map tP).length:Int)=some (.s ws[sc.length]):=by rw[List.length_map];exact dA (List.getElem?_eq_getElem hsl)
   have hx:ws[sc.length]? = some ws[sc.length]:=List.getElem?_eq_getElem hsl;have fx:ws[sc.length] ∉ sc.map (·.1):=S.fresh W.wn hx
   generalize ws[sc.length]=x at ex fx hx
   refine⟨_,rfl,_,ef,_,rfl,rfl,by decide,by decide,fun fm f0 f1=>⟨rfl,fun r hr1=>aI (fun _=>hE) (fun h1=>⟨rfl,aI (fun _=>hE) (fun _=>aI (fun _=>hE) (fun h3=>?_))⟩)⟩⟩
   have h1:¬ r<1:=fun z=>h1 (decide_eq_true z)
   have h3:sc.length<=16:=by
    have h3:¬(16:Int)<((sc.map tP).length:Int):=fun z=>h3 (decide_eq_true z)
    rw[lsc]at h3;omega
   have u1:u.toNat =(u - 1).toNat+1:=by omega
   have uN:(u - 1).toNat<N:=by omega
   have s1:=tj (u - 1).toNat;rw[<- u1]at s1;have go:∀{k:Str},k∈ks.map (·.1)->∀{Q':L2.T->Prop},(∀ n b,n<=sz (u - 1).toNat->Snd ks hs h.2.2 n (sc ++ [(x,k)]) b->Dep (3*(u - 1).toNat+2) b->Q' b)->ip N [.cN,tW ks hs ws,.l (sc.map tP ++ [tP (x,k)]),.i f,.rm (u - 1)] Q':=fun{k} hk {Q'} hQ =>
    ⟨ks,hs,ws,sc ++ [(x,k)],f,h,u - 1,by rw[List.map_append];rfl,W,hf,S.snoc hx (by omega) hk,by rw[List.length_append];simp;omega,uN,hQ⟩
   have C:xw N (sz (u - 1).toNat) (3*(u - 1).toNat+2) ks hs ws sc f h (u - 1) x Q:=⟨W,S.kd,h3,fx,hE,go,fun n b hn hb dd=>hq n b (by omega) hb (dd.mono (by omega)),by omega⟩
   refine⟨by decide,_,ex,rfl,aI (fun _=>?_) (fun _=>?_)⟩
   ·refine⟨by decide,by decide,fun r2 r20 r21=>?_⟩
    obtain⟨v2,ev2,hv2⟩:=Fm (x:=3) (y:=9) (z:=1000) r20 r21;refine⟨_,ev2,by omega,by omega,fun c c0 c1=>⟨by decide,by decide,fun r4 r40 r41=>?_⟩⟩
    obtain⟨wd,ew,hw⟩:=JL r40 r41;refine⟨_,ew,rfl,rfl,ks,hs,ws,sc,f,h,u - 1,rfl,W,hf,S,hl,uN,fun n b hn hb dd=>hq (n+1) _ (by omega) (.cO hw hb) ((yy dd).mono (by omega))⟩
   ·refine(fun rest=>aI (fun _=>aI (fun hne=>?_) (fun _=>rest)) (fun _=>rest)) ?_
    ·have Np:sc ≠ []:=fun z=>by rw[z]at hne;exact absurd hne (by decide)
     exact⟨ks,hs,ws,sc,f,h,u - 1,rfl,W,hf,S,by omega,Np,uN,fun n b hn hb dd=>hq n b (by rw[u1];exact hn) hb (dd.mono (by omega))⟩
    refine(fun rest=>⟨rfl,aI (fun _=>aI (fun hne=>CM C (fun z=>by rw[z]at hne;exact absurd hne (by decide)) _ _ _ _ _ _ _ _ _ _) (fun _=>rest)) (fun _=>rest)⟩) ?_
    exact CO C _ _ _ _ _ _ _ _ _ _
theorem uw(T:Txt K mg a):bc P w K mg base CX0 66 a.dv a.nL ["_law_deal_here","_law_most","_law_room"] (spQ K xV):=by
 have aR:=iG (@fq P w K mg base a T);have EV:=@Au P w K mg base a T;have EX:=@Ax P w K mg base a T;have fB:=@DL P w K mg base a T 31;refine T.nV.F.okQ bf (fun ts Q h=>?_) (fun _ _ _ _ _ _ hr=>?_)
 ·obtain⟨m,u,rfl,_⟩:=h;rfl
 ·have hu:=bR hr;refine⟨_,_,((ag (aF 3 bf.nd (aU EV hr T.xq (ae (qv 0) (ae ah ay))))
 (ag (aF 4 bf.nd (aU EX hr T.xt (ae (qv 0) (ae (qv 3) ay))))
 (ag (aF 5 bf.nd (aM ai))
 (ag (aF 6 bf.nd (lC ah (QPF.w (aU aR hr T.aX (ae (qv 0) (ae ah ay))))))
 (ag (cv (g:=(Tg.nm 7)) PassesOwn.never rfl (gJ rfl T.dQ (ae (QPF.w (bq ah (QPF.w (aU aR hr T.aX (ae (qv 0) (ae (qv 1) ay)))))) ay)) (bI 7 bf.nd)
 (ag (aF 8 bf.nd (jC (aM (af bG (af bG (af bG (af bG (af bG (af bG (af bG ai)))))))) (QPF.w (aU aR hr T.aX (ae (qv 0) (ae ah ay))))))
 (ag (gI (i:=9) bf.nd rfl (Or.inl rfl) rfl (gK rfl T.dQ (ae (qv 8) ay)) (N':=["_law_k","_law_words_here","_law_kinds_here","_law_deal_here"]) (.own rfl (.got (i:=3) rfl rfl (.inl rfl) (.got (i:=4) rfl rfl (.inl rfl) (.got (i:=0) rfl rfl (.inl rfl) .nil)))) (bH (g:=(Tg.nm 0)) (fun _ _ _ _ _=>⟨(cw 0),(av (af (QPE.f (ao (qv 1) (qv 0))) (af (QPE.f (ao (ao (qv 2) (QPF.w (aU aR hr T.aX (ae (qv 3) (ae (QPF.w (bS T.cC (ae (qv 2) ay))) ay))))) ah)) ai)))⟩)))
 (aq (a6 (i:=5) (pv 5) (av (af (QPE.f (ao (qv 3) (QPF.w (cm (gX rfl) tw (by rfl) T.w6 (by kernel_rfl) (ae (QPF.w (zS (qv 6) (qv 7))) (ae (QPF.w (zS (qv 7) (qv 6))) ay)))))) (af (aO (b6 rfl) bX (by rfl) T.cL (by kernel_rfl) (ae (qv 9) ay)) (af (QPE.f (ao (ao (qv 4) (QPF.w (aU aR hr T.aX (ae (qv 0) (ae (QPF.w (bS T.cC (ae (qv 4) ay))) ay))))) ah)) ai)))))))))
 (ag (aF 10 bf.nd (aM ai))
 (ag (cv (g:=(Tg.tp [7,11])) PassesOwn.never rfl (zQ (i:=5) rfl T.c6 (by kernel_rfl) (pv 5)) (fh (bI 7 bf.nd) (bI 11 bf.nd))
 (ag (aF 12 bf.nd (aU fB hr T.iT (ae (qv 0) (ae (CY (ae (qv 4) (ae (qv 5) (ae (qv 3) ay)))) (ae (QPF.w (aO (yI rfl) xG (by rfl) T.fA (by kernel_rfl) (ae (ao (qv 11) ah) ay))) (ae (qv 7) (ae (QPF.w (CZ (aM (af (QPE.f (qv 2)) ai)))) ay)))))))
 (aq (a6 (i:=10) (pv 10) (bq (qv 11) (QPF.w (av (af (QPE.f (qv 12)) ai))))))))
 (aq (aD (av (af (QPE.f (qv 4)) (af (aO (b6 rfl) bX (by rfl) T.cL (by kernel_rfl) (ae (qv 10) ay)) ai))))))))))))),fun ts Q hh=>?_⟩
  obtain⟨mo,u,rfl,mo0,mo8,u0,u30,hq⟩:=hh;refine⟨40,rfl,by decide,by decide,fun ws hl hnd _=>?_⟩
  have hl:ws.length=40:=by omega
  refine⟨ws,rfl,hl,hnd,fun ks gk0 _=>⟨by decide,by decide,fun ow w0 w1=>?_⟩⟩
  have gk:=gk0.p;have k1:=gk.k1;have k2:=gk.k2;have lk:((ks.map tK).length:Int)=ks.length:=by rw[List.length_map]
  refine⟨.inl ⟨by omega,by omega⟩,by omega,by omega,fun n n0 n1=>?_⟩
  refine⟨by omega,by omega,fun i q=>∃ hs L o5 o6 o7,q = [.r .cN,.r (.i mo),.r (.i u),.o (.l (ws.map .s)),.o (tKs ks),.o (.l L),.o (.i (39*ow)),o5,o6,o7,.no,.no,.no]/\L=hs.map tH/\nS ks ws ow.toNat hs i,⟨[],_,_,_,_,rfl,rfl,⟨rfl,rfl,fun _ z=>nomatch z⟩⟩,?_,?_⟩
  ·rintro i x q hx ⟨hs,L,o5,o6,o7,rfl,rfl,hH⟩
   obtain⟨rfl,hi⟩:=fV hx;refine⟨_,rfl,by decide,by decide,fun r2 r20 r21=>?_⟩
   obtain⟨m,hm,em⟩:=gc (xs:=[1,1,2,2,0,3,4]) (f:=L2.T.i) r20 r21;have hm:m=1\/m=1\/m=2\/m=2\/m=0\/m=3\/m=4:=by simpa using hm
   refine⟨_,em,by omega,by omega,aC (by rw[cF];omega),fun p ys=>∃ ps:Sc,ys=ps.map tP/\ps.map (·.1)=ws.take p/\∀ q∈ps,q.2∈ks.map (·.1),⟨[],rfl,rfl,fun _ z=>nomatch z⟩,?_,?_⟩
   ·rintro p y ys hy ⟨ps,rfl,hp1,hp2⟩
    obtain⟨rfl,hp⟩:=fV hy;have hpw:p<ws.length:=by omega
    have ew:atI (ws.map L2.T.s) (0+((p:Nat):Int))=some (.s ws[p]):=by rw[Int.zero_add];exact dA (by simp[hpw])
    refine⟨_,rfl,_,ew,rfl,by rw[lk];omega,by rw[lk];omega,fun r3 r30 r31=>?_⟩
    rw[lk]at r31;obtain⟨kd,hkd,ek⟩:=gc (f:=tK) r30 r31;refine⟨_,ek,_,rfl,rfl,ps ++ [(ws[p],kd.1)],by simp[tP],?_,fun q hq'=>?_⟩
    ·rw[List.map_append,hp1];exact take_one (by simp[hpw])
    ·rcases List.mem_append.mp hq' with z|z
     ·exact hp2 q z
     ·rw[List.mem_singleton.mp z];exact List.mem_map.mpr ⟨kd,hkd,rfl⟩
   ·rintro ys ⟨ps,rfl,hp1,hp2⟩
    rw[cF]at hp1;have lps:ps.length=m.toNat:=by
     have:=congrArg List.length hp1
     rw[List.length_map,List.length_take]at this;omega
    have hwi:iw ow.toNat i<ws.length:=by unfold iw;split <;> omega
    have ei:atI (ws.map L2.T.s) (if 0+(i:Int) - 39*ow > 39*ow - (0+(i:Int))then 0+(i:Int) - 39*ow else 39*ow - (0+(i:Int)))=some (.s ws[iw ow.toNat i]):=by
     have e:(if 0+(i:Int) - 39*ow > 39*ow - (0+(i:Int))then 0+(i:Int) - 39*ow else 39*ow - (0+(i:Int))) =((iw ow.toNat i:Nat):Int):=by
      unfold iw
      have:ow=0\/ow=1:=by omega
      rcases this with rfl|rfl
      ·show _ =((i:Nat):Int);split <;> omega
      ·show _ =((39 - i:Nat):Int);split <;> omega
     rw[e];exact dA (by simp[hwi])
    refine⟨aC (by rw[List.length_map,hH.ln];omega),_,ei,rfl,aT dM _,by rw[lk];omega,by rw[lk];omega,fun r4 r40 r41=>?_⟩
    rw[lk]at r41;obtain⟨kd,hkd,ek⟩:=gc (f:=tK) r40 r41;refine⟨_,ek,_,rfl,rfl,hs ++ [(ws[iw ow.toNat i],ps,kd.1)],_,_,_,_,rfl,by simp[tH],hH.snoc (List.getElem?_eq_getElem hwi) ⟨by show ps.length<=4;omega,hp2,by show ps.map (·.1)=ws.take ps.length;rw[lps];exact hp1,List.mem_map.mpr ⟨kd,hkd,rfl⟩⟩⟩
  ·rintro q ⟨hs,L,o5,o6,o7,rfl,rfl,hH⟩
   rw[cF]at hH;have W:Wld ks hs ws:=⟨gk,hl,hnd,by rw[hH.ln];omega,by rw[hH.ln];omega,hH.nd hl hnd (by omega),hH.hp⟩
   refine⟨fun i q=>∃ fs L o5 o9 o10,q = [.r .cN,.r (.i mo),.r (.i u),.o (.l (ws.map .s)),.o (tKs ks),.r (.l (hs.map tH)),.o (.i (39*ow)),o5,o6,o7,.o (.l L),o9,o10]/\L=fs.map tF/\fs.map (·.1)=hs.take i/\∀ f∈fs,Snd ks hs f.1.2.2 f.2.2 f.1.2.1 f.2.1/\f.2.2<=50000/\Dep 92 f.2.1,⟨[],_,_,_,_,rfl,rfl,rfl,fun _ z=>nomatch z⟩,?_,?_⟩
   ·rintro i x q hx ⟨fs,L,o5,o9,o10,rfl,rfl,hf1,hf2⟩
    obtain⟨y,hy,rfl⟩:=dE hx;rw[List.getElem?_map]at hy;obtain⟨hd,hhd,rfl⟩:=Option.map_eq_some_iff.mp hy;have Ee:=List.mem_of_getElem? hhd;obtain⟨q1,q2,q3,q4⟩:=W.hp hd Ee;have lfs:fs.length=i:=by
     have:=congrArg List.length hf1
     rw[List.length_map,List.length_take]at this
     have:=(List.getElem?_eq_some_iff.mp hhd).1
     omega
    have lhs:=W.h8;have hil:=(List.getElem?_eq_some_iff.mp hhd).1;refine⟨_,rfl,_,rfl,aT dM _,rfl,ks,hs,ws,hd.2.1,i,hd,u,rfl,W,hhd,⟨q3,by omega,q2,Nat.le_refl _,by rw[List.take_length]⟩,by omega,by omega,fun n b hn hb dd=>?_⟩
    refine⟨aC (by rw[List.length_map];omega),hb.im,bh (by show 4<=10000;decide),Kw hd,(by show(b.im&&true)=true;rw[hb.im];rfl),fs ++ [(hd,b,n)],_,_,_,_,rfl,by simp[tF],?_,fun f' hf'=>?_⟩
    ·rw[List.map_append,hf1,List.take_add_one,hhd];rfl
    ·rcases List.mem_append.mp hf' with z|z
     ·exact hf2 f' z
     ·rw[List.mem_singleton.mp z];exact⟨hb,Nat.le_trans hn (Nat.le_trans (Cm (by omega)) IK),dd.mono (by omega)⟩
   ·rintro q ⟨fs,L,o5,o9,o10,rfl,rfl,hf1,hf2⟩
    rw[bO,List.length_map,List.take_length]at hf1;have him:L2.T.ims (fs.map tF)=true:=by
     have go:∀(l:List Fn),(∀ f∈l,f.2.1.im=true)->L2.T.ims (l.map tF)=true:=by
      intro l
      induction l with
      | nil=>intro _;rfl
      | cons f r ih =>
       intro h;show((true&&(L2.T.ims (f.1.2.1.map tP)&&(true&&(f.2.1.im&&true))))&&L2.T.ims (r.map tF))=true;rw[aT dM,h f List.mem_cons_self,ih fun f hf=>h f (List.mem_cons_of_mem _ hf)];rfl
     exact go fs fun f hf=>(hf2 f hf).1.im
    refine⟨qf ks,him,hq ks fs ⟨gk,?_,?_,fun f hf=>?_,fun f hf=>?_,fun f hf=>(hf2 f hf).2.2⟩⟩
    ·have:=congrArg List.length hf1
     rw[List.length_map]at this
     have:=W.h8
     omega
    ·have:fs.map (·.1.1) =(fs.map (·.1)).map (·.1):=by rw[List.map_map];rfl
     rw[this,hf1];exact W.hn
    ·have hm:f.1∈hs:=by rw[<- hf1];exact List.mem_map.mpr ⟨f,hf,rfl⟩
     obtain⟨q1,q2,q3,q4⟩:=W.hp f.1 hm;exact⟨q1,q2,by rw[q3];exact hnd.sublist (List.take_sublist _ _),q4⟩
    ·rw[hf1];exact⟨(hf2 f hf).1,(hf2 f hf).2.1⟩
theorem gM{ts:List L2.T}(h:∀ t∈ts,t.im=true):L2.T.ims ts=true:=by
 induction ts with
 | nil=>rfl
 | cons t r ih=>show(t.im&&L2.T.ims r)=true;rw[h t List.mem_cons_self,ih fun t ht=>h t (List.mem_cons_of_mem _ ht)];rfl
theorem bo(h:n<=1002000):n<sizeLine:=Nat.lt_of_le_of_lt h (by decide)
def EL:L2.T->L2.T
 | .t [_,_,b]=>b
 | _=>.n
def subs:L2.T->List (L2.T×L2.T)
 | .t [.s _,.s _,.t arms]=>arms.map fun x=>(EL x,x)
 | .t [.s _,.i _,b]=>[(b,.n)]
 | .t [.s _,.s _,.s _,b]=>[(b,.n)]
 | .t [.s _,.s _,.s _,.t _,b]=>[(b,.n)]
 | _=>[]
inductive Kid(ks:List Kd)(hs:List Hd):Sc->L2.T->Nat->L2.T->L2.T->Sc->Prop
 | cO{sc:Sc}{w:Str}{c:Int}{b:L2.T}:(w = "pay" \/ w = "get")->Kid ks hs sc (.t [.s w,.i c,b]) 0 b .n sc
 | name{sc:Sc}{x y k:Str}{b:L2.T}:(y,k)∈sc->x ∉ sc.map (·.1)->Kid ks hs sc (.t [.s "name",.s x,.s y,b]) 0 b .n (sc ++ [(x,k)])
 | make{sc:Sc}{x:Str}{m:Mk1}{kd:Kd}{ns:List Str}{b:L2.T}:kd∈ks->m∈kd.2->x ∉ sc.map (·.1)->Kid ks hs sc (.t [.s "make",.s x,.s m.1,.t (ns.map .s),b]) 0 b .n (sc ++ [(x,kd.1)])
 | call{sc:Sc}{x:Str}{h:Hd}{ns:List Str}{b:L2.T}:h∈hs->x ∉ sc.map (·.1)->Kid ks hs sc (.t [.s "call",.s x,.s h.1,.t (ns.map .s),b]) 0 b .n (sc ++ [(x,h.2.2)])
 | case{sc:Sc}{x:Str}{kd:Kd}{arms:List Arm}{j:Nat}{a:Arm}{m:Mk1}:(x,kd.1)∈sc->kd∈ks->arms.map (·.1)=kd.2.map (·.1)->arms[j]? = some a->kd.2[j]? = some m->a.2.1.length=m.2.length ->(sc.map (·.1)++a.2.1).Nodup->Kid ks hs sc (.t [.s "case",.s x,.t (arms.map tA)]) j a.2.2.1 (tA a) (sc++a.2.1.zip m.2)
inductive Shp:L2.T->Prop
 | give{x:Str}:Shp (.t [.s "give",.s x])
 | cO{w:Str}{c:Int}{b:L2.T}:(w = "pay" \/ w = "get")->b.im=true->Shp (.t [.s w,.i c,b])
 | name{x y:Str}{b:L2.T}:b.im=true->Shp (.t [.s "name",.s x,.s y,b])
 | use{w x m:Str}{ns:List Str}{b:L2.T}:(w = "make" \/ w = "call")->b.im=true->Shp (.t [.s w,.s x,.s m,.t (ns.map .s),b])
 | case{x:Str}{arms:List Arm}:(∀ a∈arms,a.2.2.1.im=true)->arms.length<=50000->Shp (.t [.s "case",.s x,.t (arms.map tA)])
structure Nod where
 b:L2.T
 ab:L2.T
 am:L2.T
 pa:List (Nat×L2.T×Nat)
 sc:Sc
def Hs(n:Nat)(d:Nod)(j:Nat)(b am:L2.T)(sc:Sc):Nod:=⟨b,.i n,am,d.pa ++ [(n,d.b,j)],sc⟩
inductive Ask(ks:List Kd)(sc:Sc):L2.T->Option Str->Prop
 | give{x:Str}:Ask ks sc (.t [.s "give",.s x]) none
 | cO{w:Str}{c:Int}{b:L2.T}:(w = "pay" \/ w = "get")->Ask ks sc (.t [.s w,.i c,b]) none
 | name{x y k:Str}{b:L2.T}:(y,k)∈sc->Ask ks sc (.t [.s "name",.s x,.s y,b]) (some k)
 | make{x:Str}{m:Mk1}{kd:Kd}{ns:List Str}{b:L2.T}:kd∈ks->m∈kd.2->Ask ks sc (.t [.s "make",.s x,.s m.1,.t (ns.map .s),b]) (some kd.1)
 | call{x g:Str}{ns:List Str}{b:L2.T}:Ask ks sc (.t [.s "call",.s x,.s g,.t (ns.map .s),b]) none
 | case{x k:Str}{arms:List Arm}:(x,k)∈sc->Ask ks sc (.t [.s "case",.s x,.t (arms.map tA)]) (some k)
structure Ik(ks:List Kd)(hs:List Hd)(n:Nat)(d:Nod)(cs:List Nod):Prop where
 ok:∀(j:Nat)(c:Nod),cs[j]? = some c->c=Hs n d j c.b c.am c.sc/\Kid ks hs d.sc d.b j c.b c.am c.sc
 su:cs.map (fun c=>(c.b,c.am))=subs d.b
 sh:Shp d.b
 ak:∃ o,Ask ks d.sc d.b o
mutual
inductive Pre(ks:List Kd)(hs:List Hd):Nat->Nod->List Nod->Prop
 | mk{n:Nat}{d:Nod}{cs L:List Nod}:Ik ks hs n d cs->cg ks hs (n+1) cs L->Pre ks hs n d (d::L)
inductive cg(ks:List Kd)(hs:List Hd):Nat->List Nod->List Nod->Prop
 | nil{n:Nat}:cg ks hs n [] []
 | cons{n:Nat}{d:Nod}{ds L M:List Nod}:Pre ks hs n d L->cg ks hs (n+L.length) ds M->cg ks hs n (d::ds) (L++M)
end
variable{ds:List Nod}{L:List Nod}
theorem cg.app{es M:List Nod}:∀{n:Nat},cg ks hs n ds L->cg ks hs (n+L.length) es M->cg ks hs n (ds++es) (L++M):=by
 induction ds generalizing L with
 | nil=>intro n h h2;cases h;simpa using h2
 | cons d ds ih =>
  intro n h h2;cases h with
  | @cons _ _ _ L1 M1 h1 h3 =>
   rw[List.cons_append,List.append_assoc];exact .cons h1 (ih h3 (by rw[List.length_append,<- Nat.add_assoc]at h2;exact h2))
theorem cg.pop{d:Nod}(h:cg ks hs n (d::ds) L):∃ cs L',Ik ks hs n d cs/\L=d::L'/\cg ks hs (n+1) (cs++ds) L':=by
 cases h with
 | @cons _ _ _ L1 M1 h1 h3 =>
  cases h1 with
  | @mk _ _ cs L2 hk h2 =>
   refine⟨cs,L2++M1,hk,rfl,h2.app ?_⟩;rw[List.length_cons]at h3;rw[show n+1+L2.length=n+(L2.length+1)by omega]
   exact h3
theorem cg.le(h:cg ks hs n ds L):ds.length<=L.length:=by
 induction ds generalizing n L with
 | nil=>exact Nat.zero_le _
 | cons d ds ih =>
  cases h with
  | cons h1 h3 =>
   have:=ih h3
   cases h1;simp only[List.length_cons,List.length_append];omega
theorem Hq{l:List Nat}{x:Nat}(h:x∈l):x<=l.sum:=by
 induction l with
 | nil=>cases h
 | cons y r ih =>
  rw[List.sum_cons];rcases List.mem_cons.mp h with z|z
  ·omega
  ·have:=ih z;omega
theorem D3{l:List Nat}(h:∀ x∈l,1<=x):l.length<=l.sum:=by
 induction l with
 | nil=>exact Nat.le_refl _
 | cons y r ih =>
  have h1:=h y List.mem_cons_self;have h2:=ih fun z hz=>h z (List.mem_cons_of_mem _ hz)
  rw[List.sum_cons,List.length_cons];omega
theorem Snd.pos{b:L2.T}(h:Snd ks hs r n sc b):1<=n:=by cases h <;> omega
theorem Snd.pre{m:Nat}{b:L2.T}(h:Snd ks hs r m sc b)(hm5:m<=50000):∀(n:Nat)(ab am:L2.T)(pa:List (Nat×L2.T×Nat)),∃ L,Pre ks hs n ⟨b,ab,am,pa,sc⟩ L/\L.length<=m:=by
 have one:∀{m:Nat}{sc sc':Sc}{b b':L2.T}{o:Option Str},Kid ks hs sc b 0 b' .n sc'->Shp b->Ask ks sc b o->subs b = [(b',.n)] ->(∀(n:Nat)(ab am:L2.T)(pa:List (Nat×L2.T×Nat)),∃ L,Pre ks hs n ⟨b',ab,am,pa,sc'⟩ L/\L.length<=m)->∀(n:Nat)(ab am:L2.T)(pa:List (Nat×L2.T×Nat)),∃ L,Pre ks hs n ⟨b,ab,am,pa,sc⟩ L/\L.length<=m+1:=by
  intro m sc sc' b b' o hk sh ak hs' ih n ab am pa;obtain⟨L,h1,h2⟩:=ih (n+1) (.i n) .n (pa ++ [(n,b,0)]);refine⟨⟨b,ab,am,pa,sc⟩::L,.mk (cs:=[⟨b',.i n,.n,pa ++ [(n,b,0)],sc'⟩]) ⟨fun j c hc=>?_,by rw[hs'];rfl,sh,⟨o,ak⟩⟩ (by have:=cg.cons h1 (.nil);rwa [List.append_nil]at this),by simp;omega⟩
  cases j with
  | zero=>cases hc;exact⟨rfl,hk⟩
  | succ j=>simp at hc
 induction h with
 | give hx =>
  intro n ab am pa;exact⟨[_],.mk (cs:=[]) ⟨fun j c hc=>by simp at hc,rfl,.give,⟨none,.give⟩⟩ .nil,by simp⟩
 | cO hw h ih=>exact one (.cO hw) (.cO hw h.im) (.cO hw) rfl (ih (by omega))
 | name hy hx h ih=>exact one (.name hy hx) (.name h.im) (.name hy) rfl (ih (by omega))
 | make hkd hm hF hx h ih=>exact one (.make hkd hm hx) (.use (.inl rfl) h.im) (.make hkd hm) rfl (ih (by omega))
 | call hh hF hx h ih=>exact one (.call hh hx) (.use (.inr rfl) h.im) .call rfl (ih (by omega))
 | @case sc x kd arms hx hkd hnm h1 h2 ih =>
  intro n ab am pa;have el:arms.length=kd.2.length:=by simpa using congrArg List.length hnm
  have sz:∀(j:Nat)(a:Arm),arms[j]? = some a->a.2.2.2 <=(arms.map (·.2.2.2)).sum:=fun j a ha=>Hq (List.mem_map.mpr ⟨a,List.mem_of_getElem? ha,rfl⟩)
  have sh:Shp (.t [.s "case",.s x,.t (arms.map tA)]):=.case (fun a ha=>by
   obtain⟨i,hi,e⟩:=List.getElem_of_mem ha;exact(h2 i a (kd.2[i]'(by omega)) (by rw[List.getElem?_eq_getElem hi,e]) (List.getElem?_eq_getElem _)).im) (by
   have:arms.length <=(arms.map (·.2.2.2)).sum:=by
    have:=D3 (l:=arms.map (·.2.2.2)) fun z hz=>by
     obtain⟨a,ha,rfl⟩:=List.mem_map.mp hz;obtain⟨i,hi,e⟩:=List.getElem_of_mem ha;exact(h2 i a (kd.2[i]'(by omega)) (by rw[List.getElem?_eq_getElem hi,e]) (List.getElem?_eq_getElem _)).pos
    simpa using this
   omega)
  let b:L2.T:=.t [.s "case",.s x,.t (arms.map tA)]
  have go:∀(k j:Nat),j+k=arms.length->∀ n',∃(cs L:List Nod),cg ks hs n' cs L/\cs.length=k/\L.length <=((arms.drop j).map (·.2.2.2)).sum/\cs.map (fun c=>(c.b,c.am)) =(arms.drop j).map (fun a=>(a.2.2.1,tA a))/\∀(i:Nat)(c:Nod),cs[i]? = some c->c=Hs n ⟨b,ab,am,pa,sc⟩ (j+i) c.b c.am c.sc/\Kid ks hs sc b (j+i) c.b c.am c.sc:=by
   intro k
   induction k with
   | zero =>
    intro j hj n';refine⟨[],[],.nil,rfl,Nat.zero_le _,?_,fun i c hc=>by simp at hc⟩
    rw[List.drop_eq_nil_of_le (by omega)];rfl
   | succ k ihk =>
    intro j hj n';have hjl:j<arms.length:=by omega
    have ea:arms[j]? = some arms[j]:=List.getElem?_eq_getElem hjl;have em:kd.2[j]? = some (kd.2[j]'(by omega)):=List.getElem?_eq_getElem _
    obtain⟨q1,q2⟩:=h1 j _ _ ea em;have hK:Kid ks hs sc b j arms[j].2.2.1 (tA arms[j]) (sc++arms[j].2.1.zip (kd.2[j]'(by omega)).2):=.case hx hkd hnm ea em q1 q2
    obtain⟨L1,p1,p2⟩:=ih j _ _ ea em (by have:=sz j _ ea;omega) n' (.i n) (tA arms[j]) (pa ++ [(n,b,j)])
    obtain⟨cs,L,c1,c2,c3,c4,c5⟩:=ihk (j+1) (by omega) (n'+L1.length)
    have ed:arms.drop j=arms[j]::arms.drop (j+1):=List.drop_eq_getElem_cons hjl;refine⟨_::cs,L1++L,.cons p1 c1,by simp[c2],?_,?_,fun i c hc=>?_⟩
    ·rw[ed,List.map_cons,List.sum_cons,List.length_append];omega
    ·rw[ed,List.map_cons,List.map_cons,c4]
    ·cases i with
     | zero=>cases hc;exact⟨rfl,hK⟩
     | succ i =>
      obtain⟨z1,z2⟩:=c5 i c hc;rw[show j+(i+1)=j+1+i by omega]
      exact⟨z1,z2⟩
  obtain⟨cs,L,c1,_,c3,c4,c5⟩:=go arms.length 0 (by omega) (n+1)
  rw[List.drop_zero]at c3 c4;refine⟨_::L,.mk (cs:=cs) ⟨fun j c hc=>?_,?_,sh,⟨_,.case hx⟩⟩ c1,by simp;omega⟩
  ·have:=c5 j c hc
   rwa [Nat.zero_add]at this
  ·rw[c4];show _ =(arms.map tA).map fun x=>(EL x,x)
   rw[List.map_map];rfl
theorem cg.from:∀(k:Nat){n:Nat}{ds M:List Nod},M.length=k->cg ks hs n ds M->∀(m:Nat)(d:Nod),M[m]? = some d ->(∃ j,ds[j]? = some d/\(m=0->j=0))\/∃(p:Nat)(e:Nod)(cs:List Nod)(j:Nat),p<m/\M[p]? = some e/\Ik ks hs (n+p) e cs/\cs[j]? = some d:=by
 intro k
 induction k with
 | zero =>
  intro n ds M hl h m d hm;rw[List.length_eq_zero_iff.mp hl]at hm;simp at hm
 | succ k ih =>
  intro n ds M hl h m d hm;cases ds with
  | nil=>cases h;simp at hl
  | cons d0 ds =>
   obtain⟨cs,L',hk,rfl,h2⟩:=h.pop;cases m with
   | zero=>cases hm;exact .inl ⟨0,rfl,fun _=>rfl⟩
   | succ m =>
    rcases ih (n:=n+1) (by simpa using hl) h2 m d (by simpa using hm)with⟨j,hj,_⟩ |⟨p,e,cs',j,hp,he,hK,hc⟩
    ·by_cases hjl:j<cs.length
     ·rw[List.getElem?_append_left hjl]at hj;exact .inr ⟨0,d0,cs,j,by omega,rfl,hk,hj⟩
     ·rw[List.getElem?_append_right (by omega)]at hj
      exact .inl ⟨j - cs.length+1,by simpa using hj,fun z=>by omega⟩
    ·exact .inr ⟨p+1,e,cs',j,by omega,by simpa using he,by rw[show n+(p+1)=n+1+p by omega];exact hK,hc⟩
def spT(C:Addr)(p a r:L2.T):L2.T:=.ob C ["piece","above","arm"] [p,a,r]
def spN(C:Addr)(d:Nod):L2.T:=spT C d.b d.ab d.am
def xX(C:Addr):PSp:=fun ts Q=>∃(b:L2.T)(n:Nat),ts = [b,.i n]/\Shp b/\b.im=true/\Q (.l ((subs b).map fun p=>spT C p.1 (.i n) p.2))
theorem Shp.im{b:L2.T}(h:Shp b):b.im=true:=by
 cases h with
 | give=>rfl
 | cO _ h=>show(true&&(true&&(L2.T.im _&&true)))=true;rw[h];rfl
 | name h=>show(true&&(true&&(true&&(L2.T.im _&&true))))=true;rw[h];rfl
 | use _ h=>show(true&&(true&&(true&&(L2.T.ims _&&(L2.T.im _&&true)))))=true;rw[h,aS];rfl
 | case h =>
  show(true&&(true&&(L2.T.ims _&&true)))=true;rw[gM fun t ht=>by
   obtain⟨a,ha,rfl⟩:=List.mem_map.mp ht;show(true&&(L2.T.ims (a.2.1.map .s)&&(a.2.2.1.im&&true)))=true;rw[h a ha,aS];rfl]
  rfl
theorem cg.ims{M:List Nod}(h:cg ks hs n ds M):∀ e∈M,e.b.im=true:=by
 have go:∀(k:Nat){n:Nat}{ds M:List Nod},M.length=k->cg ks hs n ds M->∀ e∈M,e.b.im=true:=by
  intro k
  induction k with
  | zero =>
   intro n ds M hl h e he;rw[List.length_eq_zero_iff.mp hl]at he;cases he
  | succ k ih =>
   intro n ds M hl h e he;cases ds with
   | nil=>cases h;simp at hl
   | cons d0 ds =>
    obtain⟨cs,L',hK,rfl,h2⟩:=h.pop;rcases List.mem_cons.mp he with rfl|he
    ·exact hK.sh.im
    ·exact ih (by simpa using hl) h2 e he
 exact go _ rfl h
def Dd(C:Addr):PSp:=fun ts Q=>∃(ks:List Kd)(hs:List Hd)(d:Nod)(L:List Nod),ts = [d.b]/\d.ab = .n/\d.am = .n/\Pre ks hs 0 d L/\L.length<=50000/\Q (.l (L.map (spN C)))
def Aj:PSp:=fun ts Q=>∃(ks:List Kd)(hs:List Hd)(d:Nod)(L:List Nod),ts = [d.b]/\d.ab = .n/\d.am = .n/\Pre ks hs 0 d L/\L.length<=50000/\Q (.l (L.map (·.b)))
theorem wo(T:Txt K mg a):bc P w K mg base CX0 1 a.bC a.gn ["self","piece","above","arm"] (tu a.aE ["piece","above","arm"]):=by
 refine Fun.ok (k:=0) T.dR ou (fun vs H Q E h=>?_) fun cdv A outer s H vs Q E hr h=>?_
 ·obtain⟨x,dx,args,rfl,hl,_⟩:=h;show args.length+1=4;rw[hl];rfl
 ·obtain⟨x,dx,args,rfl,hl,hx,hq⟩:=h;obtain⟨v1,v2,v3,rfl⟩:∃ v1 v2 v3,args = [v1,v2,v3]:=by
   match args,hl with
   | [v1,v2,v3],_=>exact⟨v1,v2,v3,rfl⟩
  refine⟨_,bA (uc (pv 0) (pv 1) rfl) (bA (uc (pv 0) (pv 2) rfl) (ff (uc (pv 0) (pv 3) rfl))),?_⟩;refine⟨_,rfl,_,rfl,x,a.aE,dx,_,rfl,hx,T.cq,T.cV,(by show 0<1000;decide),?_⟩
  refine⟨_,rfl,_,rfl,x,a.aE,dx,_,rfl,aw,T.cq,T.bY,(by show 1<1000;decide),?_⟩
  refine⟨_,rfl,_,rfl,x,a.aE,dx,_,rfl,aw,T.cq,T.ka,(by show 2<1000;decide),?_⟩
  rw[kD,kD];exact hq
theorem jH(T:Txt K mg a):bc P w K mg base CX0 3 a.bw a.fE ["piece","number"] (spQ K (xX a.aE)):=by
 have kQ:=@wo P w K mg base a T;refine T.fI.F.okQ jy (fun ts Q h=>?_) (fun _ _ _ _ _ _ hr=>?_)
 ·obtain⟨b,n,rfl,_⟩:=h;rfl
 ·have hu:=bR hr;refine⟨_,_,((ag (a7 (bQ hu (ao (qv 0) ah) (QPF.w aW))
 (aq (aD (aM ai)))
 aH)
 (ag (a7 (bQ hu (ao (qv 0) ah) (QPF.w aW))
 (aq (aD (bt rfl (jB (ao (qv 0) ah)) (N':=["arm","number"]) (.own rfl (.got (i:=1) rfl rfl (.inl rfl) .nil)) (bH (g:=(Tg.nm 0)) (fun _ _ _ _ _=>⟨(cw 0),(lD rfl T.pI kQ (hr.mono (by first|decide|omega)) rfl T.pH T.gx (ae (ao (qv 0) ah) (ae (qv 1) (ae (qv 0) ay))))⟩)))))
 aH)
 (aq (aD (aM (af (lD rfl T.pI kQ (hr.mono (by first|decide|omega)) rfl T.pH T.gx (ae (ao (qv 0) (QPF.w (fY ah))) (ae (qv 1) (ae (QPF.w cQ) ay)))) ai))))))),fun ts Q h=>?_⟩
  obtain⟨b,n,rfl,hS,him,hq⟩:=h;cases hS with
  | give=>exact⟨_,rfl,rfl,aI (fun _=>hq) (fun z=>absurd (by decide +kernel) z)⟩
  | @cO w c b hw hb =>
   have n1:¬ decide ((L2.T.s w).v =(L2.T.s "give").v)=true:=by rcases hw with rfl|rfl <;> decide +kernel
   have n2:¬ decide ((L2.T.s w).v =(L2.T.s "case").v)=true:=by rcases hw with rfl|rfl <;> decide +kernel
   refine⟨_,rfl,rfl,aI (fun z=>absurd z n1) fun _=>⟨_,rfl,rfl,aI (fun z=>absurd z n2) fun _=>⟨_,rfl,?_⟩⟩⟩
   exact⟨(by show(b.im&&(true&&(true&&true)))=true;rw[hb];rfl),rfl,hq⟩
  | @name x y b hb =>
   refine⟨_,rfl,rfl,aI (fun z=>absurd z (by decide +kernel)) fun _=>⟨_,rfl,rfl,aI (fun z=>absurd z (by decide +kernel)) fun _=>⟨_,rfl,?_⟩⟩⟩
   exact⟨(by show(b.im&&(true&&(true&&true)))=true;rw[hb];rfl),rfl,hq⟩
  | @use w x m ns b hw hb =>
   have n1:¬ decide ((L2.T.s w).v =(L2.T.s "give").v)=true:=by rcases hw with rfl|rfl <;> decide +kernel
   have n2:¬ decide ((L2.T.s w).v =(L2.T.s "case").v)=true:=by rcases hw with rfl|rfl <;> decide +kernel
   refine⟨_,rfl,rfl,aI (fun z=>absurd z n1) fun _=>⟨_,rfl,rfl,aI (fun z=>absurd z n2) fun _=>⟨_,rfl,?_⟩⟩⟩
   exact⟨(by show(b.im&&(true&&(true&&true)))=true;rw[hb];rfl),rfl,hq⟩
  | @case x arms hb hl =>
   refine⟨_,rfl,rfl,aI (fun z=>absurd z (by decide +kernel)) fun _=>⟨_,rfl,rfl,aI (fun _=>?_) fun z=>absurd (by decide +kernel) z⟩⟩
   refine⟨_,rfl,bo (by rw[List.length_map];omega),fun i ys=>ys =(arms.take i).map (fun z=>spT a.aE z.2.2.1 (.i n) (tA z)),rfl,?_,?_⟩
   ·rintro i y ys hy rfl
    rw[List.getElem?_map]at hy;obtain⟨z,hz,rfl⟩:=Option.map_eq_some_iff.mp hy;have hi:=hb z (List.mem_of_getElem? hz);refine⟨_,rfl,_,rfl,(by show(z.2.2.1.im&&(true&&((true&&(L2.T.ims (z.2.1.map .s)&&(z.2.2.1.im&&true)))&&true)))=true;rw[hi,aS];rfl),rfl,?_⟩
    show _ ++ [spT a.aE z.2.2.1 (.i n) (tA z)]=_;rw[List.take_add_one,hz];simp
   ·rintro ys rfl
    rw[List.length_map,List.take_length];have e:(subs (.t [.s "case",.s x,.t (arms.map tA)])).map (fun p=>spT a.aE p.1 (.i n) p.2)=arms.map fun z=>spT a.aE z.2.2.1 (.i n) (tA z):=by
     show((arms.map tA).map fun x=>(EL x,x)).map _=_
     rw[List.map_map,List.map_map];rfl
    rw[e]at hq;exact hq
theorem lL(T:Txt K mg a):bc P w K mg base CX0 4 a.gO a.wN ["body"] (spQ K (Dd a.aE)):=by
 have kQ:=@wo P w K mg base a T;have kB:=@jH P w K mg base a T;refine T.kR.F.okQ iY (fun ts Q h=>?_) (fun _ _ _ _ _ _ hr=>?_)
 ·obtain⟨ks,hs,d,L,rfl,_⟩:=h;rfl
 ·have hu:=bR hr;refine⟨_,_,((ag (aF 1 iY.nd (aM ai))
 (ag (aF 2 iY.nd (aM (af (lD rfl T.pI kQ (hr.mono (by first|decide|omega)) rfl T.pH T.gx (ae (qv 0) (ae (QPF.w cQ) (ae (QPF.w cQ) ay)))) ai)))
 (ag (rH PassesOwn.never (fX (qv 2))
 (ag (Gy (j:=3) iY.nd rfl (Or.inl rfl) (pv 2))
 (ag (nk (i:=2) (pv 2) (j9 rfl rfl T.fA rfl T.iJ (QPF.w (aU kB hr T.fI (ae (dq T.cq T.cV (qv 3)) (ae (QPF.w (bS T.cC (ae (qv 1) ay))) ay))))))
 (aq (a6 (i:=1) (pv 1) (QPE.f (qv 3)))))))
 (aq (kJ (i:=1) (pv 1))))))),fun ts Q h=>?_⟩
  obtain⟨ks,hs,d,L,rfl,e1,e2,hP,hL,hq⟩:=h;have him:d.b.im=true:=by cases hP with|mk hk _=>exact hk.sh.im
  refine⟨(by show(d.b.im&&(true&&(true&&true)))=true;rw[him];rfl),rfl,?_⟩
  refine⟨fun c q=>∃(A W M:List Nod)(X Y:List L2.T)(o3:Sl),q = [.r d.b,.o (.l X),.o (.l Y),o3]/\X=A.map (spN a.aE)/\Y=W.reverse.map (spN a.aE)/\cg ks hs A.length W M/\L=A++M/\c=M.length,⟨_,[],[d],L,_,_,_,rfl,rfl,?_,?_,rfl,rfl⟩,?_⟩
  ·show [spT a.aE d.b .n .n] = [spT a.aE d.b d.ab d.am];rw[e1,e2]
  ·have:=cg.cons hP (.nil)
   rwa [List.append_nil]at this
  rintro c q ⟨A,W,M,X,Y,o3,rfl,rfl,rfl,hM,hLM,rfl⟩
  cases W with
  | nil =>
   cases hM;rw[List.append_nil]at hLM;subst hLM;exact hq
  | cons v W =>
   obtain⟨cs,M',hK,rfl,h2⟩:=hM.pop;have hle:=h2.le;have hLl:A.length+(M'.length+1)<=50000:=by rw[hLM,List.length_append,List.length_cons]at hL;exact hL
   rw[List.length_append]at hle;have eY:(v::W).reverse.map (spN a.aE)=W.reverse.map (spN a.aE) ++ [spN a.aE v]:=by simp
   have hcs:cs.map (spN a.aE) =(subs v.b).map fun p=>spT a.aE p.1 (.i A.length) p.2:=by
    rw[<- hK.su,List.map_map];refine List.map_congr_left fun c hc=>?_
    obtain⟨j,hj,rfl⟩:=List.getElem_of_mem hc;have e:=(hK.ok j _ (List.getElem?_eq_getElem hj)).1;show spT _ _ _ _=spT _ _ _ _;rw[show cs[j].ab = .i A.length from congrArg Nod.ab e]
   refine aI (fun _=>?_) (fun z=>absurd (by rw[eY];simp) z)
   refine⟨fun q'=>∃(A W M:List Nod)(X Y:List L2.T)(o3:Sl),q' = [.r d.b,.o (.l X),.o (.l Y),o3]/\X=A.map (spN a.aE)/\Y=W.reverse.map (spN a.aE)/\cg ks hs A.length W M/\L=A++M/\M.length<M'.length+1,?_,?_⟩
   ·rintro q' ⟨A,W,M,X,Y,o3,rfl,rfl,rfl,g1,g2,g3⟩
    exact⟨M.length,g3,A,W,M,_,_,_,rfl,rfl,rfl,g1,g2,rfl⟩
   ·refine⟨_,_,eY,gM fun t ht=>by
     obtain⟨z,_,rfl⟩:=List.mem_map.mp ht;rfl,by decide,?_⟩
    refine⟨rfl,(by decide),_,rfl,v.b,A.length,(by rw[List.length_map]),hK.sh,hK.sh.im,?_⟩
    refine⟨gM fun t ht=>by
     obtain⟨z,_,rfl⟩:=List.mem_map.mp ht;rfl,?_⟩
    rw[<- hcs];refine⟨?_,?_⟩
    ·have:W.length+cs.length<=1002000:=by omega
     simp only[List.length_map,List.length_reverse];exact Nat.le_of_lt (bo this)
    ·refine⟨bo (by rw[List.length_map];omega),rfl,?_⟩
     exact⟨A ++ [v],cs++W,M',_,_,_,rfl,by simp,by simp,by rw[List.length_append];exact h2,by simp[hLM],by omega⟩
def en{α:Type}(f:α->Str)(g:α->L2.T)(x:α):Key×L2.T:=(.inr (f x),g x)
theorem lK{α:Type}{f:α->Str}{g:α->L2.T}:∀ xs:List α,cR (xs.map fun x=>.t [.s (f x),g x])=some (xs.map (en f g))
 | []=>rfl
 | k::r=>by
  show(match(some (.inr (f k)):Option Key),cR (r.map fun x=>.t [.s (f x),g x])with|some k',some r=>some ((k',g k)::r) | _,_=>none)=_
  rw[lK r];rfl
theorem sj{α:Type}{f:α->Str}{g:α->L2.T}{xs ys:List α}(h:((xs++ys).map f).Nodup):bL (xs.map (en f g)) (ys.map (en f g)) =(xs++ys).map (en f g):=by
 rw[List.map_append]at h;obtain⟨h1,h2,h3⟩:=List.nodup_append.mp h;rw[lP,List.map_append]
 ·rw[List.map_map]
  have:(ys.map ((fun x:Key×L2.T=>x.1) ∘ en f g)) =(ys.map f).map Sum.inr:=by rw[List.map_map];rfl
  rw[this];exact List.pairwise_map.mpr (h2.imp fun hne z=>hne (Sum.inr.inj z))
 ·intro p hp q hq;obtain⟨x,hx,rfl⟩:=List.mem_map.mp hp;obtain⟨y,hy,rfl⟩:=List.mem_map.mp hq;exact fun z=>h3 _ (List.mem_map.mpr ⟨y,hy,rfl⟩) _ (List.mem_map.mpr ⟨x,hx,rfl⟩) (Sum.inr.inj z)
theorem kP{α:Type}{f:α->Str}{g:α->L2.T}{xs:List α}(h:(xs.map f).Nodup):bL [] (xs.map (en f g))=xs.map (en f g):=sj (xs:=[]) h
theorem jf{α:Type}{f:α->Str}{g:α->L2.T}:∀{xs:List α}{x:α},(xs.map f).Nodup->x∈xs->cc (xs.map (en f g)) (.inr (f x))=some (g x)
 | y::r,x,h,hx=>by
  have h':=List.nodup_cons.mp h;unfold cc;rw[List.map_cons,List.find?_cons,show(en f g y).1 = .inr (f y)from rfl,qd];by_cases e:f y=f x
  ·rw[decide_eq_true e];rcases List.mem_cons.mp hx with rfl|z
   ·rfl
   ·exact absurd (List.mem_map.mpr ⟨x,z,e.symm⟩) h'.1
  ·rw[decide_eq_false e];rcases List.mem_cons.mp hx with rfl|z
   ·exact absurd rfl e
   ·exact jf (xs:=r) h'.2 z
theorem DZ{α:Type}{f:α->Str}{g:α->L2.T}{xs:List α}{k:Str}(h:k ∉ xs.map f):cc (xs.map (en f g)) (.inr k)=none:=by
 unfold cc;rw[List.find?_eq_none.mpr]
 ·rfl
 ·intro p hp;obtain⟨x,hx,rfl⟩:=List.mem_map.mp hp;rw[show(en f g x).1 = .inr (f x)from rfl,qd];exact fun z=>h (List.mem_map.mpr ⟨x,hx,of_decide_eq_true z⟩)
abbrev enM:Mk1->Key×L2.T:=en (·.1) fun m=>.t (m.2.map .s)
abbrev enP:Str×Str->Key×L2.T:=en (·.1) fun p=>.s p.2
theorem oX(ms:List Mk1):cR (ms.map tM)=some (ms.map enM):=lK (f:=fun m:Mk1=>m.1) (g:=fun m:Mk1=>.t (m.2.map .s)) ms
theorem wg(sc:Sc):cR (sc.map tP)=some (sc.map enP):=lK (f:=fun m:Str×Str=>m.1) (g:=fun p:Str×Str=>.s p.2) sc
theorem AR{k:Str}(h:(sc.map (·.1)).Nodup)(hx:(x,k)∈sc):cc (sc.map enP) (.inr x)=some (.s k):=jf (f:=fun m:Str×Str=>m.1) (g:=fun p:Str×Str=>.s p.2) h hx
theorem ma:∀{ks:List Kd}{i j:Nat}{k k':Kd}{m m':Mk1},(names ks).Nodup->ks[i]? = some k->ks[j]? = some k'->m∈k.2->m'∈k'.2->m.1=m'.1->i=j
 | x::r,0,0,_,_,_,_,_,_,_,_,_,_=>rfl
 | x::r,i+1,j+1,k,k',m,m',h,h1,h2,h3,h4,h5=>by
  have h:(x.2.map (·.1)++names r).Nodup:=h;exact congrArg (· + 1) (ma (ks:=r) (k:=k) (k':=k') (List.nodup_append.mp h).2.1 (by simpa using h1) (by simpa using h2) h3 h4 h5)
 | x::r,0,j+1,k,k',m,m',h,h1,h2,h3,h4,h5=>by
  have h:(x.2.map (·.1)++names r).Nodup:=h;cases h1;exact absurd h5 ((List.nodup_append.mp h).2.2 _ (List.mem_map.mpr ⟨m,h3,rfl⟩) _ (List.mem_flatMap.mpr ⟨k',List.mem_of_getElem? (by simpa using h2),List.mem_map.mpr ⟨m',h4,rfl⟩⟩))
 | x::r,i+1,0,k,k',m,m',h,h1,h2,h3,h4,h5=>by
  have h:(x.2.map (·.1)++names r).Nodup:=h;cases h2;exact absurd h5.symm ((List.nodup_append.mp h).2.2 _ (List.mem_map.mpr ⟨m',h4,rfl⟩) _ (List.mem_flatMap.mpr ⟨k,List.mem_of_getElem? (by simpa using h1),List.mem_map.mpr ⟨m,h3,rfl⟩⟩))
theorem eQ(h:(names ks).Nodup){k:Kd}(hk:k∈ks):(k.2.map (·.1)).Nodup:=by
 induction ks with
 | nil=>cases hk
 | cons x r ih =>
  have h:(x.2.map (·.1)++names r).Nodup:=h;obtain⟨h1,h2,_⟩:=List.nodup_append.mp h;rcases List.mem_cons.mp hk with rfl|z
  ·exact h1
  ·exact ih h2 z
theorem wt(h:(ks.map (·.1)).Nodup){k:Kd}(hk:k∈ks):ko ks k.1=k.2:=by
 obtain⟨i,hi,rfl⟩:=List.getElem_of_mem hk;refine wu (List.getElem?_eq_getElem hi) rfl fun j y hj hy e=>?_
 have hjl:j<ks.length:=by omega
 rw[List.getElem?_eq_getElem hjl]at hy;cases hy
 have:=(List.getElem_inj (h₀:=by simpa using hjl) (h₁:=by simpa using hi) h).mp (by simpa using e)
 omega
inductive Pth(ks:List Kd)(hs:List Hd):Sc->List (Nat×L2.T×Nat)->Sc->Prop
 | nil{sc:Sc}:Pth ks hs sc [] sc
 | cons{sc sc' IY:Sc}{n j:Nat}{b b' am:L2.T}{r:List (Nat×L2.T×Nat)}:Kid ks hs sc b j b' am sc'->Pth ks hs sc' r IY->Pth ks hs sc ((n,b,j)::r) IY
theorem Pth.snoc{sc0:Sc}{pa:List (Nat×L2.T×Nat)}{b b' am:L2.T}(h:Pth ks hs sc0 pa sc)(hk:Kid ks hs sc b j b' am sc'):Pth ks hs sc0 (pa ++ [(n,b,j)]) sc':=by
 induction h with
 | nil=>exact .cons hk .nil
 | cons h1 _ ih=>exact .cons h1 (ih hk)
theorem cg.all{R:Nod->Prop}(hk:∀ n d j b am sc,R d->Kid ks hs d.sc d.b j b am sc->R (Hs n d j b am sc)):∀(k:Nat){n:Nat}{ds M:List Nod},M.length=k->cg ks hs n ds M ->(∀ d∈ds,R d)->∀ e∈M,R e:=by
 intro k
 induction k with
 | zero =>
  intro n ds M hl h h0 e he;rw[List.length_eq_zero_iff.mp hl]at he;cases he
 | succ k ih =>
  intro n ds M hl h h0 e he;cases ds with
  | nil=>cases h;simp at hl
  | cons d0 ds =>
   obtain⟨cs,L',hK,rfl,h2⟩:=h.pop;have hd:=h0 d0 List.mem_cons_self;rcases List.mem_cons.mp he with rfl|he
   ·exact hd
   ·refine ih (by simpa using hl) h2 (fun c hc=>?_) e he
    rcases List.mem_append.mp hc with z|z
    ·obtain⟨j,hj,rfl⟩:=List.getElem_of_mem z;obtain⟨e1,e2⟩:=hK.ok j _ (List.getElem?_eq_getElem hj);rw[e1];exact hk _ _ _ _ _ _ hd e2
    ·exact h0 c (List.mem_cons_of_mem _ z)
theorem Kid.nd{b b' am:L2.T}(h:Kid ks hs sc b j b' am sc')(hn:(sc.map (·.1)).Nodup):(sc'.map (·.1)).Nodup:=by
 have one:∀{x k:Str},x ∉ sc.map (·.1) ->((sc ++ [(x,k)]).map (·.1)).Nodup:=fun{x k} hx=>by
  rw[List.map_append];exact List.nodup_append.mpr ⟨hn,by simp,fun y hy z hz e=>hx (by rw[List.map_cons,List.map_nil,List.mem_singleton]at hz;subst hz;rw[<- e];exact hy)⟩
 cases h with
 | cO=>exact hn
 | name _ hx=>exact one hx
 | make _ _ hx=>exact one hx
 | call _ hx=>exact one hx
 | case _ _ _ _ _ hl hN =>
  rw[List.map_append,List.map_fst_zip (by omega)]
  exact hN
theorem Kid.ext{b b' am:L2.T}(h:Kid ks hs sc b j b' am sc'):sc'=sc++sc'.drop sc.length:=by
 cases h <;> simp
theorem Kid.dep{b b' am:L2.T}(h:Kid ks hs sc b j b' am sc')(hd:Dep (N+1) b):Dep N b':=by
 have sub:∀{M:Nat}{xs:List L2.T}{x:L2.T},Dep M (.t xs)->x∈xs->Dep (M - 1) x:=fun{M xs x} h hx=>by
  cases M with
  | zero=>rcases h with⟨_,z⟩ |⟨_,z⟩ <;> cases z
  | succ M =>
   rcases h with⟨_,z⟩ |⟨_,z⟩ |⟨_,z,h⟩
   ·cases z
   ·cases z
   ·cases z;exact h _ hx
 cases h with
 | cO=>exact sub hd (by simp)
 | name=>exact sub hd (by simp)
 | make=>exact sub hd (by simp)
 | call=>exact sub hd (by simp)
 | @case _ _ arms _ ar _ _ _ _ ha =>
  have h1:=sub hd (x:=.t (arms.map tA)) (by simp)
  have h2:=sub h1 (x:=tA ar) (List.mem_map.mpr ⟨ar,List.mem_of_getElem? ha,rfl⟩);have h3:=sub h2 (x:=ar.2.2.1) (by simp)
  exact h3.mono (by omega)
def iN(z:Nat):L2.T:=.i (z:Int)
theorem x8(T:Txt K mg a):bc P w K mg base CX0 5 a.eV a.sF ["body"] (spQ K Aj):=by
 have ju:=@lL P w K mg base a T;refine T.mM.F.okQ xO (fun ts Q h=>?_) (fun _ _ _ _ _ _ hr=>?_)
 ·obtain⟨ks,hs,d,L,rfl,_⟩:=h;rfl
 ·have hu:=bR hr;refine⟨_,_,((aq (aD (bt rfl (cG (QPF.w (aU ju hr T.kR (ae (qv 0) ay)))) (N':=["spot"]) (.own rfl .nil) (bH (g:=(Tg.nm 0)) (fun _ _ _ _ _=>⟨(cw 0),(QPE.f (dq T.cq T.cV (qv 0)))⟩)))))),fun ts Q h=>?_⟩
  obtain⟨ks,hs,d,L,rfl,e1,e2,hP,hL,hq⟩:=h;have him:=(show cg ks hs 0 [d] L by have:=cg.cons hP (.nil);rwa [List.append_nil]at this).ims
  refine⟨ks,hs,d,L,rfl,e1,e2,hP,hL,bo (by rw[List.length_map];omega),fun i ys=>ys =(L.take i).map (·.b),rfl,?_,?_⟩
  ·rintro i y ys hy rfl
   rw[List.getElem?_map]at hy;obtain⟨z,hz,rfl⟩:=Option.map_eq_some_iff.mp hy;refine⟨_,rfl,rfl,(by decide),_,rfl,him z (List.mem_of_getElem? hz),?_⟩
   show _ ++ [z.b]=_;rw[List.take_add_one,hz];simp
  ·rintro ys rfl
   rw[List.length_map,List.take_length];exact hq
def JA:PSp:=fun ts Q=>∃(ks:List Kd)(hs:List Hd)(d:Nod)(L:List Nod)(n:Nat)(e:Nod),ts = [d.b,iN n]/\d.ab = .n/\d.am = .n/\d.pa = []/\Pre ks hs 0 d L/\L.length<=50000/\L[n]? = some e/\Q (.l ((e.pa.map (·.1) ++ [n]).map iN))
theorem He(T:Txt K mg a):bc P w K mg base CX0 5 a.nJ a.FK ["body","n"] (spQ K JA):=by
 have ju:=@lL P w K mg base a T;refine T.B3.F.okQ tI (fun ts Q h=>?_) (fun _ _ _ _ _ _ hr=>?_)
 ·obtain⟨ks,hs,d,L,n,e,rfl,_⟩:=h;rfl
 ·have hu:=bR hr;refine⟨_,_,((ag (aF 2 tI.nd (aU ju hr T.kR (ae (qv 0) ay)))
 (ag (aF 3 tI.nd (aM (af (QPE.f (qv 1)) ai)))
 (ag (rH PassesOwn.never (bF kN iX (bj _) (dq T.cq T.bY (ao (qv 2) (ao (qv 3) (QPF.w (fY ah))))) (QPF.w cQ))
 (aq (a6 (i:=3) (pv 3) (QPE.f (dq T.cq T.bY (ao (qv 2) (ao (qv 3) (QPF.w (fY ah)))))))))
 (aq (aD (j9 rfl rfl T.fA rfl T.iJ (qv 3)))))))),fun ts Q h=>?_⟩
  obtain⟨ks,hs,d,L,n,e,rfl,e1,e2,e3,hP,hL,he,hq⟩:=h;have hPL:cg ks hs 0 [d] L:=by have:=cg.cons hP (.nil);rwa [List.append_nil]at this
  have hnl:=(List.getElem?_eq_some_iff.mp he).1;refine⟨ks,hs,d,L,rfl,e1,e2,hP,hL,rfl,?_⟩;refine⟨fun c q=>∃(X:List L2.T)(A:List Nat)(e':Nod),q = [.r d.b,.r (iN n),.o (.l (L.map (spN a.aE))),.o (.l X)]/\X =(A ++ [c]).map iN/\L[c]? = some e'/\e.pa.map (·.1) ++ [n]=e'.pa.map (·.1)++c::A.reverse/\A.length+c<=n,⟨_,_,[],e,rfl,rfl,he,rfl,by simp⟩,?_⟩
  rintro c q ⟨X,A,e',rfl,rfl,he',hp,hA⟩
  have e1':atI ((A ++ [c]).map iN) (-1)=some (iN c):=by rw[List.map_append];exact jr _ _
  have e2':atI (L.map (spN a.aE)) (c:Int)=some (spN a.aE e'):=bE (by rw[List.getElem?_map,he'];rfl)
  refine⟨_,e1',_,e2',rfl,(by decide),_,rfl,?_⟩
  rcases hPL.from _ rfl c e' he' with⟨j,hj,_⟩ |⟨p,e'',cs,j,hpc,he2,hK,hc⟩
  ·have:e'=d:=by
    cases j with
    | zero=>cases hj;rfl
    | succ j=>simp at hj
   subst this;rw[e1];refine⟨aT (fun _=>rfl) _,?_⟩
   rw[e3,List.map_nil,List.nil_append]at hp;rw[hp]at hq;rw[<- List.map_reverse,List.reverse_append];exact hq
  ·rw[Nat.zero_add]at hK;have e3':=(hK.ok j _ hc).1;have e4:e'.ab=iN p:=congrArg Nod.ab e3';have e5:e'.pa=e''.pa ++ [(p,e''.b,j)]:=congrArg Nod.pa e3';rw[e4];refine⟨fun q'=>∃(X:List L2.T)(A:List Nat)(m:Nat)(e':Nod),q' = [.r d.b,.r (iN n),.o (.l (L.map (spN a.aE))),.o (.l X)]/\X =(A ++ [m]).map iN/\L[m]? = some e'/\e.pa.map (·.1) ++ [n]=e'.pa.map (·.1)++m::A.reverse/\A.length+m<=n/\m<c,?_,?_⟩
   ·rintro q' ⟨X,A,m,e',rfl,rfl,g1,g2,g3,g4⟩
    exact⟨m,g4,_,A,e',rfl,rfl,g1,g2,g3⟩
   ·refine⟨bo (by simp;omega),_,e1',_,e2',rfl,(by decide),_,rfl,?_,?_⟩
    ·rw[e4];rfl
    ·rw[e4];exact⟨_,A ++ [c],p,e'',rfl,by simp,he2,by rw[hp,e5];simp,by rw[List.length_append];simp;omega,hpc⟩
def Ak:PSp:=fun ts Q=>∃(fs:List Fn)(j:Nat)(f:Fn),ts = [.t (fs.map tF),.s f.1.1]/\(fs.map (·.1.1)).Nodup/\(∀ f∈fs,f.2.1.im=true)/\fs.length<=8/\fs[j]? = some f/\Q (.i (j:Int))
theorem AI{α β:Type}{f:α->β}{xs:List α}(h:(xs.map f).Nodup){i:Nat}{x y:α}(hx:xs[i]? = some x)(hy:xs[j]? = some y)(e:f x=f y):i=j:=by
 have hi:=(List.getElem?_eq_some_iff.mp hx).1;exact(List.getElem?_inj (by simpa using hi) h).mp (by rw[List.getElem?_map,List.getElem?_map,hx,hy];exact congrArg some e)
theorem HE{fs:List Fn}(h:∀ f∈fs,f.2.1.im=true):L2.T.ims (fs.map tF)=true:=gM fun t ht=>by
 obtain⟨f,hf,rfl⟩:=List.mem_map.mp ht;show(true&&(L2.T.ims (f.1.2.1.map tP)&&(true&&(f.2.1.im&&true))))=true;rw[aT dM,h f hf];rfl
theorem pC(T:Txt K mg a):bc P w K mg base CX0 1 a.cz a.ke ["functions","name"] (spQ K Ak):=by
 refine T.kl.F.okQ fb (fun ts Q h=>?_) (fun _ _ _ _ _ _ hr=>?_)
 ·obtain⟨fs,j,f,rfl,_⟩:=h;rfl
 ·have hu:=bR hr;refine⟨_,_,((ag (cv (g:=(Tg.tp [2,3])) PassesOwn.never rfl (CW rfl T.c6 (by kernel_rfl) (ae (qv 0) ay)) (fh (bI 2 fb.nd) (bI 3 fb.nd))
 (aq (a7 (bQ hu (ao (qv 3) ah) (qv 1))
 (aq (aD (QPE.f (qv 2))))
 aH)))
 (aq (aD cQ)))),fun ts Q h=>?_⟩
  obtain⟨fs,j,f,rfl,hn,him,h8,hf,hq⟩:=h;refine⟨HE him,fun i q=>(∃ o2 o3,q = [.r (.t (fs.map tF)),.r (.s f.1.1),o2,o3])/\i<=j,⟨⟨_,_,rfl⟩,Nat.zero_le _⟩,?_,?_⟩
  ·rintro i x q hx ⟨⟨o2,o3,rfl⟩,hij⟩
   obtain⟨y,hy,rfl⟩:=dE hx;rw[List.getElem?_map]at hy;obtain⟨f',hf',rfl⟩:=Option.map_eq_some_iff.mp hy;refine⟨_,rfl,_,rfl,rfl,aI (fun g=>?_) fun g=>⟨⟨_,_,rfl⟩,?_⟩⟩
   ·have:=AI hn hf' hf (V.str.inj (of_decide_eq_true g))
    subst this;exact⟨rfl,hq⟩
   ·rcases Nat.lt_or_eq_of_le hij with z|rfl
    ·exact z
    ·rw[hf]at hf';cases hf';exact absurd (decide_eq_true rfl) g
  ·rintro q ⟨_,hij⟩
   rw[bO,List.length_map]at hij
   have:=(List.getElem?_eq_some_iff.mp hf).1
   omega
def rO:PSp:=fun ts Q=>∃(ks:List Kd)(kd:Kd)(m:Mk1),ts = [tKs ks,.s m.1]/\mG ks/\kd∈ks/\m∈kd.2/\Q (.s kd.1)
theorem jI(T:Txt K mg a):bc P w K mg base CX0 1 a.bx a.fF ["kinds","maker"] (spQ K rO):=by
 refine T.fJ.F.okQ cP (fun ts Q h=>?_) (fun _ _ _ _ _ _ hr=>?_)
 ·obtain⟨ks,kd,m,rfl,_⟩:=h;rfl
 ·have hu:=bR hr;refine⟨_,_,((ag (cv (g:=(Tg.tp [2,3])) PassesOwn.never rfl (oM (QPE.f (qv 0))) (fh (bI 2 cP.nd) (bI 3 cP.nd))
 (aq (a7 (bF (ur rfl) om rfl (qv 1) (QPF.w (bt rfl (jB (qv 3)) (N':=["one"]) (.own rfl .nil) (bH (g:=(Tg.nm 0)) (fun _ _ _ _ _=>⟨(cw 0),(QPE.f (ao (qv 0) ah))⟩)))))
 (aq (aD (QPE.f (qv 2))))
 aH)))
 (aq (aD cQ)))),fun ts Q h=>?_⟩
  obtain⟨ks,kd,m,rfl,gk,hkd,hm,hq⟩:=h;obtain⟨j,hj,hje⟩:=List.getElem_of_mem hkd;have hj':ks[j]? = some kd:=by rw[List.getElem?_eq_getElem hj,hje]
  refine⟨qf ks,fun i q=>(∃ o2 o3,q = [.r (tKs ks),.r (.s m.1),o2,o3])/\i<=j,⟨⟨_,_,rfl⟩,Nat.zero_le _⟩,?_,?_⟩
  ·rintro i x q hx ⟨⟨o2,o3,rfl⟩,hij⟩
   rw[List.getElem?_map]at hx;obtain⟨k',hk',rfl⟩:=Option.map_eq_some_iff.mp hx;refine⟨_,rfl,aC (by rw[List.length_map];have:=(gk.ne k' (List.mem_of_getElem? hk')).2;omega),fun i ys=>ys =((k'.2.take i).map (·.1)).map .s,rfl,?_,?_⟩
   ·rintro i' y ys hy rfl
    rw[List.getElem?_map]at hy;obtain⟨z,hz,rfl⟩:=Option.map_eq_some_iff.mp hy;refine⟨_,rfl,_,rfl,rfl,?_⟩;show _ ++ [L2.T.s z.1]=_;rw[List.take_add_one,hz];simp
   ·rintro ys rfl
    rw[List.length_map,List.take_length];have hin:inT (L2.T.s m.1) ((k'.2.map (·.1)).map L2.T.s)=true ↔ i=j:=by
     rw[dB,wC]
     constructor
     ·intro g;obtain⟨m',hm',em⟩:=List.mem_map.mp g;exact ma gk.mn hk' hj' hm' hm em
     ·rintro rfl
      rw[hj']at hk';cases hk';exact List.mem_map.mpr ⟨m,hm,rfl⟩
    refine⟨by rw[jk];rfl,aI (fun g=>?_) fun g=>?_⟩
    ·have e:=hin.mp g;subst e;rw[hj']at hk';cases hk';exact⟨rfl,hq⟩
    ·have e:i≠j:=fun z=>g (hin.mpr z)
     exact⟨⟨_,_,rfl⟩,by omega⟩
  ·rintro q ⟨_,hij⟩
   rw[List.length_map]at hij;omega
theorem DI(T:Txt K mg a):bc P w K mg base CX0 1 a.jP a.Bq ["_law_kinds_here","_law_maker"] (spQ K rO):=by
 refine T.vC.F.okQ CK (fun ts Q h=>?_) (fun _ _ _ _ _ _ hr=>?_)
 ·obtain⟨ks,kd,m,rfl,_⟩:=h;rfl
 ·have hu:=bR hr;refine⟨_,_,((aq (aD (QPE.f (ao (QPF.w (bt rfl (jB (qv 0)) (N':=["_law_kind","_law_makers","_law_maker"]) (.own rfl (.own rfl (.got (i:=1) rfl rfl (.inl rfl) .nil))) (t6 (g:=(Tg.tp [0,1])) (fun _ _ _ _ _=>⟨(fh (cw 0) (cw 1)),(bF (Ha hu) zj rfl (qv 2) (QPF.w (aO (bU rfl) cu (by rfl) T.gw (by kernel_rfl) (ae (qv 1) ay)))),(QPE.f (qv 0))⟩)))) ah))))),fun ts Q h=>?_⟩
  obtain⟨ks,kd,m,rfl,gk,hkd,hm,hq⟩:=h;obtain⟨j,hj,hje⟩:=List.getElem_of_mem hkd;have hj':ks[j]? = some kd:=by rw[List.getElem?_eq_getElem hj,hje]
  refine⟨aC (by rw[List.length_map];have:=gk.k2;omega),fun i ys=>ys=if j<i then [.s kd.1]else [],rfl,?_,?_⟩
  ·rintro i y ys hy rfl
   rw[List.getElem?_map]at hy;obtain⟨k',hk',rfl⟩:=Option.map_eq_some_iff.mp hy;refine⟨_,rfl,aT nE _,_,oX k'.2,?_⟩;rw[kP (eQ gk.mn (List.mem_of_getElem? hk'))];have hin:(cc (k'.2.map enM) (.inr m.1)).isSome=true ↔ i=j:=by
    constructor
    ·intro g;by_cases z:m.1∈k'.2.map (·.1)
     ·obtain⟨m',hm',em⟩:=List.mem_map.mp z;exact ma gk.mn hk' hj' hm' hm em
     ·rw[DZ z]at g;cases g
    ·rintro rfl
     rw[hj']at hk';cases hk';rw[jf (eQ gk.mn hkd) hm];rfl
   refine aI (fun g=>?_) fun g=>?_
   ·have e:=hin.mp g;subst e;rw[hj']at hk';cases hk';refine⟨rfl,?_⟩;rw[if_neg (Nat.lt_irrefl _),if_pos (Nat.lt_succ_self _)];rfl
   ·have e:i≠j:=fun z=>g (hin.mpr z)
    show(if j<i then _ else _)=if j<i+1 then _ else _
    by_cases z:j<i
    ·rw[if_pos z,if_pos (by omega)]
    ·rw[if_neg z,if_neg (by omega)]
  ·rintro ys rfl
   rw[List.length_map,if_pos hj];exact⟨_,rfl,rfl,hq⟩
def GS:PSp:=fun ts Q=>∃(t:L2.T)(fs:List Fn)(j:Nat)(f:Fn),ts = [.t [t,.t (fs.map tF)],.s f.1.1]/\t.im=true/\(fs.map (·.1.1)).Nodup/\(∀ f∈fs,f.2.1.im=true)/\fs.length<=8/\fs[j]? = some f/\Q (.i (j:Int))
theorem DH(T:Txt K mg a):bc P w K mg base CX0 1 a.jO a.Bp ["_law_program_here","_law_name"] (spQ K GS):=by
 refine T.B4.F.okQ CJ (fun ts Q h=>?_) (fun _ _ _ _ _ _ hr=>?_)
 ·obtain⟨t,fs,j,f,rfl,_⟩:=h;rfl
 ·have hu:=bR hr;refine⟨_,_,((aq (aD (zW (QPF.w (bt rfl (jB (ao (qv 0) ah)) (N':=["_law_function"]) (.own rfl .nil) (bH (g:=(Tg.nm 0)) (fun _ _ _ _ _=>⟨(cw 0),(QPE.f (ao (qv 0) ah))⟩)))) (qv 1))))),fun ts Q h=>?_⟩
  obtain⟨t,fs,j,f,rfl,ht,hn,him,h8,hf,hq⟩:=h;refine⟨_,rfl,aC (by rw[List.length_map];omega),fun i ys=>ys =((fs.take i).map (·.1.1)).map .s,rfl,?_,?_⟩
  ·rintro i y ys hy rfl
   rw[List.getElem?_map]at hy;obtain⟨z,hz,rfl⟩:=Option.map_eq_some_iff.mp hy;refine⟨_,rfl,_,rfl,rfl,?_⟩;show _ ++ [L2.T.s z.1.1]=_;rw[List.take_add_one,hz];simp
  ·rintro ys rfl
   rw[List.length_map,List.take_length];refine⟨jk _,rfl,j,?_,hq⟩;have hjl:=(List.getElem?_eq_some_iff.mp hf).1;have hv:∀{x y:Str},eqV (L2.T.s x).v (L2.T.s y).v=true ↔ x=y:=fun{x y}=>by
    constructor
    ·intro z;have z:(x==y)=true:=z;exact eq_of_beq z
    ·rintro rfl;exact Bg rfl
   rw[List.map_map,List.findIdx?_map,List.findIdx?_eq_some_iff_getElem];refine⟨hjl,?_,fun i hi=>?_⟩
   ·exact hv.mpr (by rw[(List.getElem?_eq_some_iff.mp hf).2])
   ·intro z
    have:=AI (f:=fun f:Fn=>f.1.1) hn (List.getElem?_eq_getElem (by omega:i<fs.length)) hf (hv.mp z)
    omega
def xW:PSp:=fun ts Q=>∃(ks:List Kd)(fs:List Fn)(sc sc':Sc)(b b' am:L2.T)(j:Nat),ts = [.t [tKs ks,.t (fs.map tF)],b,am,.d (sc.map enP)]/\Prog ks fs/\Kid ks (fs.map (·.1)) sc b j b' am sc'/\(sc.map (·.1)).Nodup/\(∀ p∈sc,p.2∈ks.map (·.1))/\Q (.l ((sc'.drop sc.length).map tP))
theorem sd(T:Txt K mg a):bc P w K mg base CX0 2 a.cT a.ml ["program","piece","arm","kinds"] (spQ K xW):=by
 have sO:=@pC P w K mg base a T;have kC:=@jI P w K mg base a T;have sP:=@pE P w K mg base a T;refine T.mP.F.okQ fS (fun ts Q h=>?_) (fun _ _ _ _ _ _ hr=>?_)
 ·obtain⟨ks,fs,sc,sc',b,b',am,j,rfl,_⟩:=h;rfl
 ·have hu:=bR hr;refine⟨_,_,((ag (aF 4 fS.nd (QPE.f (ao (qv 1) ah)))
 (ag (a7 (bQ hu (qv 4) (QPF.w aW))
 (aq (aD (aM (af (av (af (QPE.f (ao (qv 1) ah)) (af (aU kC hr T.fJ (ae (ao (qv 0) ah) (ae (ao (qv 1) ah) ay))) ai))) ai))))
 aH)
 (ag (a7 (bQ hu (qv 4) (QPF.w aW))
 (aq (aD (aM (af (av (af (QPE.f (ao (qv 1) ah)) (af (QPE.f (ao (ao (ao (qv 0) ah) (QPF.w (aU sO hr T.kl (ae (ao (qv 0) ah) (ae (ao (qv 1) ah) ay))))) ah)) ai))) ai))))
 aH)
 (ag (a7 (bQ hu (qv 4) (QPF.w aW))
 (aq (aD (aM (af (av (af (QPE.f (ao (qv 1) ah)) (af (QPE.f (fe (qv 3) (ao (qv 1) ah))) ai))) ai))))
 aH)
 (ag (a7 (bQ hu (qv 4) (QPF.w aW))
 (ag (aF 5 fS.nd (aO (bU rfl) cu (by rfl) T.gw (by kernel_rfl) (ae (QPF.w (aU sP hr T.km (ae (ao (qv 0) ah) (ae (fe (qv 3) (ao (qv 1) ah)) ay)))) ay)))
 (aq (aD (t5 rfl rfl T.fA rfl T.FP (ae (ao (qv 2) ah) (ae (fe (qv 5) (ao (qv 2) ah)) ay))))))
 aH)
 (aq (aD (aM ai))))))))),fun ts Q h=>?_⟩
  obtain⟨ks,fs,sc,sc',b,b',am,j,rfl,hP,hK,hnd,hsk,hq⟩:=h;cases hK with
  | @cO w c b hw =>
   have n1:¬ decide ((L2.T.s w).v =(L2.T.s "make").v)=true:=by rcases hw with rfl|rfl <;> decide +kernel
   have n2:¬ decide ((L2.T.s w).v =(L2.T.s "call").v)=true:=by rcases hw with rfl|rfl <;> decide +kernel
   have n3:¬ decide ((L2.T.s w).v =(L2.T.s "name").v)=true:=by rcases hw with rfl|rfl <;> decide +kernel
   have n4:¬ decide ((L2.T.s w).v =(L2.T.s "case").v)=true:=by rcases hw with rfl|rfl <;> decide +kernel
   refine⟨_,rfl,rfl,rfl,aI (fun z=>absurd z n1) fun _=>⟨rfl,aI (fun z=>absurd z n2) fun _=>⟨rfl,aI (fun z=>absurd z n3) fun _=>⟨rfl,aI (fun z=>absurd z n4) fun _=>?_⟩⟩⟩⟩
   rw[List.drop_length]at hq;exact hq
  | name hy hx =>
   refine⟨_,rfl,rfl,rfl,aI (fun z=>absurd z (by decide +kernel)) fun _=>⟨rfl,aI (fun z=>absurd z (by decide +kernel)) fun _=>⟨rfl,aI (fun _=>?_) fun z=>absurd (by decide +kernel) z⟩⟩⟩
   rw[List.drop_left]at hq;exact⟨_,rfl,rfl,_,rfl,_,AR hnd hy,rfl,hq⟩
  | make hkd hm hx =>
   refine⟨_,rfl,rfl,rfl,aI (fun _=>?_) fun z=>absurd (by decide +kernel) z⟩
   rw[List.drop_left]at hq;exact⟨_,rfl,rfl,_,rfl,_,rfl,ks,_,_,rfl,hP.gk,hkd,hm,hq⟩
  | call hh hx =>
   refine⟨_,rfl,rfl,rfl,aI (fun z=>absurd z (by decide +kernel)) fun _=>⟨rfl,aI (fun _=>?_) fun z=>absurd (by decide +kernel) z⟩⟩
   rw[List.drop_left]at hq;obtain⟨f,hf,rfl⟩:=List.mem_map.mp hh;obtain⟨i,hi,hie⟩:=List.getElem_of_mem hf;have hi':fs[i]? = some f:=by rw[List.getElem?_eq_getElem hi,hie]
   refine⟨_,rfl,rfl,_,rfl,_,rfl,_,rfl,fs,i,f,rfl,hP.hn,fun f hf=>(hP.sn f hf).1.im,hP.l8,hi',?_⟩
   exact⟨_,bE (v:=tF f) (by rw[List.getElem?_map,hi'];rfl),_,rfl,rfl,hq⟩
  | @case x kd arms _ ar m hx hkd hnm ha hm hl hN =>
   refine⟨_,rfl,rfl,rfl,aI (fun z=>absurd z (by decide +kernel)) fun _=>⟨rfl,aI (fun z=>absurd z (by decide +kernel)) fun _=>⟨rfl,aI (fun z=>absurd z (by decide +kernel)) fun _=>⟨rfl,aI (fun _=>?_) fun z=>absurd (by decide +kernel) z⟩⟩⟩⟩
   rw[List.drop_left]at hq;refine⟨_,rfl,_,rfl,_,AR hnd hx,ks,kd.1,rfl,?_⟩;rw[wt hP.gk.nd hkd];refine⟨aT nE _,_,oX kd.2,?_⟩;rw[kP (eQ hP.gk.mn hkd)];have em:ar.1=m.1:=by
    have:=congrArg (·[j]?) hnm
    simp only[List.getElem?_map,ha,hm]at this;exact Option.some.inj this
   have hlk:cc (kd.2.map enM) (.inr ar.1)=some (.t (m.2.map .s)):=by rw[em];exact jf (eQ hP.gk.mn hkd) (List.mem_of_getElem? hm)
   refine⟨_,rfl,_,rfl,_,hlk,aS _,aS _,?_⟩;have ez:iV (ar.2.1.map L2.T.s) (m.2.map L2.T.s) =(ar.2.1.zip m.2).map tP:=by
    unfold iV;rw[List.zip_map,List.map_map];rfl
   rw[ez];exact hq
theorem Kid.sk{b b' am:L2.T}(gk:mG ks)(hh:∀ h∈hs,h.2.2∈ks.map (·.1))(h:Kid ks hs sc b j b' am sc')(hn:∀ p∈sc,p.2∈ks.map (·.1)):∀ p∈sc',p.2∈ks.map (·.1):=by
 have one:∀{x k:Str},k∈ks.map (·.1)->∀ p∈sc ++ [(x,k)],p.2∈ks.map (·.1):=fun{x k} hk p hp=>by
  rcases List.mem_append.mp hp with z|z
  ·exact hn p z
  ·rw[List.mem_singleton.mp z];exact hk
 cases h with
 | cO=>exact hn
 | name hy hx=>exact one (hn _ hy)
 | make hkd _ hx=>exact one (List.mem_map.mpr ⟨_,hkd,rfl⟩)
 | call h1 hx=>exact one (hh _ h1)
 | @case _ kd _ _ _ m _ hkd _ _ hm hl hN =>
  intro p hp;rcases List.mem_append.mp hp with z|z
  ·exact hn p z
  ·exact(gk.fl kd hkd m (List.mem_of_getElem? hm)).2 _ (List.of_mem_zip z).2
def rtN(f:Fn):Nod:=⟨f.2.1,.n,.n,[],f.1.2.1⟩
structure Good(ks:List Kd)(fs:List Fn)(f:Fn)(e:Nod):Prop where
 nd:(e.sc.map (·.1)).Nodup
 sk:∀ p∈e.sc,p.2∈ks.map (·.1)
 pt:Pth ks (fs.map (·.1)) f.1.2.1 e.pa e.sc
 dp:∃ N,N+e.pa.length=92/\Dep N e.b
 sl:e.sc.length<=4+4*e.pa.length
 pi:∀ s∈e.pa,s.2.1.im=true
theorem Good.d92{fs:List Fn}{f:Fn}{e:Nod}(g:Good ks fs f e):Dep 92 e.b:=by
 obtain⟨N,h,d⟩:=g.dp;exact d.mono (by omega)
theorem Good.lim{fs:List Fn}{f:Fn}{e:Nod}(g:Good ks fs f e):e.sc.length<=372:=by
 obtain⟨N,h,d⟩:=g.dp
 have:=g.sl
 omega
theorem Kid.len{b b' am:L2.T}(gk:mG ks)(h:Kid ks hs sc b j b' am sc'):sc'.length<=sc.length+4:=by
 cases h with
 | cO=>omega
 | name=>simp
 | make=>simp
 | call=>simp
 | @case _ kd _ _ _ m _ hkd _ _ hm hl hN =>
  have:=(gk.fl kd hkd m (List.mem_of_getElem? hm)).1
  rw[List.length_append,List.length_zip];omega
theorem Kid.tup{ks:List Kd}{hs:List Hd}{sc sc':Sc}{b b' am:L2.T}{j:Nat}(h:Kid ks hs sc b j b' am sc'):¬ Dep 0 b:=by
 rintro(⟨_,z⟩ |⟨_,z⟩) <;> cases h <;> cases z
theorem Bn:∀{N:Nat}{t:L2.T},Dep N t->t.im=true
 | 0,_,h=>by rcases h with⟨_,rfl⟩ |⟨_,rfl⟩ <;> rfl
 | N+1,_,h=>by
  rcases h with⟨_,rfl⟩ |⟨_,rfl⟩ |⟨ts,rfl,h⟩
  ·rfl
  ·rfl
  ·exact gM fun t ht=>Bn (h t ht)
theorem FG{fs:List Fn}{f:Fn}(hP:Prog ks fs)(hf:f∈fs)(hL:cg ks (fs.map (·.1)) 0 [rtN f] L):∀ e∈L,Good ks fs f e:=by
 obtain⟨p1,p2,p3,p4⟩:=hP.pk f hf;refine hL.all (R:=Good ks fs f) (fun n d j b am sc g hk=>⟨hk.nd g.nd,hk.sk hP.gk (fun h hh=>?_) g.sk,g.pt.snoc hk,?_,?_,fun s hs=>?_⟩) _ rfl fun d hd=>?_
 ·obtain⟨f',hf',rfl⟩:=List.mem_map.mp hh;exact(hP.pk f' hf').2.2.2
 ·obtain⟨N,hN,dN⟩:=g.dp;cases N with
  | zero=>exact absurd dN hk.tup
  | succ N=>exact⟨N,by show N+(d.pa ++ [_]).length=92;rw[List.length_append];simp;omega,hk.dep dN⟩
 ·have:=hk.len hP.gk
  have:=g.sl
  show sc.length<=4+4*(d.pa ++ [_]).length;rw[List.length_append];simp;omega
 ·have hs:s∈d.pa ++ [(n,d.b,j)]:=hs;rcases List.mem_append.mp hs with z|z
  ·exact g.pi s z
  ·rw[List.mem_singleton.mp z];obtain⟨N,_,dN⟩:=g.dp;exact Bn dN
 ·rw[List.mem_singleton.mp hd];exact⟨p3,p2,.nil,⟨92,rfl,hP.dp f hf⟩,p1,fun _ z=>nomatch z⟩
theorem nC:∀ sc:Sc,L2.T.imk (sc.map enP)=true
 | []=>rfl
 | p::r=>by show(true&&L2.T.imk (r.map enP))=true;rw[nC r];rfl
def tPr(ks:List Kd)(fs:List Fn):L2.T:=.t [tKs ks,.t (fs.map tF)]
def Dj:PSp:=fun ts Q=>∃(ks:List Kd)(fs:List Fn)(i:Nat)(f:Fn)(L:List Nod),ts = [tPr ks fs,iN i]/\Prog ks fs/\fs[i]? = some f/\Pre ks (fs.map (·.1)) 0 (rtN f) L/\L.length<=50000/\∀ X:List L2.T,X.map L2.T.dof=L.map (fun e=>some (e.sc.map enP))->Q (.l X)
theorem lN(T:Txt K mg a):bc P w K mg base CX0 5 a.bZ a.h9 ["program","f"] (spQ K Dj):=by
 have ju:=@lL P w K mg base a T;have vA:=@sd P w K mg base a T;refine T.ib.F.okQ b9 (fun ts Q h=>?_) (fun _ _ _ _ _ _ hr=>?_)
 ·obtain⟨ks,fs,i,f,L,rfl,_⟩:=h;rfl
 ·have hu:=bR hr;refine⟨_,_,((ag (aF 2 b9.nd (aM ai))
 (ag (aF 3 b9.nd (aU ju hr T.kR (ae (ao (ao (ao (qv 0) ah) (qv 1)) ah) ay)))
 (ag (cv (g:=(Tg.nm 4)) PassesOwn.never rfl (vU (i:=3) (pv 3)) (bI 4 b9.nd)
 (aq (a7 (bF As vN (bj _) (dq T.cq T.bY (qv 4)) (QPF.w cQ))
 (aq (a6 (i:=2) (pv 2) (C2 (aO (bU rfl) cu (by rfl) T.gw (by kernel_rfl) (ae (ao (ao (ao (qv 0) ah) (qv 1)) ah) ay)))))
 (ag (aF 5 b9.nd (aO mw oq (by rfl) T.gw (by kernel_rfl) (ae (ao (qv 2) (dq T.cq T.bY (qv 4))) ay)))
 (ag (Gw (i:=5) rfl (pv 5) (aU vA hr T.mP (ae (qv 0) (ae (dq T.cq T.cV (ao (qv 3) (dq T.cq T.bY (qv 4)))) (ae (dq T.cq T.ka (qv 4)) (ae (qv 5) ay))))))
 (aq (GB (i:=5) (a6 (i:=2) (pv 2) (QPE.f (qv 5))))))))))
 (aq (kJ (i:=2) (pv 2))))))),fun ts Q h=>?_⟩
  obtain⟨ks,fs,i,f,L,rfl,hP,hf,hR,hL,hq⟩:=h;have hPL:cg ks (fs.map (·.1)) 0 [rtN f] L:=by have:=cg.cons hR (.nil);rwa [List.append_nil]at this
  have hfm:=List.mem_of_getElem? hf;have G:=FG hP hfm hPL;have ef:atI (fs.map tF) (i:Int)=some (tF f):=bE (by rw[List.getElem?_map,hf];rfl)
  refine⟨_,rfl,_,ef,_,rfl,ks,fs.map (·.1),rtN f,L,rfl,rfl,rfl,hR,hL,?_⟩;refine⟨fun c q=>∃(X:List L2.T)(o4 o5:Sl),q = [.r (tPr ks fs),.r (iN i),.o (.l X),.r (.l (L.map (spN a.aE))),o4,o5]/\X.map L2.T.dof =(L.take c).map fun e=>some (e.sc.map enP),⟨_,_,_,rfl,rfl⟩,?_,?_⟩
  ·rintro c y q hy ⟨X,o4,o5,rfl,hX⟩
   rw[List.getElem?_map]at hy;obtain⟨e,he,rfl⟩:=Option.map_eq_some_iff.mp hy;have hcl:=(List.getElem?_eq_some_iff.mp he).1;have hXl:X.length=c:=by
    have:=congrArg List.length hX
    rw[List.length_map,List.length_map,List.length_take]at this;omega
   have hXs:X.length<sizeLine:=bo (by omega)
   have fin:∀ t:L2.T,t.dof=some (e.sc.map enP) ->(X ++ [t]).map L2.T.dof =(L.take (c+1)).map fun e=>some (e.sc.map enP):=fun t ht=>by
    rw[List.map_append,hX,List.take_add_one,he];simp[ht]
   refine⟨_,rfl,rfl,(by decide),_,rfl,?_⟩
   rcases hPL.from _ rfl c e he with⟨j,hj,_⟩ |⟨p,e',cs,j,hpc,he2,hK,hc⟩
   ·have:e=rtN f:=by
     cases j with
     | zero=>cases hj;rfl
     | succ j=>simp at hj
    subst this;refine⟨hXs,_,rfl,_,ef,_,rfl,aT dM _,_,wg _,?_⟩;rw[kP (hP.pk f hfm).2.2.1];exact⟨nC _,fun o vs=>⟨_,_,_,rfl,fin _ rfl⟩⟩
   ·rw[Nat.zero_add]at hK;obtain⟨e3',yq⟩:=hK.ok j _ hc;obtain⟨eb,eab,eam,epa,esc⟩:=e;obtain rfl:eab=iN p:=congrArg Nod.ab e3';have g':=G e' (List.mem_of_getElem? he2);obtain⟨t,ht1,ht2⟩:∃ t,X[p]? = some t/\t.dof=some (e'.sc.map enP):=by
     have:=congrArg (·[p]?) hX
     simp only[List.getElem?_map,List.getElem?_take_of_lt hpc,he2]at this;exact Option.map_eq_some_iff.mp this
    have a1:atI X (p:Int)=some t:=bE ht1;have a2:atI (L.map (spN a.aE)) (p:Int)=some (spN a.aE e'):=bE (by rw[List.getElem?_map,he2];rfl)
    have em:bL (e'.sc.map enP) ((esc.drop e'.sc.length).map enP)=esc.map enP:=by
     have ex:=yq.ext;have nn:=yq.nd g'.nd;rw[ex]at nn;rw[sj nn,<- ex]
    refine⟨rfl,(by decide),_,rfl,_,a1,?_⟩
    simp only[cY,jD,ht2];refine⟨nC _,?_⟩;refine⟨rfl,(by decide),_,rfl,_,a2,rfl,(by decide),_,rfl,rfl,(by decide),_,rfl,ks,fs,e'.sc,esc,e'.b,eb,eam,j,rfl,hP,yq,g'.nd,g'.sk,?_⟩
    refine⟨nC _,aT dM _,_,wg _,?_,?_⟩
    ·have:=g'.lim
     have:esc.length<=e'.sc.length+4:=yq.len hP.gk
     simp only[List.length_map,List.length_drop];exact Nat.le_of_lt (bo (by omega))
    ·rw[em];exact⟨nC _,fun o vs=>⟨hXs,rfl,_,_,_,rfl,fin _ rfl⟩⟩
  ·rintro q ⟨X,o4,o5,rfl,hX⟩
   rw[List.length_map,List.take_length]at hX;exact hq X hX
def MT:PSp:=fun ts Q=>∃(ks:List Kd)(fs:List Fn)(i:Nat)(f:Fn)(L:List Nod)(n:Nat)(e:Nod),ts = [tPr ks fs,iN i,iN n]/\Prog ks fs/\fs[i]? = some f/\Pre ks (fs.map (·.1)) 0 (rtN f) L/\L.length<=50000/\L[n]? = some e/\Q (.l (e.sc.map tP))
theorem rZ(T:Txt K mg a):bc P w K mg base CX0 6 a.cS a.mj ["program","f","n"] (spQ K MT):=by
 have m6:=@lN P w K mg base a T;refine T.iS.F.okQ rC (fun ts Q h=>?_) (fun _ _ _ _ _ _ hr=>?_)
 ·obtain⟨ks,fs,i,f,L,n,e,rfl,_⟩:=h;rfl
 ·have hu:=bR hr;refine⟨_,_,((aq (aD (zU T.fA (ao (QPF.w (aU m6 hr T.ib (ae (qv 0) (ae (qv 1) ay)))) (qv 2)))))),fun ts Q h=>?_⟩
  obtain⟨ks,fs,i,f,L,n,e,rfl,hP,hf,hR,hL,he,hq⟩:=h;refine⟨ks,fs,i,f,L,rfl,hP,hf,hR,hL,fun X hX=>?_⟩
  obtain⟨t,ht1,ht2⟩:∃ t,X[n]? = some t/\t.dof=some (e.sc.map enP):=by
   have:=congrArg (·[n]?) hX
   simp only[List.getElem?_map,he]at this;exact Option.map_eq_some_iff.mp this
  refine⟨t,bE ht1,?_⟩;simp only[ht2];refine⟨nC _,?_⟩;have ep:(e.sc.map enP).map wj=e.sc.map tP:=by rw[List.map_map];rfl
  rw[ep];exact hq
def Dh:PSp:=fun ts Q=>∃ b:L2.T,ts = [b]/\Shp b/\Q (.l ((subs b).map (·.1)))
theorem Ay(T:Txt K mg a):bc P w K mg base CX0 1 a.gS a.wU ["_law_piece"] (spQ K Dh):=by
 refine T.xu.F.okQ zr (fun ts Q h=>?_) (fun _ _ _ _ _ _ hr=>?_)
 ·obtain⟨b,rfl,_⟩:=h;rfl
 ·have hu:=bR hr;refine⟨_,_,((ag (a7 (bQ hu (ao (qv 0) ah) (QPF.w aW))
 (aq (aD (aM ai)))
 aH)
 (ag (a7 (bQ hu (ao (qv 0) ah) (QPF.w aW))
 (aq (aD (bt rfl (jB (ao (qv 0) ah)) (N':=["_law_arm"]) (.own rfl .nil) (bH (g:=(Tg.nm 0)) (fun _ _ _ _ _=>⟨(cw 0),(QPE.f (ao (qv 0) ah))⟩)))))
 aH)
 (aq (aD (aM (af (QPE.f (ao (qv 0) (QPF.w (fY ah)))) ai))))))),fun ts Q h=>?_⟩
  obtain⟨b,rfl,hS,hq⟩:=h;cases hS with
  | give=>exact⟨_,rfl,rfl,aI (fun _=>hq) (fun z=>absurd (by decide +kernel) z)⟩
  | @cO w c b hw hb =>
   have n1:¬ decide ((L2.T.s w).v =(L2.T.s "give").v)=true:=by rcases hw with rfl|rfl <;> decide +kernel
   have n2:¬ decide ((L2.T.s w).v =(L2.T.s "case").v)=true:=by rcases hw with rfl|rfl <;> decide +kernel
   exact⟨_,rfl,rfl,aI (fun z=>absurd z n1) fun _=>⟨_,rfl,rfl,aI (fun z=>absurd z n2) fun _=>⟨_,rfl,hb,hq⟩⟩⟩
  | @name x y b hb =>
   exact⟨_,rfl,rfl,aI (fun z=>absurd z (by decide +kernel)) fun _=>⟨_,rfl,rfl,aI (fun z=>absurd z (by decide +kernel)) fun _=>⟨_,rfl,hb,hq⟩⟩⟩
  | @use w x m ns b hw hb =>
   have n1:¬ decide ((L2.T.s w).v =(L2.T.s "give").v)=true:=by rcases hw with rfl|rfl <;> decide +kernel
   have n2:¬ decide ((L2.T.s w).v =(L2.T.s "case").v)=true:=by rcases hw with rfl|rfl <;> decide +kernel
   exact⟨_,rfl,rfl,aI (fun z=>absurd z n1) fun _=>⟨_,rfl,rfl,aI (fun z=>absurd z n2) fun _=>⟨_,rfl,hb,hq⟩⟩⟩
  | @case x arms hb hl =>
   refine⟨_,rfl,rfl,aI (fun z=>absurd z (by decide +kernel)) fun _=>⟨_,rfl,rfl,aI (fun _=>?_) fun z=>absurd (by decide +kernel) z⟩⟩
   refine⟨_,rfl,bo (by rw[List.length_map];omega),fun i ys=>ys =(arms.take i).map (fun z=>z.2.2.1),rfl,?_,?_⟩
   ·rintro i y ys hy rfl
    rw[List.getElem?_map]at hy;obtain⟨z,hz,rfl⟩:=Option.map_eq_some_iff.mp hy;refine⟨_,rfl,_,rfl,hb z (List.mem_of_getElem? hz),?_⟩;show _ ++ [z.2.2.1]=_;rw[List.take_add_one,hz];simp
   ·rintro ys rfl
    rw[List.length_map,List.take_length];have e:(subs (.t [.s "case",.s x,.t (arms.map tA)])).map (·.1)=arms.map fun z=>z.2.2.1:=by
     show((arms.map tA).map fun x=>(EL x,x)).map _=_
     rw[List.map_map,List.map_map];rfl
    rw[e]at hq;exact hq
def tS(s:Nat×L2.T×Nat):L2.T:=.t [iN s.1,s.2.1,iN s.2.2]
def ptT(n:Nat)(e:Nod):L2.T:=.zl (e.pa.map tS ++ [.t [iN n,e.b,.n]])
def g7:Nat->List Nod->List L2.T
 | _,[]=>[]
 | n,e::r=>ptT n e::g7 (n+1) r
variable{A:List Nod}
theorem Ag{B:List Nod}:∀{n:Nat},g7 n (A++B)=g7 n A++g7 (n+A.length) B:=by
 induction A with
 | nil=>intro n;rfl
 | cons e r ih=>intro n;show _::g7 (n+1) (r++B)=_ ::(g7 (n+1) r++_);rw[ih,List.length_cons,show n+1+r.length=n+(r.length+1)by omega]
theorem fZ:∀{n:Nat},(g7 n A).length=A.length:=by
 induction A with
 | nil=>intro n;rfl
 | cons e r ih=>intro n;show(g7 (n+1) r).length+1=_;rw[ih];rfl
theorem oT:∀{n i:Nat},(g7 n A)[i]? = A[i]?.map (ptT (n+i)):=by
 induction A with
 | nil=>intro n i;rfl
 | cons e r ih =>
  intro n i;cases i with
  | zero=>rfl
  | succ i=>show(g7 (n+1) r)[i]? = r[i]?.map _;rw[ih,show n+1+i=n+(i+1)by omega]
theorem C9:∀{n:Nat},L2.T.ims (g7 n A)=true:=by
 induction A with
 | nil=>intro n;rfl
 | cons e r ih=>intro n;show(true&&L2.T.ims (g7 (n+1) r))=true;rw[ih];rfl
theorem rP{xs ys:List L2.T}:L2.T.eO (xs++ys) =(L2.T.eO xs&&L2.T.eO ys):=by
 induction xs with
 | nil=>rfl
 | cons x r ih=>show(x.pln&&L2.T.eO (r++ys)) =((x.pln&&L2.T.eO r)&&L2.T.eO ys);rw[ih,Bool.and_assoc]
theorem An{ts:List L2.T}(h:∀ t∈ts,t.pln=true):L2.T.eO ts=true:=by
 induction ts with
 | nil=>rfl
 | cons t r ih=>show(t.pln&&L2.T.eO r)=true;rw[h t List.mem_cons_self,ih fun t ht=>h t (List.mem_cons_of_mem _ ht)];rfl
theorem wL:∀{N:Nat}{t:L2.T},Dep N t->t.pln=true
 | 0,_,h=>by rcases h with⟨_,rfl⟩ |⟨_,rfl⟩ <;> rfl
 | N+1,_,h=>by
  rcases h with⟨_,rfl⟩ |⟨_,rfl⟩ |⟨ts,rfl,h⟩
  ·rfl
  ·rfl
  ·exact An fun t ht=>wL (h t ht)
theorem Hl{w:World}{K:W.Frag}{CX:CXT}{k:Nat}{f:Addr}{fd:FuncData}{ps:List Str}{sp:vz}(h:∀ ts Q,¬ sp ts Q):bc P w K mg base CX k f fd ps (spL K j sp) :=
 ⟨fun _ _ _ _ ⟨_,ts,_,_,_,Qp,_,_,_,_,_,_,_,z,_⟩=>(h ts Qp z).elim,fun _ _ _ _ _ _ _ _ _ _ _ _ _ ⟨_,ts,_,_,_,Qp,_,_,_,_,_,_,_,z,_⟩=>(h ts Qp z).elim⟩
structure LA(ks:List Kd)(hs:List Hd)(N n:Nat)(d:Nod)(L:List Nod):Prop where
 pre:Pre ks hs n d L
 len:n+L.length<=50000
 dep:Dep N d.b
 pal:d.pa.length+N<=92
 pln:L2.T.eO (d.pa.map tS)=true
 im:L2.T.ims (d.pa.map tS)=true
def Df(N:Nat):vz:=fun ts Q=>∃(ks:List Kd)(hs:List Hd)(n:Nat)(d:Nod)(L:List Nod)(p:Addr),ts = [d.b,.zl (d.pa.map tS),.lp p [iN n]]/\LA ks hs N n d L/\Q (.l (g7 n L)) (.lp p [iN (n+L.length)])
theorem Aw(T:Txt K mg a)(N:Nat):bc P w K mg base CX0 (N+2) a.gQ a.wQ ["_law_body_here","_law_ahead","_law_counter"] (spL K 2 (Df N)):=by
 have EY:=@Ay P w K mg base a T
 induction N with
 | zero =>
  refine Hl fun ts Q hh=>?_
  obtain⟨ks,hs,n,d,L,p,rfl,h,hq⟩:=hh;have h1:=h.pre;have h2:=h.dep;cases h1 with
  | mk hk _ =>
   have:=hk.sh
   rcases h2 with⟨_,z⟩ |⟨_,z⟩ <;> rw[z]at this <;> cases this
 | succ N qY =>
  refine T.qZ.F.okL fR (fun ts Q h=>?_) (fun _ _ _ _ _ _ hr=>?_) (fun ts Q h=>?_)
  ·obtain⟨ks,hs,n,d,L,p,rfl,_⟩:=h;rfl
  ·have hu:=bR hr;refine⟨_,_,((ag (aF 3 fR.nd (QPE.f (ao (qvp 2) ah)))
 (ag (zN (i:=2) (pv 2) ah (QPF.w (bq (qv 3) ah)))
 (ag (aF 4 fR.nd (aM (af (oN (vY (qv 1) (QPF.w (aM (af (av (af (QPE.f (qv 3)) (af (QPE.f (qv 0)) (af cQ ai)))) ai))))) ai)))
 (ag (cv (g:=(Tg.tp [5,6])) PassesOwn.never rfl (zR T.c6 (aU EY hr T.xu (ae (qv 0) ay))) (fh (bI 5 fR.nd) (bI 6 fR.nd))
 (aq (CS (m:=4) (i:=2) (j:=2) qY hr T.qZ (pv 4) (vT (qv 6) (vT (QPF.w (oN (vY (qv 1) (QPF.w (aM (af (av (af (QPE.f (qv 3)) (af (QPE.f (qv 0)) (af (QPE.f (qv 5)) ai)))) ai)))))) (CU (i:=2) (pv 2) ay))))))
 (aq (zO (i:=4) (pv 4)))))))),fun ts Q t0 p' h ht ha=>?_⟩
   obtain⟨ks,hs,n,d,L,p,rfl,h,hq⟩:=h;cases ht;cases ha;obtain⟨h1,h2,h3,h4,h5,h6⟩:=h;cases h1 with
   | @mk _ _ cs L' hk hL =>
    have hb:=hk.sh.im;have hx:L2.T.ims (d.pa.map tS ++ [.t [iN n,d.b,.n]])=true:=by
     rw[iD,h6];show(true&&((true&&(d.b.im&&(true&&true)))&&true))=true;rw[hb];rfl
    have sz:(d.pa.map tS).length+1<=sizeLine:=Nat.le_of_lt (bo (by rw[List.length_map];omega))
    have hl:n+(L'.length+1)<=50000:=h2;have pb:=wL (N:=N+1) h3;refine⟨_,rfl,rfl,0,rfl,rfl,rfl,?_⟩;refine⟨rfl,hb,_,_,rfl,rfl,sz,h6,(by show((true&&(d.b.im&&(true&&true)))&&true)=true;rw[hb];rfl),?_⟩
    refine⟨(by rw[rP,h5];show(true&&((true&&(d.b.pln&&(true&&true)))&&true))=true;rw[pb];rfl),?_⟩
    refine⟨d.b,rfl,hk.sh,?_⟩;have es:(subs d.b).map (·.1)=cs.map (·.b):=by rw[<- hk.su,List.map_map];rfl
    rw[es];refine⟨fun i q=>∃(A B:List Nod)(m:Nat)(F:List L2.T)(o5 o6:Sl),q = [.r d.b,.r (.zl (d.pa.map tS)),.o (.lp p' [iN m]),.o (iN n),.o (.l F),o5,o6]/\m=n+1+A.length/\F=g7 n (d::A)/\L'=A++B/\cg ks hs (n+1+A.length) (cs.drop i) B,⟨[],L',n+1,_,_,_,rfl,rfl,rfl,rfl,hL⟩,?_,?_⟩
    ·rintro i y q hy ⟨A,B,m,F,o5,o6,rfl,rfl,rfl,hAB,hB⟩
     obtain⟨x,hx,rfl⟩:=dE hy;rw[List.getElem?_map]at hx;obtain⟨c,hc,rfl⟩:=Option.map_eq_some_iff.mp hx;have hcl:=(List.getElem?_eq_some_iff.mp hc).1;obtain⟨ec,yq⟩:=hk.ok i c hc;have ed:cs.drop i=c::cs.drop (i+1):=by
      rw[List.drop_eq_getElem_cons hcl,(List.getElem?_eq_some_iff.mp hc).2]
     rw[ed]at hB;cases hB with
     | @cons _ _ _ L1 M1 hc1 hM =>
      have him:c.b.im=true:=by cases hc1 with|mk h _=>exact h.sh.im
      have hdc:=yq.dep h3;obtain⟨cb,cab,cam,cpa,csc⟩:=c;obtain rfl:cpa=d.pa ++ [(n,d.b,i)]:=congrArg Nod.pa ec;have ll:L'.length=A.length+(L1.length+M1.length):=by rw[hAB,List.length_append,List.length_append]
      have ep:(d.pa ++ [(n,d.b,i)]).map tS=d.pa.map tS ++ [.t [iN n,d.b,iN i]]:=by rw[List.map_append];rfl
      have i1:L2.T.ims ([.t [iN n,d.b,iN i]]:List L2.T)=true:=by show((true&&(d.b.im&&(true&&true)))&&true)=true;rw[hb];rfl
      have p1:L2.T.eO (d.pa.map tS ++ [.t [iN n,d.b,iN i]])=true:=by rw[rP,h5];show(true&&((true&&(d.b.pln&&(true&&true)))&&true))=true;rw[pb];rfl
      refine⟨_,rfl,by decide,him,rfl,hb,rfl,_,_,rfl,rfl,sz,h6,i1,p1,rfl,rfl,ks,hs,n+1+A.length,⟨cb,cab,cam,d.pa ++ [(n,d.b,i)],csc⟩,L1,p',?_,⟨hc1,by omega,hdc,by simp;omega,by rw[ep];exact p1,by rw[ep,iD,h6,i1];rfl⟩,rfl,C9,?_,?_⟩
      ·show _ = [cb,.zl ((d.pa ++ [(n,d.b,i)]).map tS),_];rw[ep];rfl
      ·rw[fZ,fZ,List.length_cons];exact Nat.le_of_lt (bo (by omega))
      ·refine⟨A++L1,M1,_,_,_,_,rfl,by rw[List.length_append,<- Nat.add_assoc],?_,by rw[List.append_assoc];exact hAB,?_⟩
       ·rw[<- List.cons_append,Ag,List.length_cons,show n+(A.length+1)=n+1+A.length by omega]
       ·rw[List.length_append,<- Nat.add_assoc];exact hM
    ·rintro q ⟨A,B,m,F,o5,o6,rfl,rfl,rfl,hAB,hB⟩
     rw[bO,List.length_map,List.drop_length]at hB;cases hB;rw[List.append_nil]at hAB;subst hAB;refine⟨_,rfl,rfl,?_⟩;rw[show n+1+L'.length=n+(d::L').length by rw[List.length_cons];omega]
     exact hq
  ·obtain⟨ks,hs,n,d,L,p,rfl,_⟩:=h;exact⟨_,_,rfl,rfl⟩
def tBd(t:Str×Str×L2.T):L2.T:=.t [.s t.1,.s t.2.1,t.2.2]
theorem sG{xs:List L2.T}{x:L2.T}:cZ (xs ++ [x]) none (some (-1))=xs:=by
 unfold cZ;have e2:HT.sIx (xs ++ [x]).length (xs ++ [x]).length (some (-1))=xs.length:=by
  rw[List.length_append];show(if(-1:Int)<0 then((-1:Int)+((xs.length+1:Nat):Int)).toNat else min (-1:Int).toNat (xs.length+1))=_
  rw[if_pos (by decide)]
  omega
 rw[e2];show((xs ++ [x]).drop 0).take (xs.length - 0)=xs;rw[List.drop_zero,Nat.sub_zero,List.take_left]
theorem wD{ts:List L2.T}{t:L2.T}(h:L2.T.ims ts=true)(ht:t∈ts):t.im=true:=by
 induction ts with
 | nil=>cases ht
 | cons x r ih =>
  have h:(x.im&&L2.T.ims r)=true:=h;rw[Bool.and_eq_true]at h;rcases List.mem_cons.mp ht with rfl|z
  ·exact h.1
  ·exact ih h.2 z
theorem Hm(h:(sc.map (·.1)).Nodup){k k':Str}(h1:(y,k)∈sc)(h2:(y,k')∈sc):k=k':=by
 obtain⟨i,hi,e1⟩:=List.getElem_of_mem h1;obtain⟨j,hj,e2⟩:=List.getElem_of_mem h2
 have:=AI (f:=fun p:Str×Str=>p.1) h (List.getElem?_eq_getElem hi) (List.getElem?_eq_getElem hj) (by rw[e1,e2])
 subst this;rw[e1]at e2;exact(Prod.mk.inj e2).2
theorem pick{us:List (Str×Str×L2.T)}{k:Str}(h:(sc.map (·.1)).Nodup)(hu:us.map (fun t=>(t.1,t.2.1))=sc)(hy:(y,k)∈sc):∃ r,(us.filter fun t=>decide (t.1=y)).map (fun t=>L2.T.s t.2.1) = .s k::r:=by
 rw[<- hu]at hy;obtain⟨t,ht,et⟩:=List.mem_map.mp hy;have hm:t∈us.filter fun t=>decide (t.1=y):=List.mem_filter.mpr ⟨ht,decide_eq_true (congrArg Prod.fst et)⟩
 cases e:us.filter fun t=>decide (t.1=y)with
 | nil=>rw[e]at hm;cases hm
 | cons t' r =>
  have h':t'∈us.filter fun t=>decide (t.1=y):=by rw[e];exact List.mem_cons_self
  obtain⟨h1,h2⟩:=List.mem_filter.mp h';have h2:t'.1=y:=of_decide_eq_true h2
  have:t'.2.1=k:=Hm h (by rw[<- hu];exact List.mem_map.mpr ⟨t',h1,by rw[h2]⟩) (by rw[<- hu];exact hy)
  exact⟨r.map fun t=>.s t.2.1,by rw[List.map_cons,this]⟩
theorem Kid.Na{b b' am:L2.T}(gk:mG ks)(h:Kid ks hs sc b j b' am sc'){c:Nat}(hl:sc.length<=4+4*c):sc'.length<=4+4*(c+1):=by have:=h.len gk;omega
def Di:PSp:=fun ts Q=>∃(ks:List Kd)(fs:List Fn)(i:Nat)(f:Fn)(n:Nat)(e:Nod),ts = [tPr ks fs,iN i,ptT n e]/\Prog ks fs/\fs[i]? = some f/\Good ks fs f e/\L2.T.ims (e.pa.map tS)=true/\∀ us:List (Str×Str×L2.T),us.map (fun t=>(t.1,t.2.1))=e.sc ->(∀ t∈us,t.2.2.im=true)->Q (.l (us.map tBd))
theorem AA(T:Txt K mg a):bc P w K mg base CX0 2 a.f_bound a.wW ["_law_program_here","_law_f","_law_path"] (spQ K Di):=by
 have BV:=@DI P w K mg base a T;have Il:=@DH P w K mg base a T;refine T.xv.F.okQ ck (fun ts Q h=>?_) (fun _ _ _ _ _ _ hr=>?_)
 ·obtain⟨ks,fs,i,f,n,e,rfl,_⟩:=h;rfl
 ·have hu:=bR hr;refine⟨_,_,((ag (gI (i:=3) ck.nd rfl (Or.inl rfl) rfl (vV rfl T.c6 (by kernel_rfl) (ae (ao (ao (ao (qv 0) ah) (qv 1)) ah) ay)) (N':=["_law_k","_law_one","_law_f"]) (.own rfl (.own rfl (.got (i:=1) rfl rfl (.inl rfl) .nil))) (bH (g:=(Tg.tp [0,1])) (fun _ _ _ _ _=>⟨(fh (cw 0) (cw 1)),(av (af (QPE.f (ao (qv 1) ah)) (af (QPE.f (ao (qv 1) ah)) (af (av (af aW (af (QPE.f (qv 2)) (af (QPE.f (qv 0)) ai)))) ai))))⟩)))
 (ag (cv (g:=(Tg.tp [4,5,6])) PassesOwn.never rfl (CV (cX (qv 2) dJ (dH (QPF.w (fY ah))))) (ja (K:=K) (n:=3) rfl rfl (bB (bI 4 ck.nd) (bB (bI 5 ck.nd) (bB (bI 6 ck.nd) i9))))
 (ag (a7 (bQ hu (ao (qv 5) ah) (QPF.w aW))
 (aq (a6 (i:=3) (pv 3) (av (af (QPE.f (ao (qv 5) ah)) (af (aU BV hr T.vC (ae (ao (qv 0) ah) (ae (ao (qv 5) ah) ay))) (af (av (af aW (af (QPE.f (qv 1)) (af (QPE.f (qv 4)) ai)))) ai))))))
 aH)
 (ag (a7 (bQ hu (ao (qv 5) ah) (QPF.w aW))
 (ag (aF 7 ck.nd (aU Il hr T.B4 (ae (qv 0) (ae (ao (qv 5) ah) ay))))
 (aq (a6 (i:=3) (pv 3) (av (af (QPE.f (ao (qv 5) ah)) (af (QPE.f (ao (ao (ao (qv 0) ah) (qv 7)) ah)) (af (av (af aW (af (QPE.f (qv 7)) ai))) ai)))))))
 aH)
 (ag (a7 (bQ hu (ao (qv 5) ah) (QPF.w aW))
 (ag (aF 8 ck.nd (QPE.f (ao (QPF.w (bt rfl (cG (qv 3)) (N':=["_law_one","_law_piece"]) (.own rfl (.got (i:=5) rfl rfl (.inl rfl) .nil)) (t6 (g:=(Tg.nm 0)) (fun _ _ _ _ _=>⟨(cw 0),(bQ hu (ao (qv 0) ah) (ao (qv 1) ah)),(QPE.f (ao (qv 0) ah))⟩)))) ah)))
 (aq (a6 (i:=3) (pv 3) (av (af (QPE.f (ao (qv 5) ah)) (af (QPE.f (qv 8)) (af (av (af aW (af (QPE.f (qv 1)) (af (QPE.f (qv 4)) ai)))) ai)))))))
 aH)
 (aq (a7 (bQ hu (ao (qv 5) ah) (QPF.w aW))
 (ag (lu (g:=(Tg.tp [9,10])) (QPF.w (cX (ao (ao (qv 5) ah) (qv 6)) dJ (dH ah))) (fh (bI 9 ck.nd) (bI 10 ck.nd)))
 (ag (aF 11 ck.nd (QPE.f (fe (QPF.w (aO (bU rfl) cu (by rfl) T.gw (by kernel_rfl) (ae (fe (QPF.w (aO (bU rfl) cu (by rfl) T.gw (by kernel_rfl) (ae (ao (qv 0) ah) ay))) (QPF.w (aU BV hr T.vC (ae (ao (qv 0) ah) (ae (qv 9) ay))))) ay))) (qv 9))))
 (aq (nk (i:=3) (pv 3) (bt rfl (GD rfl T.FP (by kernel_rfl) (ae (qv 10) (ae (qv 11) ay))) (N':=["_law_name","_law_field","_law_f","_law_n"]) (.own rfl (.own rfl (.got (i:=1) rfl rfl (.inl rfl) (.got (i:=4) rfl rfl (.inl rfl) .nil)))) (bH (g:=(Tg.tp [0,1])) (fun _ _ _ _ _=>⟨(fh (cw 0) (cw 1)),(av (af (QPE.f (qv 0)) (af (QPE.f (qv 1)) (af (av (af aW (af (QPE.f (qv 2)) (af (QPE.f (qv 3)) ai)))) ai))))⟩)))))))
 aH))))))
 (aq (kJ (i:=3) (pv 3)))))),fun ts Q h=>?_⟩
  obtain⟨ks,fs,i,f,n,e,rfl,hP,hf,G,him,hq⟩:=h;have hfm:=List.mem_of_getElem? hf;obtain⟨p1,p2,p3,p4⟩:=hP.pk f hfm;have ef:atI (fs.map tF) (i:Int)=some (tF f):=bE (by rw[List.getElem?_map,hf];rfl)
  have hpl:e.pa.length<=92:=by obtain⟨N,h,_⟩:=G.dp;omega
  refine⟨_,rfl,_,ef,_,rfl,?_⟩;refine⟨aC (by rw[bO,List.length_map];omega),fun c ys=>∃ us:List (Str×Str×L2.T),ys=us.map tBd/\us.map (fun t=>(t.1,t.2.1))=f.1.2.1.take c/\∀ t∈us,t.2.2.im=true,⟨[],rfl,rfl,fun _ z=>nomatch z⟩,?_,?_⟩
  ·rintro c y ys hy ⟨us,rfl,h1,h2⟩
   obtain⟨z,hz,rfl⟩:=dE hy;rw[List.getElem?_map]at hz;obtain⟨p,hp,rfl⟩:=Option.map_eq_some_iff.mp hz;refine⟨_,rfl,_,rfl,rfl,_,rfl,rfl,rfl,rfl,us ++ [(p.1,p.2,.t [.s "param",iN i,iN c])],by rw[List.map_append];rfl,?_,fun t ht=>?_⟩
   ·rw[List.map_append,h1,List.take_add_one,hp];rfl
   ·rcases List.mem_append.mp ht with z|z
    ·exact h2 t z
    ·rw[List.mem_singleton.mp z];rfl
  ·rintro ys ⟨us,rfl,h1,h2⟩
   rw[bO,List.length_map,List.take_length]at h1;refine⟨fun c q=>∃(us:List (Str×Str×L2.T))(sc:Sc)(F:List L2.T)(o4 o5 o6 o7 o8 o9 o10 o11:Sl),q = [.r (tPr ks fs),.r (iN i),.r (ptT n e),.o (.l F),o4,o5,o6,o7,o8,o9,o10,o11]/\F=us.map tBd/\us.map (fun t=>(t.1,t.2.1))=sc/\(∀ t∈us,t.2.2.im=true)/\Pth ks (fs.map (·.1)) sc (e.pa.drop c) e.sc/\(sc.map (·.1)).Nodup/\sc.length<=4+4*c,⟨us,_,_,_,_,_,_,_,_,_,_,rfl,rfl,h1,h2,G.pt,p3,by omega⟩,?_,?_⟩
   ·rintro c y q hy ⟨us,sc,F,o4,o5,o6,o7,o8,o9,o10,o11,rfl,rfl,h1,h2,hp,hn,hl⟩
    have hy:(cZ (e.pa.map tS ++ [.t [iN n,e.b,.n]]) none (some (-1)))[c]? = some y:=hy;rw[sG,List.getElem?_map]at hy;obtain⟨⟨m,b,j⟩,hs,rfl⟩:=Option.map_eq_some_iff.mp hy;have hcl:=(List.getElem?_eq_some_iff.mp hs).1;have ed:e.pa.drop c =(m,b,j)::e.pa.drop (c+1):=by
     rw[List.drop_eq_getElem_cons hcl,(List.getElem?_eq_some_iff.mp hs).2]
    rw[ed]at hp;have hus:us.length=sc.length:=by rw[<- h1,List.length_map]
    have lF:(us.map tBd).length<sizeLine:=bo (by rw[List.length_map];omega)
    have one:∀{x k:Str}{t:L2.T},t.im=true ->(us ++ [(x,k,t)]).map (fun t=>(t.1,t.2.1))=sc ++ [(x,k)]/\∀ z∈us ++ [(x,k,t)],z.2.2.im=true:=fun{x k t} ht=>⟨by rw[List.map_append,h1];rfl,fun z hz=>by
     rcases List.mem_append.mp hz with q|q
     ·exact h2 z q
     ·rw[List.mem_singleton.mp q];exact ht⟩
    cases hp with
    | @cons _ sc' _ _ _ _ b' am _ hk hp' =>
     have hn':=hk.nd hn;have hl':=hk.Na hP.gk hl;cases hk with
     | @cO w c b hw =>
      have n1:¬ decide ((L2.T.s w).v =(L2.T.s "make").v)=true:=by rcases hw with rfl|rfl <;> decide +kernel
      have n2:¬ decide ((L2.T.s w).v =(L2.T.s "call").v)=true:=by rcases hw with rfl|rfl <;> decide +kernel
      have n3:¬ decide ((L2.T.s w).v =(L2.T.s "name").v)=true:=by rcases hw with rfl|rfl <;> decide +kernel
      have n4:¬ decide ((L2.T.s w).v =(L2.T.s "case").v)=true:=by rcases hw with rfl|rfl <;> decide +kernel
      refine⟨_,rfl,_,rfl,rfl,aI (fun z=>absurd z n1) fun _=>⟨_,rfl,rfl,aI (fun z=>absurd z n2) fun _=>⟨_,rfl,rfl,aI (fun z=>absurd z n3) fun _=>⟨_,rfl,rfl,aI (fun z=>absurd z n4) fun _=>?_⟩⟩⟩⟩
      exact⟨us,_,_,_,_,_,_,_,_,_,_,rfl,rfl,h1,h2,hp',hn',hl'⟩
     | @make x mk kd ns b hkd hm hx =>
      refine⟨_,rfl,_,rfl,rfl,aI (fun _=>?_) fun z=>absurd (by decide +kernel) z⟩
      refine⟨lF,_,rfl,rfl,_,rfl,_,rfl,ks,kd,mk,rfl,hP.gk,hkd,hm,rfl,rfl,?_⟩;refine⟨_,rfl,rfl,aI (fun z=>absurd z (by decide +kernel)) fun _=>⟨_,rfl,rfl,aI (fun z=>absurd z (by decide +kernel)) fun _=>⟨_,rfl,rfl,aI (fun z=>absurd z (by decide +kernel)) fun _=>?_⟩⟩⟩
      exact⟨us ++ [(x,kd.1,.t [.s "piece",iN i,iN m])],_,_,_,_,_,_,_,_,_,_,rfl,by rw[List.map_append];rfl,(one rfl).1,(one rfl).2,hp',hn',hl'⟩
     | @call x h ns b hh hx =>
      obtain⟨f',hf',rfl⟩:=List.mem_map.mp hh;obtain⟨i',hi',hie⟩:=List.getElem_of_mem hf';have hi2:fs[i']? = some f':=by rw[List.getElem?_eq_getElem hi',hie]
      refine⟨_,rfl,_,rfl,rfl,aI (fun z=>absurd z (by decide +kernel)) fun _=>⟨_,rfl,rfl,aI (fun _=>?_) fun z=>absurd (by decide +kernel) z⟩⟩
      refine⟨_,rfl,tKs ks,fs,i',f',rfl,qf ks,hP.hn,fun f hf=>(hP.sn f hf).1.im,hP.l8,hi2,?_⟩
      refine⟨lF,_,rfl,rfl,_,rfl,_,bE (v:=tF f') (by rw[List.getElem?_map,hi2];rfl),_,rfl,rfl,rfl,?_⟩
      refine⟨_,rfl,rfl,aI (fun z=>absurd z (by decide +kernel)) fun _=>⟨_,rfl,rfl,aI (fun z=>absurd z (by decide +kernel)) fun _=>?_⟩⟩
      exact⟨us ++ [(x,f'.1.2.2,.t [.s "result",iN i'])],_,_,_,_,_,_,_,_,_,_,rfl,by rw[List.map_append];rfl,(one rfl).1,(one rfl).2,hp',hn',hl'⟩
     | @name x y k b hy' hx =>
      refine⟨_,rfl,_,rfl,rfl,aI (fun z=>absurd z (by decide +kernel)) fun _=>⟨_,rfl,rfl,aI (fun z=>absurd z (by decide +kernel)) fun _=>⟨_,rfl,rfl,aI (fun _=>?_) fun z=>absurd (by decide +kernel) z⟩⟩⟩
      refine⟨lF,fun c' ys=>ys =((us.take c').filter fun t=>decide (t.1=y)).map (fun t=>L2.T.s t.2.1),rfl,?_,?_⟩
      ·rintro c' z ys hz rfl
       rw[List.getElem?_map]at hz;obtain⟨t,ht,rfl⟩:=Option.map_eq_some_iff.mp hz;refine⟨_,rfl,_,rfl,_,rfl,rfl,aI (fun g=>?_) fun g=>?_⟩
       ·refine⟨_,rfl,rfl,?_⟩;have g:t.1=y:=V.str.inj (of_decide_eq_true g);rw[List.take_add_one,ht,List.filter_append,List.map_append];simp[g]
       ·have g:¬ t.1=y:=fun z=>g (decide_eq_true (congrArg V.str z))
        show _=_;rw[List.take_add_one,ht,List.filter_append,List.map_append];simp[g]
      ·rintro ys rfl
       rw[List.length_map,List.take_length];obtain⟨r,er⟩:=pick hn h1 hy';rw[er];refine⟨_,bE (j:=0) (v:=.s k) rfl,rfl,lF,_,rfl,rfl,rfl,rfl,rfl,?_⟩;refine⟨_,rfl,rfl,aI (fun z=>absurd z (by decide +kernel)) fun _=>?_⟩
       exact⟨us ++ [(x,k,.t [.s "piece",iN i,iN m])],_,_,_,_,_,_,_,_,_,_,rfl,by rw[List.map_append];rfl,(one rfl).1,(one rfl).2,hp',hn',hl'⟩
     | @case x kd arms _ ar mk hx hkd hnm ha hm hl2 hN =>
      refine⟨_,rfl,_,rfl,rfl,aI (fun z=>absurd z (by decide +kernel)) fun _=>⟨_,rfl,rfl,aI (fun z=>absurd z (by decide +kernel)) fun _=>⟨_,rfl,rfl,aI (fun z=>absurd z (by decide +kernel)) fun _=>⟨_,rfl,rfl,aI (fun _=>?_) fun z=>absurd (by decide +kernel) z⟩⟩⟩⟩
      have em:ar.1=mk.1:=by
       have:=congrArg (·[j]?) hnm
       simp only[List.getElem?_map,ha,hm]at this;exact Option.some.inj this
      have hbi:L2.T.ims (arms.map tA)=true:=by
       have h:=wD him (List.mem_map.mpr ⟨_,List.mem_of_getElem? hs,rfl⟩);have h:(true&&((true&&(true&&(L2.T.ims (arms.map tA)&&true)))&&(true&&true)))=true:=h;simpa using h
      have hai:=wD hbi (List.mem_map.mpr ⟨_,List.mem_of_getElem? ha,rfl⟩);have hat:atI (arms.map tA) (j:Int)=some (tA ar):=bE (by rw[List.getElem?_map,ha];rfl)
      obtain⟨a1,a2,a3,a4⟩:=ar;obtain rfl:a1=mk.1:=em;have hk1:cc (bL [] (ks.map kEn)) (.inr kd.1)=some (tMs kd.2):=by rw[jJ hP.gk.nd (List.mem_map.mpr ⟨kd,hkd,rfl⟩),wt hP.gk.nd hkd]
      have hk2:cc (bL [] (kd.2.map enM)) (.inr mk.1)=some (.t (mk.2.map .s)):=by
       rw[kP (eQ hP.gk.mn hkd)];exact jf (f:=fun m:Mk1=>m.1) (eQ hP.gk.mn hkd) (List.mem_of_getElem? hm)
      refine⟨_,rfl,_,hat,hai,(by show(true&&(L2.T.ims (a2.map .s)&&true))=true;rw[aS];rfl),_,rfl,?_⟩
      refine⟨_,rfl,aT nF _,_,jc ks,_,rfl,ks,kd,mk,rfl,hP.gk,hkd,List.mem_of_getElem? hm,_,hk1,aT nE _,_,oX kd.2,_,hk2,aS _,?_⟩;have hml:=(hP.gk.fl kd hkd mk (List.mem_of_getElem? hm)).1;have hl3:a2.length=mk.2.length:=hl2;refine⟨bo (by rw[iU,List.length_map,List.length_map];omega),fun c' ys=>ys =((a2.zip mk.2).take c').map fun p=>tBd (p.1,p.2,.t [.s "piece",iN i,iN m]),rfl,?_,?_⟩
      ·rintro c' z ys hz rfl
       have ez:iV (a2.map L2.T.s) (mk.2.map L2.T.s) =(a2.zip mk.2).map tP:=by
        unfold iV;rw[List.zip_map,List.map_map];rfl
       rw[ez,List.getElem?_map]at hz;obtain⟨t,ht,rfl⟩:=Option.map_eq_some_iff.mp hz;refine⟨_,rfl,rfl,rfl,rfl,rfl,?_⟩;rw[List.take_add_one,ht,List.map_append];rfl
      ·rintro ys rfl
       have el:(iV (a2.map L2.T.s) (mk.2.map L2.T.s)).length =(a2.zip mk.2).length:=by rw[iU,List.length_zip,List.length_map,List.length_map]
       rw[el,List.take_length];refine⟨?_,?_⟩
       ·rw[List.length_map,List.length_map,List.length_zip];exact Nat.le_of_lt (bo (by omega))
       ·refine⟨us++(a2.zip mk.2).map (fun p=>(p.1,p.2,.t [.s "piece",iN i,iN m])),_,_,_,_,_,_,_,_,_,_,rfl,by rw[List.map_append,List.map_map];rfl,by rw[List.map_append,h1,List.map_map];exact congrArg (sc ++ ·) (List.map_id' _),fun z hz=>?_,hp',hn',hl'⟩
        rcases List.mem_append.mp hz with q|q
        ·exact h2 z q
        ·obtain⟨p,_,rfl⟩:=List.mem_map.mp q;rfl
   ·rintro q ⟨us,sc,F,o4,o5,o6,o7,o8,o9,o10,o11,rfl,rfl,h1,h2,hp,hn,hl⟩
    have hp:Pth ks (fs.map (·.1)) sc (e.pa.drop (cZ (e.pa.map tS ++ [.t [iN n,e.b,.n]]) none (some (-1))).length) e.sc:=hp;rw[sG,List.length_map,List.drop_length]at hp;cases hp;exact hq us h1 h2
def De:PSp:=fun ts Q=>∃(ks:List Kd)(fs:List Fn)(i:Nat)(f:Fn),ts = [tPr ks fs,iN i]/\Prog ks fs/\fs[i]? = some f/\Q (.b true)
theorem xa:(List.replicate n true).all id=true:=by simp
theorem Kx{f:Fn}(h:f.2.1.im=true):(tF f).im=true:=by
 show(true&&(L2.T.ims (f.1.2.1.map tP)&&(true&&(f.2.1.im&&true))))=true;rw[aT dM,h];rfl
theorem Av(T:Txt K mg a):bc P w K mg base CX0 95 a.gP a.wO ["_law_program_here","_law_f"] (spQ K De):=by
 have sN:=@x8 P w K mg base a T;have FV:=@He P w K mg base a T;have mH:=@rZ P w K mg base a T;have EZ:=@AA P w K mg base a T;have qY:=@Aw P w K mg base a T 92;refine T.xr.F.okQ cE (fun ts Q h=>?_) (fun _ _ _ _ _ _ hr=>?_)
 ·obtain⟨ks,fs,i,f,rfl,_⟩:=h;rfl
 ·have hu:=bR hr;refine⟨_,_,((ag (aF 2 cE.nd (QPE.f (ao (ao (qv 0) ah) (qv 1))))
 (ag (aF 3 cE.nd (zV (j:=2) qY hr T.qZ (vS (ao (qv 2) ah) (vS (QPF.w (oN (aM ai))) (CT (aM (af bG ai)) ay)))))
 (ag (aF 4 cE.nd (aU sN hr T.mM (ae (ao (qv 2) ah) ay)))
 (ag (a7 (QPW.pt (lr (oJ (fX (QPF.w (cm (gY rfl) kF (by rfl) T.du (by kernel_rfl) (ae (qv 4) (ae (QPF.w (vW (n:="list") rfl T.fA (by kernel_rfl))) ay)))))) (lj (bF (jd (nI hr) rfl) gG (bj _) (qv 4) (QPF.w (bt rfl (cG (qv 3)) (N':=["_law_one"]) (.own rfl .nil) (bH (g:=(Tg.nm 0)) (fun _ _ _ _ _=>⟨(cw 0),(QPE.f (ao (ao (qv 0) (QPF.w (fY ah))) ah))⟩))))))))
 (aq (aD vX))
 aH)
 (ag (zP (i:=4) (pv 4))
 (ag (cv (g:=(Tg.nm 5)) PassesOwn.never rfl (vU (i:=3) (pv 3)) (bI 5 cE.nd)
 (ag (aF 6 cE.nd (QPE.f (ao (ao (qv 5) (QPF.w (fY ah))) ah)))
 (ag (aF 7 cE.nd (aU FV hr T.B3 (ae (ao (qv 2) ah) (ae (qv 6) ay))))
 (ag (aF 8 cE.nd (aU mH hr T.iS (ae (qv 0) (ae (qv 1) (ae (qv 6) ay)))))
 (ag (gI (i:=9) cE.nd rfl (Or.inl rfl) rfl (cG (QPF.w (aU EZ hr T.xv (ae (qv 0) (ae (qv 1) (ae (qv 5) ay)))))) (N':=["_law_x"]) (.own rfl .nil) (bH (g:=(Tg.nm 0)) (fun _ _ _ _ _=>⟨(cw 0),(aO (b6 rfl) bX (by rfl) T.cL (by kernel_rfl) (ae (QPF.w (cX (qv 0) dJ (dH ah))) ay))⟩)))
 (ag (a7 (QPW.pt (lr (oJ (fX (QPF.w (cm (gY rfl) kF (by rfl) T.du (by kernel_rfl) (ae (qv 7) (ae (QPF.w (vW (n:="list") rfl T.fA (by kernel_rfl))) ay)))))) (lr (bF (jd (nI hr) rfl) gG (bj _) (qv 7) (QPF.w (bt rfl (cG (qv 5)) (N':=["_law_step"]) (.own rfl .nil) (bH (g:=(Tg.nm 0)) (fun _ _ _ _ _=>⟨(cw 0),(QPE.f (ao (qv 0) ah))⟩))))) (lj (oJ (fX (QPF.w (cm (gY rfl) kF (by rfl) T.du (by kernel_rfl) (ae (qv 8) (ae (QPF.w (vW (n:="list") rfl T.fA (by kernel_rfl))) ay))))))))))
 (aq (aD vX))
 aH)
 (ag (a7 (QPW.pt (lr (bF (jd (nI hr) rfl) gG (bj _) (qv 8) (qv 9)) (lj (oJ (fX (QPF.w (cm (nN rfl rfl) vO (by rfl) T.FQ (by kernel_rfl) (ae (QPF.w (bt rfl (cG (qv 8)) (N':=["_law_x"]) (.own rfl .nil) (bH (g:=(Tg.nm 0)) (fun _ _ _ _ _=>⟨(cw 0),(cm (gY rfl) kF (by rfl) T.du (by kernel_rfl) (ae (qv 0) (ae (QPF.w (vW (n:="tuple") rfl T.cL (by kernel_rfl))) ay)))⟩)))) ay))))))))
 (aq (aD vX))
 aH)
 (ag (a6 (i:=7) (pv 7) bG)
 (ag (a6 (i:=8) (pv 8) (av (gL (by rfl))))
 (aq (a7 (QPW.pt (lr (bF (jd (nI hr) rfl) gG (bj _) (QPF.w (aU mH hr T.iS (ae (qv 0) (ae (qv 1) (ae (qv 6) ay))))) (qv 9)) (lj (bF (jd (nI hr) rfl) gG (bj _) (QPF.w (aU FV hr T.B3 (ae (ao (qv 2) ah) (ae (qv 6) ay)))) (QPF.w (bt rfl (cG (qv 5)) (N':=["_law_step"]) (.own rfl .nil) (bH (g:=(Tg.nm 0)) (fun _ _ _ _ _=>⟨(cw 0),(QPE.f (ao (qv 0) ah))⟩))))))))
 (aq (aD vX))
 aH)))))))))))
 (aq (aD (oO (G8 (nI hr) rfl) gG (bj _) (QPF.w (aU sN hr T.mM (ae (ao (qv 2) ah) ay))) (QPF.w (bt rfl (cG (qv 3)) (N':=["_law_one"]) (.own rfl .nil) (bH (g:=(Tg.nm 0)) (fun _ _ _ _ _=>⟨(cw 0),(QPE.f (ao (ao (qv 0) (QPF.w (fY ah))) ah))⟩)))))))))))))),fun ts Q h=>?_⟩
  obtain⟨ks,fs,i,f,rfl,hP,hf,hq⟩:=h;have hfm:=List.mem_of_getElem? hf;obtain⟨hS,h5⟩:=hP.sn f hfm;obtain⟨L,hR,hLl⟩:=hS.pre h5 0 .n .n [];have hR:Pre ks (fs.map (·.1)) 0 (rtN f) L:=hR;have hPL:cg ks (fs.map (·.1)) 0 [rtN f] L:=by have:=cg.cons hR (.nil);rwa [List.append_nil]at this
  have hL:L.length<=50000:=by omega
  have G:=FG hP hfm hPL;have ef:atI (fs.map tF) (i:Int)=some (tF f):=bE (by rw[List.getElem?_map,hf];rfl)
  refine⟨_,rfl,_,ef,Kx hS.im,?_⟩;refine⟨_,rfl,hS.im,rfl,rfl,rfl,_,rfl,fun p=>⟨ks,fs.map (·.1),0,rtN f,L,p,rfl,⟨hR,by omega,hP.dp f hfm,by show 0+92<=92;decide,rfl,rfl⟩,?_⟩⟩
  refine⟨_,rfl,ks,fs.map (·.1),rtN f,L,rfl,rfl,rfl,hR,hL,?_⟩;have alk:∀{xs:List L2.T}{N:Nat},(∀ x∈xs,Dep N x)->∀(j:Nat)(x y:L2.T),xs[j]? = some x->xs[j]? = some y->Alk N x y:=fun{xs N} hd j x y hx hy=>by
   rw[hx]at hy;cases hy;exact(hd x (List.mem_of_getElem? hx)).alk
  have dL:∀ x∈L.map (·.b),Dep 92 x:=fun x hx=>by
   obtain⟨e,he,rfl⟩:=List.mem_map.mp hx;exact(G e he).d92
  have JK:(g7 0 L).length<sizeLine:=bo (by rw[fZ];omega)
  refine⟨by decide,aI (fun z=>absurd z (by decide)) fun _=>?_⟩
  refine⟨JK,fun c ys=>ys =(L.take c).map (·.b),rfl,?_,?_⟩
  ·rintro c y ys hy rfl
   rw[oT]at hy;obtain⟨e,he,rfl⟩:=Option.map_eq_some_iff.mp hy;refine⟨_,rfl,_,jr _ _,_,rfl,hPL.ims e (List.mem_of_getElem? he),?_⟩;show _ ++ [e.b]=_;rw[List.take_add_one,he];simp
  ·rintro ys rfl
   rw[fZ,List.take_length];refine⟨_,_,92,rfl,rfl,by decide,alk dL,fun c hc=>?_⟩
   obtain rfl:c=true:=hc.mpr rfl;refine aI (fun z=>absurd z (by decide)) fun _=>?_
   refine⟨fun c q=>∃ o5 o6 o7 o8 o9:Sl,q = [.r (tPr ks fs),.r (iN i),.o (tF f),.r (.l (g7 0 L)),.o (.l []),o5,o6,o7,o8,o9],⟨_,_,_,_,_,rfl⟩,?_,?_⟩
   ·rintro c y q hy ⟨o5,o6,o7,o8,o9,rfl⟩
    rw[oT,Nat.zero_add]at hy;obtain⟨e,he,rfl⟩:=Option.map_eq_some_iff.mp hy;have g:=G e (List.mem_of_getElem? he);have hpl:e.pa.length<=92:=by obtain⟨N,h,_⟩:=g.dp;omega
    have hpi:L2.T.ims (e.pa.map tS)=true:=gM fun t ht=>by
     obtain⟨s,hs,rfl⟩:=List.mem_map.mp ht;show(true&&(s.2.1.im&&(true&&true)))=true;rw[g.pi s hs];rfl
    have hsl:=g.lim;have nums:∀(c':Nat)(y:L2.T),(e.pa.map tS ++ [.t [iN c,e.b,.n]])[c']? = some y->∃ z r,y = .t (iN z::r)/\(e.pa.map (·.1) ++ [c])[c']? = some z:=fun c' y hy=>by
     by_cases hc:c'<e.pa.length
     ·rw[List.getElem?_append_left (by simpa using hc),List.getElem?_map]at hy
      obtain⟨s,hs,rfl⟩:=Option.map_eq_some_iff.mp hy;exact⟨_,_,rfl,by rw[List.getElem?_append_left (by simpa using hc),List.getElem?_map,hs];rfl⟩
     ·rw[List.getElem?_append_right (by simpa using hc),List.length_map]at hy
      have:c' - e.pa.length=0:=by
       have:=(List.getElem?_eq_some_iff.mp hy).1
       simp at this;omega
      rw[this]at hy;cases hy;exact⟨_,_,rfl,by rw[List.getElem?_append_right (by simpa using hc),List.length_map,this];rfl⟩
    have dI:∀ x∈(e.pa.map (·.1) ++ [c]).map iN,Dep 1 x:=fun x hx=>by
     obtain⟨z,_,rfl⟩:=List.mem_map.mp hx;exact Dep.i
    have dP:∀ x∈e.sc.map tP,Dep 1 x:=fun x hx=>by
     obtain⟨z,_,rfl⟩:=List.mem_map.mp hx;exact Dep.t fun x hx=>by
      rcases List.mem_cons.mp hx with rfl|hx
      ·exact Dep.s
      ·rw[List.mem_singleton.mp hx];exact Dep.s
    refine⟨_,rfl,_,jr _ _,_,rfl,rfl,?_⟩;refine⟨_,rfl,ks,fs.map (·.1),rtN f,L,c,e,rfl,rfl,rfl,rfl,hR,hL,he,?_⟩;refine⟨ks,fs,i,f,L,c,e,rfl,hP,hf,hR,hL,he,?_⟩;refine⟨ks,fs,i,f,c,e,rfl,hP,hf,g,hpi,fun us h1 h2=>?_⟩
    have hus:us.length=e.sc.length:=by rw[<- h1,List.length_map]
    refine⟨bo (by rw[List.length_map];omega),fun c' ys=>ys =(us.take c').map (fun t=>tP (t.1,t.2.1)),rfl,?_,?_⟩
    ·rintro c' y ys hy rfl
     rw[List.getElem?_map]at hy;obtain⟨t,ht,rfl⟩:=Option.map_eq_some_iff.mp hy;refine⟨_,rfl,(by show(true&&(true&&(t.2.2.im&&true)))=true;rw[h2 t (List.mem_of_getElem? ht)];rfl),rfl,?_⟩
     show _ ++ [tP (t.1,t.2.1)]=_;rw[List.take_add_one,ht];simp
    ·rintro ys rfl
     have eu:us.map (fun t=>tP (t.1,t.2.1))=e.sc.map tP:=by rw[<- h1,List.map_map];rfl
     rw[List.length_map,List.take_length,eu];have ol:(e.pa.map tS ++ [L2.T.t [iN c,e.b,.n]]).length =(e.pa.map (·.1) ++ [c]).length:=by simp
     have ow:(e.pa.map tS ++ [L2.T.t [iN c,e.b,.n]]).length<sizeLine:=bo (by simp;omega)
     have nst:∀(c':Nat)(z:Nat),(e.pa.map (·.1) ++ [c])[c']? = some z ->((e.pa.map (·.1) ++ [c]).take c').map iN ++ [iN z] =((e.pa.map (·.1) ++ [c]).take (c'+1)).map iN:=fun c' z hz=>by
      rw[List.take_add_one,hz];simp
     refine⟨by decide,aI (fun z=>absurd z (by decide)) fun _=>?_⟩
     refine⟨ow,fun c' ys=>ys =((e.pa.map (·.1) ++ [c]).take c').map iN,rfl,?_,?_⟩
     ·rintro c' y ys hy rfl
      obtain⟨z,r,rfl,hz⟩:=nums c' y hy;exact⟨_,rfl,_,bE (j:=0) (v:=iN z) rfl,rfl,nst c' z hz⟩
     ·rintro ys rfl
      rw[ol,List.take_length];refine⟨_,_,1,rfl,rfl,by decide,alk dI,fun b hb=>?_⟩
      obtain rfl:b=true:=hb.mpr rfl;refine aI (fun z=>absurd z (by decide)) fun _=>⟨by decide,aI (fun z=>absurd z (by decide)) fun _=>?_⟩
      refine⟨_,_,1,rfl,rfl,by decide,alk dP,fun b hb=>?_⟩
      obtain rfl:b=true:=hb.mpr rfl;refine aI (fun z=>absurd z (by decide)) fun _=>?_
      refine⟨bo (by rw[List.length_map];omega),fun c' ys=>ys =(List.replicate c' true).map L2.T.b,rfl,?_,?_⟩
      ·rintro c' y ys hy rfl
       rw[List.getElem?_map]at hy;obtain⟨t,ht,rfl⟩:=Option.map_eq_some_iff.mp hy;refine⟨_,rfl,by decide,?_⟩
       rw[List.replicate_succ'];simp;rfl
      ·rintro ys rfl
       refine⟨List.replicate _ true,L2.wZ _,?_⟩;rw[xa];refine aI (fun z=>absurd z (by decide)) fun _=>?_
       refine⟨bo (by simp;omega),bo (by rw[List.length_map];omega),?_⟩
       refine⟨ks,fs,i,f,L,c,e,rfl,hP,hf,hR,hL,he,?_⟩;refine⟨_,_,1,rfl,rfl,by decide,alk dP,fun b hb=>?_⟩
       obtain rfl:b=true:=hb.mpr rfl;refine aI (fun z=>absurd z (by decide)) fun _=>?_
       refine⟨_,rfl,ks,fs.map (·.1),rtN f,L,c,e,rfl,rfl,rfl,rfl,hR,hL,he,?_⟩;refine⟨ow,fun c' ys=>ys =((e.pa.map (·.1) ++ [c]).take c').map iN,rfl,?_,?_⟩
       ·rintro c' y ys hy rfl
        obtain⟨z,r,rfl,hz⟩:=nums c' y hy;exact⟨_,rfl,_,bE (j:=0) (v:=iN z) rfl,rfl,nst c' z hz⟩
       ·rintro ys rfl
        rw[ol,List.take_length];refine⟨_,_,1,rfl,rfl,by decide,alk dI,fun b hb=>?_⟩
        obtain rfl:b=true:=hb.mpr rfl;exact aI (fun z=>absurd z (by decide)) fun _=>⟨_,_,_,_,_,rfl⟩
   ·rintro q ⟨o5,o6,o7,o8,o9,rfl⟩
    refine⟨_,rfl,ks,fs.map (·.1),rtN f,L,rfl,rfl,rfl,hR,hL,?_⟩;refine⟨JK,fun c ys=>ys =(L.take c).map (·.b),rfl,?_,?_⟩
    ·rintro c y ys hy rfl
     rw[oT]at hy;obtain⟨e,he,rfl⟩:=Option.map_eq_some_iff.mp hy;refine⟨_,rfl,_,jr _ _,_,rfl,hPL.ims e (List.mem_of_getElem? he),?_⟩;show _ ++ [e.b]=_;rw[List.take_add_one,he];simp
    ·rintro ys rfl
     rw[fZ,List.take_length];refine⟨_,_,92,rfl,rfl,by decide,alk dL,fun c hc=>?_⟩
     obtain rfl:c=true:=hc.mpr rfl;exact hq
theorem Hf(T:Txt K mg a):bc P w K mg base CX0 100 a.nK a.FL ["_law_script"] (k7 K):=by
 have Im:=@DJ P w K mg base a T;have aR:=iG (@fq P w K mg base a T);have yO:=@uw P w K mg base a T;have EW:=@Av P w K mg base a T;refine T.LD.F.Nb (n:=1) (s1:=(bD j8).headD (.Pass ⟨0,0,0,0⟩)) (rest:=(bD j8).tail) tJ rfl rfl (fun _ _ _ _ _ _ hr=>?_)
 have hu:=bR hr;refine⟨_,_,_,(f6 (i:=1) tJ.nd rfl (Or.inl rfl) (kM Im (hr.mono (by decide)) rfl T.q9.m T.q9.F.kp T.q9.b .nil rV (a8 (pv 0) (a8 bg cH)))),((ag (aF 2 tJ.nd (aU yO hr T.nV (ae (qv 1) (ae ah (ae (QPF.w (jC (aM (af bG (af bG ai))) (QPF.w (aO jX oj (by rfl) T.BN (by kernel_rfl) (ae (QPF.w (oO (uu hu rfl) oo (bj _) (QPF.w (aU aR hr T.aX (ae (qv 1) (ae ah ay)))) ah)) ay))))) ay)))))
 (aq (aD (cm (nN rfl rfl) vO (by rfl) T.FQ (by kernel_rfl) (ae (QPF.w (bt rfl (gK rfl T.dQ (ae (QPF.w (bS T.cC (ae (ao (qv 2) ah) ay))) ay)) (N':=["_law_f","_law_program_here"]) (.own rfl (.got (i:=2) rfl rfl (.inl rfl) .nil)) (bH (g:=(Tg.nm 0)) (fun _ _ _ _ _=>⟨(cw 0),(aU EW hr T.xr (ae (qv 1) (ae (qv 0) ay)))⟩)))) ay)))))),fun p0 ns D hS hlen k=>?_,fun ns hlen=>?_⟩
 ·refine⟨_,rfl,p0,ns,_,rfl,hS,hlen,by decide,by decide,fun d l H1 fd fl D1 s1=>?_⟩
  exact k d l H1 fd fl D1 s1
 ·refine⟨by decide,by decide,fun r r0 r1=>⟨rfl,?_⟩⟩
  obtain⟨x,hx,h0,h1⟩:∃ x:Int,atI [L2.T.i 9,.i 20] (if decide ((L2.T.i r).v =(L2.T.i 0).v)=true then 1 else 0)=some (.i x)/\0<=x/\x<=30:=by
   split
   ·exact⟨20,rfl,by decide,by decide⟩
   ·exact⟨9,rfl,by decide,by decide⟩
  refine⟨.i x,hx,3,x,rfl,by decide,by decide,h0,h1,fun ks fs p=>?_⟩
  have l8:=p.l8;have el:((fs.map tF).length:Int) =(fs.length:Int):=by rw[List.length_map]
  refine⟨_,rfl,by rw[el];omega,by rw[el];omega,aC (by rw[cF,el];omega),fun c ys=>ys =(List.replicate c true).map L2.T.b,rfl,?_,?_⟩
  ·rintro c y ys hy rfl
   obtain⟨rfl,hi⟩:=fV hy;rw[el]at hi;have hc:c<fs.length:=by omega
   refine⟨_,rfl,ks,fs,c,fs[c],by rw[Int.zero_add];rfl,p,List.getElem?_eq_getElem hc,?_⟩
   rw[List.replicate_succ'];simp
  ·rintro ys rfl
   refine⟨List.replicate _ true,L2.wZ _,?_⟩;rw[xa]
end
theorem all_mk{l:W.OpenLaw}{w:World}{K:W.Frag}{h:Heap}{fa:Addr}(X:K.In h)(G:h.Ns mainGlobals mg)(hfa:mg "law" = some (.ref fa))
  {aE:Addr} (oY:W.nsIn K mainGlobals "Spot" = some (some (.ref aE))) (pz:W.plainGet K aE Str.empty=true) (pq:W.hasDictIn K aE=true) (pj:W.plainOver K aE=true)
  (ph:W.findIn K (.ref aE) "__setattr__" = some (some (.builtin "object.__setattr__"))) (pe:W.makesIn K aE=true) (oZ:W.keepIn K (.ref aE)=true)
  (dX:W.findIn K (.ref aE) "piece" = some none)
  (dY:W.findIn K (.ref aE) "above" = some none)
  (f7:W.findIn K (.ref aE) "arm" = some none)
  (cU:W.findIn K (.ref aE) "__init__" = some (some (.ref bC))) (fg:LK K bC "__init__" "Spot.__init__" e9 DS DP D7 Ew Ds EO qz EA Cs) (fj:CI K qz "Spot.__init__") (dt:KI K bC) (dr:W.isFn K (.ref bC)=true)
  (gA:NI K "number_of" cz) (gf:LK K cz "number_of" "number_of" fT DQ DN D5 Et Dp EM qw Ey Cq) (gs:CI K qw "number_of") (gh:KI K cz)
  (gB:NI K "makers_of" cA) (gg:LK K cA "makers_of" "makers_of" fU DR DO D6 Eu Dr EN qy Ez Cr) (gu:CI K qy "makers_of") (gi:KI K cA)
  (dn:NI K "kind_of_maker" bx) (de:LK K bx "kind_of_maker" "kind_of_maker" c9 yd yb yn yA x3 yM jW yF xF) (di:CI K jW "kind_of_maker") (dg:KI K bx)
  (qP:NI K "spots" gO) (pL:LK K gO "spots" "spots" oy J2 JU Kn KY JD Lp BA La IP) (qG:CI K BA "spots") (pU:KI K gO)
  (dm:NI K "spots_beneath" bw) (da:LK K bw "spots_beneath" "spots_beneath" c8 yc ya ym yz xZ yL jV yE xE) (dh:CI K jV "spots_beneath") (df:KI K bw)
  (mB:NI K "pieces" eV) (lU:LK K eV "pieces" "pieces" lb Iw Iv Iy Iz Iu IB yH IA Ir) (mx:CI K yH "pieces") (lY:KI K eV)
  (BQ:NI K "way" nJ) (AV:LK K nJ "way" "way" zt MY MW Ng ND MU NL Ia NG MJ) (BL:CI K Ia "way") (AX:KI K nJ)
  (iK:NI K "kinds_at" cS) (ix:LK K cS "kinds_at" "kinds_at" ig Fv Ft FA FI Fj FT sJ FN E8) (iH:CI K sJ "kinds_at") (iA:KI K cS)
  (d8:NI K "kinds_ahead" bZ) (d3:LK K bZ "kinds_ahead" "kinds_ahead" dU AE AB AZ Bo Am BO mq By zb) (d7:CI K mq "kinds_ahead") (d5:KI K bZ)
  (iL:NI K "bound_by" cT) (iy:LK K cT "bound_by" "bound_by" ij Fx Fu FC FJ Fl FU sL FO E9) (iI:CI K sL "bound_by") (iB:KI K cT)
  (vw:NI K "_law_deal" jS) (uH:LK K jS "_law_deal" "_law_deal" tR L8 LZ Mf Mn LR MC EF Mv LJ) (vi:CI K EF "_law_deal") (uO:KI K jS)
  (vv:NI K "_law_draw" jR) (uG:LK K jR "_law_draw" "_law_draw" tQ L7 LY Me Mm LQ MB EE Mu LI) (vh:CI K EE "_law_draw") (uM:KI K jR)
  (qO:NI K "_law_words" gN) (pK:LK K gN "_law_words" "_law_words" ox J1 JT Km KW JC Lo Bz K9 IM) (qF:CI K Bz "_law_words") (pT:KI K gN)
  (qS:NI K "_law_kinds" gR) (pO:LK K gR "_law_kinds" "_law_kinds" oC J5 JX Kr K3 JG Ls BF Ld IT) (qJ:CI K BF "_law_kinds") (pX:KI K gR)
  (vt:NI K "_law_fill" jQ) (uF:LK K jQ "_law_fill" "_law_fill" tO L6 LX Md Ml LP MA ED Mt LH) (vg:CI K ED "_law_fill") (k_fill:KI K jQ)
  (qU:NI K "_law_ended" gT) (pQ:LK K gT "_law_ended" "_law_ended" oF J7 JZ Kt K5 JI Lv BH Lf IV) (qL:CI K BH "_law_ended") (pZ:KI K gT)
  (vx:NI K "_law_case" jT) (uI:LK K jT "_law_case" "_law_case" tT L9 L0 Mg Mp LS MD EG Mw LL) (vj:CI K EG "_law_case") (uP:KI K jT)
  (vy:NI K "_law_body" iF) (uJ:LK K iF "_law_body" "_law_body" tU Ma L3 Mh Mq LU ME EH Mx LM) (vk:CI K EH "_law_body") (uQ:KI K iF)
  (jZ:NI K "_law_program" dv) (jK:LK K dv "_law_program" "_law_program" jz Hi Hh Hy HV GV Ig vb HX Gi) (jY:CI K vb "_law_program") (jM:KI K dv)
  (qT:NI K "_law_inner" gS) (pP:LK K gS "_law_inner" "_law_inner" oE J6 JY Ks K4 JH Lu BG Le IU) (qK:CI K BG "_law_inner") (pY:KI K gS)
  (qR:NI K "_law_paths" gQ) (pN:LK K gQ "_law_paths" "_law_paths" oB J4 JW Kq K0 JF Lr BD Lc IS) (qI:CI K BD "_law_paths") (pW:KI K gQ)
  (vq:NI K "_law_home" jP) (uE:LK K jP "_law_home" "_law_home" tN L5 LW Mc Mj LO Mz EC Ms LG) (vf:CI K EC "_law_home") (uL:KI K jP)
  (vp:NI K "_law_seat" jO) (uD:LK K jO "_law_seat" "_law_seat" tL L4 LV Mb Mi LN My EB Mr LF) (ve:CI K EB "_law_seat") (uK:KI K jO)
  (qV:NI K "_law_bound" f_bound) (pR:LK K f_bound "_law_bound" "_law_bound" oG J8 J0 Ku K6 JJ Lw BI Lg sl_bound) (qM:CI K BI "_law_bound") (p8:KI K f_bound)
  (qQ:NI K "_law_right" gP) (pM:LK K gP "_law_right" "_law_right" oA J3 JV Ko KZ JE Lq BB Lb IQ) (qH:CI K BB "_law_right") (pV:KI K gP)
  (xf:NI K "law" nK) (AW:LK K nK "law" "law" j8 MZ MX Hz HW GW Ih BE HY MK) (BM:CI K BE "law") (AY:KI K nK)
  (yS:W.nsIn K mainGlobals "len" = some none)
  (yU:W.nsIn K mainGlobals "all" = some none)
  (sT:W.nsIn K mainGlobals "list" = some none)
  (nW:W.nsIn K mainGlobals "tuple" = some none)
  (yT:W.nsIn K mainGlobals "int" = some none)
  (sU:W.nsIn K mainGlobals "dict" = some none)
  (ic:W.nsIn K mainGlobals "reversed" = some none)
  (yR:W.nsIn K mainGlobals "max" = some none)
  (nX:W.nsIn K mainGlobals "range" = some none)
  (eZ:W.nsIn K mainGlobals "isinstance" = some none)
  (yQ:W.nsIn K mainGlobals "zip" = some none)
  (fL:W.nsIn K mainGlobals "enumerate" = some none)
  : ∃ fd:FuncData,(∀(s:Shared)(v:Value),BindsTo s fd ⟨[v],[]⟩ [("_law_script",v)])/\∀ base:Heap,K.In base->base.Ns mainGlobals mg->bc l.prog w K mg base CX0 100 fa fd ["_law_script"] (k7 K):=by
 have e:=hfa.symm.trans (W.mg_of X G xf);cases e;have ki:=bb gf gs gh;have kj:=bb gg gu gi;have fH:=bb de di dg;have xj:=bb pL qG pU;have fG:=bb da dh df;have sQ:=bb lU mx lY;have FW:=bb AV BL AX;have mK:=bb ix iH iA;have ia:=bb d3 d7 d5;have mL:=bb iy iI iB;have B0:=bb uH vi uO;have BZ:=bb uG vh uM;have xi:=bb pK qF pT;have xm:=bb pO qJ pX;have BY:=bb uF vg k_fill;have xo:=bb pQ qL pZ;have B1:=bb uI vj uP;have B2:=bb uJ vk uQ;have nT:=bb jK jY jM;have xn:=bb pP qK pY;have xl:=bb pN qI pW;have BX:=bb uE vf uL;have BW:=bb uD ve uK;have xp:=bb pR qM p8;have xk:=bb pM qH pV;have FX:=bb AW BM AY;have dR:=bb fg fj dt;have T:Txt K mg ⟨aE,bC,_,cz,_,cA,_,bx,_,gO,_,bw,_,eV,_,nJ,_,cS,_,bZ,_,cT,_,jS,_,jR,_,gN,_,gR,_,jQ,_,gT,_,jT,_,iF,_,dv,_,gS,_,gQ,_,jP,_,jO,_,f_bound,_,gP,_,nK,_⟩:=⟨⟨pz,pq,pj,ph⟩,W.mg_of X G oY,⟨pe,cU,dr,oZ⟩,dX,dY,f7,dR,⟨cU,dr,dt⟩,dR.b4,⟨ki,W.mg_of X G gA,ki.b2⟩,⟨kj,W.mg_of X G gB,kj.b2⟩,⟨fH,W.mg_of X G dn,fH.b2⟩,⟨xj,W.mg_of X G qP,xj.b1⟩,⟨fG,W.mg_of X G dm,fG.b2⟩,⟨sQ,W.mg_of X G mB,sQ.b1⟩,⟨FW,W.mg_of X G BQ,FW.b2⟩,⟨mK,W.mg_of X G iK,mK.b3⟩,⟨ia,W.mg_of X G d8,ia.b2⟩,⟨mL,W.mg_of X G iL,mL.b4⟩,⟨B0,W.mg_of X G vw,B0.b2⟩,⟨BZ,W.mg_of X G vv,BZ.b2⟩,⟨xi,W.mg_of X G qO,xi.b2⟩,⟨xm,W.mg_of X G qS,xm.b2⟩,⟨BY,W.mg_of X G vt,BY.b3⟩,⟨xo,W.mg_of X G qU,xo.b5⟩,⟨B1,W.mg_of X G vx,B1.b5⟩,⟨B2,W.mg_of X G vy,B2.b5⟩,⟨nT,W.mg_of X G jZ,nT.b3⟩,⟨xn,W.mg_of X G qT,xn.b1⟩,⟨xl,W.mg_of X G qR,xl.b3⟩,⟨BX,W.mg_of X G vq,BX.b2⟩,⟨BW,W.mg_of X G vp,BW.b2⟩,⟨xp,W.mg_of X G qV,xp.b3⟩,⟨xk,W.mg_of X G qQ,xk.b2⟩,⟨FX,W.mg_of X G xf,FX.b1⟩,W.mg_none_of X G yS,W.mg_none_of X G yU,W.mg_none_of X G sT,W.mg_none_of X G nW,W.mg_none_of X G yT,W.mg_none_of X G sU,W.mg_none_of X G ic,W.mg_none_of X G yR,W.mg_none_of X G nX,W.mg_none_of X G eZ,W.mg_none_of X G yQ,W.mg_none_of X G fL⟩;exact⟨W.fnOf "law" "law" (cK j8) (bD j8) (ax j8) .none Hz HW GW Ih BE HY,fun s v=>.of_eq rfl,fun base _ _=>Hf T⟩
theorem walk{l:W.OpenLaw}{q:Program}{loose:List Str}{XP:(Str->Option Value)->Heap->Prop}{YP:World->Heap->Prop}{d:DefRec}{K:Params->W.Frag}(hn:l.most=some 63)(hdf:d.params.defaults = [])
  (hY:∀(w:World)(h:Heap),YP w h ->(K w.params).In h)
  (F:∀(w:World)(mg:Str->Option Value)(fa:Addr)(h:Heap),(K w.params).In h->h.Ns mainGlobals mg->mg d.name=some (.ref fa) ->
   ∃ fd:FuncData,(∀(s:Shared)(u:Value),BindsTo s fd ⟨[u],[]⟩ [("_law_script",u)])/\∀ base:Heap,(K w.params).In base->base.Ns mainGlobals mg->bc l.prog w (K w.params) mg base CX0 100 fa fd ["_law_script"] (k7 (K w.params))) :
  W.WalkO q loose XP YP l.row.toRowW d [] (fun f vs=>PySem.call f vs) :=
 L2.Cf (n:=63) (k:=100) (x:="_law_script") (CX:=fun _=>CX0) (sp:=fun w=>k7 (K w.params)) hn (by decide) hdf ⟨rfl,by decide,by decide⟩ hY F (fun _ _ a ns hl hO hS=>⟨a,ns,rfl,KP hO hS,hl,fun _=>rfl⟩) fun _ _ _ _ _ z=>z
end K27
namespace PySem.W.Fast
def tw10219859432172525565:=()
def tw10248417133600727055:=()
def tw10496626309139705695:=()
def tw1065706667707584634:=()
def tw10683173674926924447:=()
def tw10842339126039113751:=()
def tw1087599449349417977:=()
def tw11089286012275050374:=()
def tw11125733488263461463:=()
def tw11181580469340445008:=()
def tw11385329184783603253:=()
def tw1141670521152898723:=()
def tw11496994817364119596:=()
def tw11514563835572676685:=()
def tw11535505113634987029:=()
def tw11626154107391077294:=()
def tw11908995743006002631:=()
def tw11913833830746677500:=()
def tw11999538138337058710:=()
def tw12072733888473103697:=()
def tw12408164754721149073:=()
def tw12437644433218571183:=()
def tw12499581654745773117:=()
def tw12830520904707780156:=()
def tw13038246926705586015:=()
def tw13110990913114681723:=()
def tw13208680922226917220:=()
def tw13289316439810562532:=()
def tw13309519875275599542:=()
def tw13596993127220708530:=()
def tw13669678527297148784:=()
def tw14034139740208644725:=()
def tw1408638344455676324:=()
def tw14143556618693108395:=()
def tw14433808303285701802:=()
def tw14484601660739683735:=()
def tw14503795216933458856:=()
def tw14917452553501236378:=()
def tw1504255466340528601:=()
def tw15059149742444948380:=()
def tw15142363281770520959:=()
def tw15156193188004466299:=()
def tw1589479118673733984:=()
def tw15988990561733627219:=()
def tw16277127135861493360:=()
def tw16612621440624256096:=()
def tw17094148750606652585:=()
def tw17124583273196885708:=()
def tw17507821136320672248:=()
def tw17523573796295200278:=()
def tw1759492788008648414:=()
def tw18048925300038340246:=()
def tw1819314302284603055:=()
def tw18227976172083988921:=()
def tw18431545369488996482:=()
def tw2063666273988714827:=()
def tw2372719532683352826:=()
def tw2612503970579380025:=()
def tw295519498570238819:=()
def tw3296746597148048855:=()
def tw3474922231350922635:=()
def tw3513399427480333260:=()
def tw3719978261635729794:=()
def tw3975500900570351221:=()
def tw4015626692800496809:=()
def tw4172810911310807955:=()
def tw4175670878430915042:=()
def tw4327034481689929352:=()
def tw4628783226388454533:=()
def tw4674801307553447169:=()
def tw4969032661959552837:=()
def tw5014226960244655573:=()
def tw503328441657360959:=()
def tw5164536341068258609:=()
def tw5308866064514939733:=()
def tw5575212419934561128:=()
def tw5755375106170912292:=()
def tw5918387228398146892:=()
def tw5919083879388181566:=()
def tw5978424488919364105:=()
def tw6033358278349125988:=()
def tw6035728384987764289:=()
def tw6289158777980678967:=()
def tw637795932166542584:=()
def tw6408109740740797962:=()
def tw6672541903929359367:=()
def tw7069142502130459973:=()
def tw712296211702623326:=()
def tw7141168728504735956:=()
def tw7368156020092437951:=()
def tw7393402216438494672:=()
def tw7582416323740316518:=()
def tw7698620788554367292:=()
def tw7700013293600286269:=()
def tw7820445979701882666:=()
def tw7874526048863333549:=()
def tw7989104050215105714:=()
def tw7989218482404042955:=()
def tw8088214720362901265:=()
def tw8131380304286999233:=()
def tw8190987919211752299:=()
def tw8251895624261005889:=()
def tw8334258784609162538:=()
def tw8354147612119984083:=()
def tw8594251185685975456:=()
def tw8607692450945501295:=()
def tw8791937900285893649:=()
def tw8963933878666867818:=()
def tw9069539853987310097:=()
def tw926763915741288257:=()
def tw9324686005030211190:=()
def tw9825590649737413217:=()
def tw9869109736100311610:=()
def tw9904471269375139875:=()
def tw9911672253222334141:=()
def tw9919150533546835506:=()
def tw9969870377079626409:=()
end PySem.W.Fast
open PySem PySem.W PyProof.Rows
set_option maxRecDepth 100000 in
set_option maxHeartbeats 0 in
theorem PySem.Challenge.cw_pursewright_k27_pieces_and_ways_holds : PySem.Challenge.rw_pursewright_k27_pieces_and_ways.Holds := by
 w_on;o_law;k_head;(case hw=>w_witness2)
 k_fill
 refine K27.walk (l:=PySem.Challenge.rw_pursewright_k27_pieces_and_ways) rfl rfl (fun w h Y=>PySem.W.kIn_of Y) ?F
 case F =>
  intro w mg fa h KX G hmg;refine' K27.all_mk KX G hmg ?oY ?pz ?pq ?pj ?ph ?pe ?oZ ?dX ?dY ?f7 ?cU ?fg ?fj ?dt ?dr ?gA ?gf ?gs ?gh ?gB ?gg ?gu ?gi ?dn ?de ?di ?dg ?qP ?pL ?qG ?pU ?dm ?da ?dh ?df ?mB ?lU ?mx ?lY ?BQ ?AV ?BL ?AX ?iK ?ix ?iH ?iA ?d8 ?d3 ?d7 ?d5 ?iL ?iy ?iI ?iB ?vw ?uH ?vi ?uO ?vv ?uG ?vh ?uM ?qO ?pK ?qF ?pT ?qS ?pO ?qJ ?pX ?vt ?uF ?vg ?k_fill ?qU ?pQ ?qL ?pZ ?vx ?uI ?vj ?uP ?vy ?uJ ?vk ?uQ ?jZ ?jK ?jY ?jM ?qT ?pP ?qK ?pY ?qR ?pN ?qI ?pW ?vq ?uE ?vf ?uL ?vp ?uD ?ve ?uK ?qV ?pR ?qM ?p8 ?qQ ?pM ?qH ?pV ?xf ?AW ?BM ?AY ?yS ?yU ?sT ?nW ?yT ?sU ?ic ?yR ?nX ?eZ ?yQ ?fL
  all_goals try delta L2.NI L2.LK L2.CI L2.KI
  all_goals try first|k_is|kernel_rfl
