import PyProof.Rows.All
import Wide.All
import OpenK.AllK
import Wide.FinOn
import Lean
import PyProof.EqAt
import PyProof.EqKinds
import PyProof.TupleCall
import PyProof.InstStoreFacts
import PySem.Challenge.RW_pursewright_k08_sound_programs
set_option Elab.async false
set_option linter.all false
set_option maxRecDepth 100000
namespace L2
open PySem PySem.Spec PyProof.Rows
abbrev Key:=Sum Int Str
def pN:Key->Value->Bool
 | .inl k,v=>Value.isInt k v
 | .inr x,v=>Value.isStrOf x v
def JC(w:World):Key->Int
 | .inl k=>hashInt k
 | .inr x=>hashStr w x
theorem bM:∀{k:Key}{v:Value},pN k v=true ->(∃ i t,k=Sum.inl i/\v=Value.int i t)\/(∃ x t,k=Sum.inr x/\v=Value.str x t)
 | .inl i,v,h=>by
  obtain⟨t,e⟩:=Value.isInt_shape (k:=i) (v:=v) h;exact .inl ⟨i,t,rfl,e⟩
 | .inr x,v,h=>by
  obtain⟨t,e⟩:=Value.isStrOf_shape (x:=x) (v:=v) h;exact .inr ⟨x,t,rfl,e⟩
theorem yJ(i:Int)(t:Tok):pN (.inl i) (.int i t)=true:=by simp[pN,Value.isInt]
theorem yI(x:Str)(t:Tok):pN (.inr x) (.str x t)=true:=by simp[pN,Value.isStrOf]
theorem GX(a b:Int):decide ((Sum.inl a:Key)=Sum.inl b) =(a==b):=by
 by_cases e:a=b
 ·subst e;simp
 ·have h:¬(Sum.inl a:Key)=Sum.inl b:=fun q=>e (Sum.inl.inj q)
  rw[decide_eq_false h];exact(beq_eq_false_iff_ne.mpr e).symm
theorem GS(a b:Str):decide ((Sum.inr a:Key)=Sum.inr b)=decide (a=b):=by
 by_cases e:a=b
 ·subst e;simp
 ·have h:¬(Sum.inr a:Key)=Sum.inr b:=fun q=>e (Sum.inr.inj q)
  rw[decide_eq_false h,decide_eq_false e]
theorem GV(a:Int)(b:Str):decide ((Sum.inl a:Key)=Sum.inr b)=false:=decide_eq_false (fun q=>nomatch q)
theorem GU(a:Str)(b:Int):decide ((Sum.inr a:Key)=Sum.inl b)=false:=decide_eq_false (fun q=>nomatch q)
def a6(prog:Program)(w:World):PySem.KeyKind prog w Key where
 is:=pN
 hash:=JC w
 inj:=fun v a b ha hb=>by
  rcases bM ha with⟨i,t,rfl,rfl⟩ |⟨x,t,rfl,rfl⟩
  ·rcases bM hb with⟨j,u,rfl,e⟩ |⟨y,u,rfl,e⟩
   ·injection e with e1 _;rw[e1]
   ·exact nomatch e
  ·rcases bM hb with⟨j,u,rfl,e⟩ |⟨y,u,rfl,e⟩
   ·exact nomatch e
   ·injection e with e1 _;rw[e1]
 byValue:=fun k v h=>by
  rcases bM h with⟨i,t,rfl,rfl⟩ |⟨x,t,rfl,rfl⟩ <;> rfl
 pyHash:=fun hv h=>by
  rcases bM hv with⟨i,t,rfl,rfl⟩ |⟨x,t,rfl,rfl⟩
  ·exact wpAny_pyHash_int h
  ·exact wpAny_pyHash_str h
 eqBool:=fun hu hv h=>by
  rcases bM hu with⟨i,t,rfl,rfl⟩ |⟨x,t,rfl,rfl⟩
  ·rcases bM hv with⟨j,u,rfl,rfl⟩ |⟨y,u,rfl,rfl⟩
   ·rw[GX]at h;exact wpAny_eqBool_int h
   ·rw[GV]at h;exact SeqAt.EqAt.int_str i t y u _ _ _ _ h
  ·rcases bM hv with⟨j,u,rfl,rfl⟩ |⟨y,u,rfl,rfl⟩
   ·rw[GU]at h;exact SeqAt.EqAt.str_int x t j u _ _ _ _ h
   ·rw[GS]at h;exact wpAny_eqBool_str h
 «strs»:=fun k x t v h=>by
  rcases bM h with⟨i,u,rfl,e⟩ |⟨y,u,rfl,e⟩
  ·exact nomatch e
  ·injection e with e1 _
   subst e1;cases v <;> rfl
theorem uq(prog:Program)(w:World)(i:Int)(t:Tok):(a6 prog w).is (.inl i) (.int i t)=true:=yJ i t
theorem uo(prog:Program)(w:World)(x:Str)(t:Tok):(a6 prog w).is (.inr x) (.str x t)=true:=yI x t
inductive V where
 | non|bl (b:Bool)|int (i:Int)|str (x:Str)|byt (b:Array UInt8)|flt (b:UInt64)|ref (a:Addr)|ty (n:String)
 deriving DecidableEq
def RelV:V->Value->Prop
 | .non,u=>u=Value.none
 | .bl b,u=>u=Value.bool b
 | .int i,u=>∃ t,u=Value.int i t
 | .str x,u=>∃ t,u=Value.str x t
 | .byt b,u=>∃ t,u=Value.bytes b t
 | .flt b,u=>∃ t,u=Value.float b t
 | .ref a,u=>u=Value.ref a
 | .ty n,u=>u=Value.type n
abbrev Vals:List V->List Value->Prop:=Paired RelV
theorem Vals.length{xs:List V}{us:List Value}(r:Vals xs us):xs.length=us.length:=Paired.length r
theorem Vals.get:∀{xs:List V}{us:List Value}{i:Nat}{x:V},Vals xs us->xs[i]? = some x->∃ u,us[i]? = some u/\RelV x u
 | _,_,_,_,.nil,e=>by simp at e
 | _,_,0,_,.cons r _,e=>by simp at e;subst e;exact⟨_,rfl,r⟩
 | _,_,i+1,x,.cons _ t,e=>by
  obtain⟨u,h1,h2⟩:=Vals.get (i:=i) (x:=x) t (by simpa using e)
  exact⟨u,by simpa using h1,h2⟩
theorem Vals.set{x:V}{u:Value}(r:RelV x u):∀{xs:List V}{us:List Value}(i:Nat),Vals xs us->Vals (xs.set i x) (us.set i u)
 | _,_,_,.nil=>.nil
 | _,_,0,.cons _ t=>.cons r t
 | _,_,i+1,.cons q t=>.cons q (Vals.set r i t)
theorem Vals.append:∀{xs ys:List V}{us ws:List Value},Vals xs us->Vals ys ws->Vals (xs++ys) (us++ws)
 | _,_,_,_,.nil,s=>s
 | _,_,_,_,.cons r t,s=>.cons r (Vals.append t s)
theorem Vals.take:∀{xs:List V}{us:List Value}(n:Nat),Vals xs us->Vals (xs.take n) (us.take n)
 | _,_,0,_=>.nil
 | _,_,_+1,.nil=>.nil
 | _,_,n+1,.cons r t=>.cons r (Vals.take n t)
theorem Vals.drop:∀{xs:List V}{us:List Value}(n:Nat),Vals xs us->Vals (xs.drop n) (us.drop n)
 | _,_,0,r=>r
 | _,_,_+1,.nil=>.nil
 | _,_,n+1,.cons _ t=>Vals.drop n t
def iy:Option V->Option Value->Prop
 | some v,some u=>RelV v u
 | none,none=>True
 | _,_=>False
def KV{κ:Type}:List (κ×V)->List (κ×Value)->Prop:=Paired fun(p:κ×V)(q:κ×Value)=>p.1=q.1/\RelV p.2 q.2
def kV:Key->V
 | .inl i=>.int i
 | .inr x=>.str x
inductive HO where
 | lst(xs:List V)
 | tup(xs:List V)
 | dK(kvs:List (Key×V))|dT (kvs:List (List Key×V))
 | set(S:Int->Bool)(n:Nat)
 | ins(C dx:Addr)(fs:List (Str×V))
 | own(x:Addr)
 | xd(fs:List (Str×V))
 | room(x:Int)
 | met(f x:Addr)
 | rng(lo hi:Int)
 | frz(o:Obj)(u:HO)
 | tbl(ps:Array Value)
 | ext(φ:Heap->Prop)
abbrev Hp:=Addr->Option HO
def upd(H:Hp)(a:Addr)(o:HO):Hp:=fun b=>if b=a then some o else H b
theorem au{H:Hp}{a:Addr}{o:HO}:upd H a o a=some o:=by unfold upd;rw[if_pos rfl]
theorem aj{H:Hp}{a b:Addr}{o:HO}(h:b≠a):upd H a o b=H b:=by unfold upd;rw[if_neg h]
theorem lR{H:Hp}{a:Addr}{o u:HO}:upd (upd H a o) a u=upd H a u:=by
 funext b;unfold upd;split <;> rfl
theorem iS{H:Hp}{a b:Addr}{o u:HO}(h:H a=some o)(h':H b=some u)(d:o≠u):a≠b:=by
 intro e;subst e;rw[h]at h';exact d (Option.some.inj h')
theorem aM{H:Hp}{a b:Addr}{o:HO}(h:H a=some o)(h':H b=none):a≠b:=by
 intro e;subst e;rw[h]at h';cases h'
def jn(h:Heap)(a:Addr)(items:Array Value):Prop:=IsTup h a items/\∃ o,h.get? a=some o/\o.dict=none
theorem jn.new(h:Heap)(items:Array Value):jn (h.push { cls:=.type "tuple",data:=.seq items }) h.objs.size items:=⟨IsTup.new _ _,_,Heap.get?_push_size _ rfl,rfl⟩
section
variable(P:Program)(w:World)
def bt(H:Hp)(h:Heap)(a:Addr):HO->Prop
 | .lst xs=>xs.length<=sizeLine/\∃(its:List Value)(n:Nat),Vals xs its/\h.get? a=some { cls:=.type "list",data:=.seq its.toArray n }
 | .tup xs=>xs.length<=sizeLine/\∃ its:List Value,Vals xs its/\jn h a its.toArray
 | .dK kvs=>kvs.length<=sizeLine/\(a==sysModules)=false/\∃ vs,KV kvs vs/\h.DictOf (a6 P w) a vs
 | .dT kvs=>kvs.length<=sizeLine/\(a==sysModules)=false/\∃ xs:List (List Key×Addr×Value),
   Paired (fun(p:List Key×V)(q:List Key×Addr×Value)=>p.1=q.1/\H q.2.1=some (.tup (p.1.map kV))/\RelV p.2 q.2.2) kvs xs /\
   ∃ o es ep,h.get? a=some o/\o.ExactDict/\o.data = .dict es ep/\es.toList=xs.map (entryOfKey (tupleKind (a6 P w)))/\(xs.map (·.1)).Nodup
 | .set S n=>h.SetOf (intKind P w) a S n
 | .ins C dx fs=>H dx=some (.own a)/\fs.length<=1000/\dx≠a/\h.get? a=some (W.instObj C dx) /\
   ∃ mA,h.Ns1 dx mA/\(∀ f,iy (fs.lookup f) (mA f))/\PySem.Within mA (fs.map (·.1))
 | .own _=>∃ o,h.get? a=some o
 | .xd fs=>∃ mA,h.Ns1 a mA/\∀ f,iy (fs.lookup f) (mA f)
 | .room x=>∃(its:List Value)(n:Nat),Vals [.int x] its/\h.get? a=some { cls:=.type "list",data:=.seq its.toArray n }
 | .rng lo hi=>∃ t u v,h.get? a=some { cls:=.type "range",data:=.fields #[.int lo t,.int hi u,.int 1 v] }
 | .frz o u=>h.get? a=some o/\bt H h a u
 | .tbl ps=>h.get? a=some { cls:=.none,data:=.fields ps }
 | .met f x=>h.get? a=some (W.methodObj (.ref f) (.ref x))
 | .ext φ=>φ h/\(∃ o,h.get? a=some o)/\∀ h1 h2:Heap,φ h1 ->(∀ o,h1.get? a=some o->h2.get? a=some o)->φ h2
def HOk(H:Hp)(h:Heap):Prop:=∀ a o,H a=some o->bt P w H h a o
end
section
variable{P:Program}{w:World}{H H':Hp}{h h':Heap}{a:Addr}{o:HO}
theorem bt.lt(x:bt P w H h a o):a<h.objs.size:=by
 cases o with
 | lst xs=>obtain⟨_,_,_,_,e⟩:=x;exact Heap.lt_size e
 | tup xs=>obtain⟨_,_,_,p⟩:=x;exact p.1.lt
 | dK kvs=>obtain⟨_,_,_,_,o,_,_,e,_⟩:=x;exact Heap.lt_size e
 | dT kvs=>obtain⟨_,_,_,_,o,_,_,e,_⟩:=x;exact Heap.lt_size e
 | set S n=>obtain⟨o,_,_,_,e,_⟩:=x;exact Heap.lt_size e
 | ins C dx fs=>obtain⟨_,_,_,e,_⟩:=x;exact Heap.lt_size e
 | own y=>obtain⟨_,e⟩:=x;exact Heap.lt_size e
 | xd fs=>obtain⟨_,⟨_,_,_,e,_⟩,_⟩:=x;exact Heap.lt_size e
 | room x'=>obtain⟨_,_,_,e⟩:=x;exact Heap.lt_size e
 | rng lo hi=>obtain⟨_,_,_,e⟩:=x;exact Heap.lt_size e
 | frz ob u=>obtain⟨e,_⟩:=x;exact Heap.lt_size e
 | tbl ps=>exact Heap.lt_size (show h.get? a=some _ from x)
 | met f y=>exact Heap.lt_size (show h.get? a=some _ from x)
 | ext φ=>obtain⟨_,⟨_,e⟩,_⟩:=x;exact Heap.lt_size e
theorem Paired.GJ{α β:Type}{F G:α->β->Prop}:∀{l₁:List α}{l₂:List β},Paired F l₁ l₂ ->(∀ a b,F a b->G a b)->Paired G l₁ l₂
 | _,_,.nil,_=>.nil
 | _,_,.cons r t,f=>.cons (f _ _ r) (Paired.GJ t f)
theorem bt.cX(x:bt P w H h a o)(k:∀ b u,(b=a\/H b=some (.own a))->h.get? b=some u->h'.get? b=some u)
  (ho:∀ b,H b=some (.own a)->H' b=some (.own a)) (ht:∀ b xs,H b=some (.tup xs)->H' b=some (.tup xs)):bt P w H' h' a o:=by
 induction o with
 | lst xs=>obtain⟨z,its,n,r,e⟩:=x;exact⟨z,its,n,r,k _ _ (.inl rfl) e⟩
 | tup xs=>obtain⟨z,its,r,⟨ob,e,c⟩,o2,e2,d2⟩:=x;exact⟨z,its,r,⟨ob,k _ _ (.inl rfl) e,c⟩,o2,k _ _ (.inl rfl) e2,d2⟩
 | dK kvs=>obtain⟨z,y,vs,r,ob,es,ep,e,c⟩:=x;exact⟨z,y,vs,r,ob,es,ep,k _ _ (.inl rfl) e,c⟩
 | dT kvs =>
  obtain⟨z,y,xs,r,ob,es,ep,e,c⟩:=x;exact⟨z,y,xs,Paired.GJ r fun p q z=>⟨z.1,ht _ _ z.2.1,z.2.2⟩,ob,es,ep,k _ _ (.inl rfl) e,c⟩
 | set S n=>obtain⟨ob,es,ep,t,e,c⟩:=x;exact⟨ob,es,ep,t,k _ _ (.inl rfl) e,c⟩
 | ins C dx fs =>
  obtain⟨d,z,ne,e,mA,⟨od,es,ep,e2,c⟩,r⟩:=x;exact⟨ho _ d,z,ne,k _ _ (.inl rfl) e,mA,⟨od,es,ep,k _ _ (.inr d) e2,c⟩,r⟩
 | own y=>obtain⟨ob,e⟩:=x;exact⟨ob,k _ _ (.inl rfl) e⟩
 | xd fs=>obtain⟨mA,⟨od,es,ep,e,c⟩,r⟩:=x;exact⟨mA,⟨od,es,ep,k _ _ (.inl rfl) e,c⟩,r⟩
 | room x'=>obtain⟨t,u,v,e⟩:=x;exact⟨t,u,v,k _ _ (.inl rfl) e⟩
 | rng lo hi=>obtain⟨t,u,v,e⟩:=x;exact⟨t,u,v,k _ _ (.inl rfl) e⟩
 | frz ob u ih=>obtain⟨e,q⟩:=x;exact⟨k _ _ (.inl rfl) e,ih q⟩
 | tbl ps =>
  have e:h.get? a=some { cls:=.none,data:=.fields ps }:=x;show h'.get? a=some { cls:=.none,data:=.fields ps };exact k a _ (.inl rfl) e
 | met f y =>
  have e:h.get? a=some (W.methodObj (.ref f) (.ref y)):=x;show h'.get? a=some (W.methodObj (.ref f) (.ref y));exact k a _ (.inl rfl) e
 | ext φ=>obtain⟨p,⟨o,e⟩,st⟩:=x;exact⟨st _ _ p fun o q=>k _ _ (.inl rfl) q,⟨o,k _ _ (.inl rfl) e⟩,st⟩
theorem HOk.lt(x:HOk P w H h)(e:H a=some o):a<h.objs.size:=(x a o e).lt
theorem HOk.fresh(x:HOk P w H h)(e:h.objs.size<=a):H a=none:=by
 cases q:H a with
 | none=>rfl
 | some u=>exact absurd (Nat.lt_of_lt_of_le (x.lt q) e) (Nat.lt_irrefl _)
theorem HOk.kept(x:HOk P w H h)(k:∀ b u,h.get? b=some u->h'.get? b=some u):HOk P w H h':=fun a o e =>
 (x a o e).cX (fun b u _ q=>k b u q) (fun _ q=>q) fun _ _ q=>q
theorem HOk.laid(x:HOk P w H h)(k:∀ b u,h.get? b=some u->h'.get? b=some u)(hp:h.objs.size<=a)(new:bt P w (upd H a o) h' a o):HOk P w (upd H a o) h':=fun b u e=>by
 have hn:=x.fresh hp;by_cases hb:b=a
 ·subst hb;rw[au]at e;cases e;exact new
 ·rw[aj hb]at e;exact(x b u e).cX (fun c v _ q=>k c v q) (fun c q=>by rw[aj (aM q hn)];exact q) fun c xs q=>by rw[aj (aM q hn)];exact q
end
def Rd(H:Hp)(a:Addr)(u:HO):Prop:=H a=some u\/∃ o,H a=some (.frz o u)
theorem Rd.ok{P:Program}{w:World}{H:Hp}{h:Heap}{a:Addr}{u:HO}(r:Rd H a u)(x:HOk P w H h):bt P w H h a u:=by
 rcases r with r |⟨o,r⟩
 ·exact x a u r
 ·obtain⟨_,q⟩:=x a _ r;exact q
def Mut:Option HO->Prop
 | some (.lst _)=>True
 | some (.dK _)=>True
 | some (.dT _)=>True
 | some (.set _ _)=>True
 | some (.ins _ _ _)=>True
 | some (.ext _)=>True
 | some (.room _)=>True
 | _=>False
section
variable{P:Program}{w:World}{H:Hp}{h h':Heap}{x e:Addr}{o':HO}
theorem HOk.write(ok:HOk P w H h)(mu:Mut (H x))(he:e=x\/H e=some (.own x))(k:∀ b u,b≠e->h.get? b=some u->h'.get? b=some u)(heo:∃ u,h'.get? e=some u)
  (new:bt P w (upd H x o') h' x o'):HOk P w (upd H x o') h':=fun b u q=>by
 have Io:∀ c y,H c=some (.own y)->c≠x:=fun c y r z=>by subst z;rw[r]at mu;exact mu
 have Jt:∀ c xs,H c=some (.tup xs)->c≠x:=fun c xs r z=>by subst z;rw[r]at mu;exact mu
 by_cases hb:b=x
 ·subst hb;rw[au]at q;cases q;exact new
 ·rw[aj hb]at q;by_cases hbe:b=e
  ·have q':H b=some (.own x):=by
    rcases he with z|z
    ·exact absurd (hbe.trans z) hb
    ·rw[hbe];exact z
   rw[q]at q';cases q';obtain⟨v,hv⟩:=heo;exact⟨v,by rw[hbe];exact hv⟩
  ·refine(ok b u q).cX (fun c v hc r=>k c v ?_ r) (fun c r=>by rw[aj (Io c b r)];exact r) fun c xs r=>by rw[aj (Jt c xs r)];exact r
   rcases hc with rfl|hc
   ·exact hbe
   ·rintro rfl
    rcases he with z|z
    ·exact Io c b hc z
    ·rw[hc]at z;cases z;exact hb rfl
end
structure Un(fs ex:List Addr)(H H':Hp)(h h':Heap):Prop where
 keep:∀ b o,h.get? b=some o->H b=none->b ∉ fs->b ∉ ex->h'.get? b=some o
 slot:∀ b o,h.get? b=some o->H b=none->b∈fs->b ∉ ex->∃ sl,h'.get? b=some { o with slots:=sl }
 free:∀ b o,h.get? b=some o->H b=none->b ∉ ex->H' b=none
 there:∀ b o,h.get? b=some o->b ∉ ex->∃ o',h'.get? b=some o'
 mv:∀ b xs,H b=some (.tup xs)->H' b=some (.tup xs)
 jQ:∀ b o u,H b=some (.frz o u)->H' b=some (.frz o u)
 mw:∀ b ps,H b=some (.tbl ps)->∃ more,H' b=some (.tbl (ps++more))
section
variable{fs fs' ex ex':List Addr}{H H1 H2:Hp}{h h1 h2 h':Heap}{a x e:Addr}{o:HO}
theorem Un.any(u:Un fs ex H H1 h h1){b:Addr}{ob:Obj}(q:h.get? b=some ob)(n:H b=none)(hx:b ∉ ex):∃ sl,h1.get? b=some { ob with slots:=sl }:=by
 by_cases hb:b∈fs
 ·exact u.slot b ob q n hb hx
 ·exact⟨ob.slots,u.keep b ob q n hb hx⟩
theorem Un.kept(k:∀ b u,h.get? b=some u->h'.get? b=some u):Un fs ex H H h h' :=
 ⟨fun b ob q _ _ _=>k b ob q,fun b ob q _ _ _=>⟨ob.slots,k b ob q⟩,fun _ _ _ n _=>n,fun b ob q _=>⟨ob,k b ob q⟩,fun _ _ q=>q,fun _ _ _ q=>q,fun _ ps q=>⟨#[],by rw[q];simp⟩⟩
theorem Un.refl:Un fs ex H H h h:=Un.kept fun _ _ q=>q
theorem Un.laid(k:∀ b u,h.get? b=some u->h'.get? b=some u)(hp:h.objs.size<=a)(hn:H a=none):Un fs ex H (upd H a o) h h' where
 keep:=fun b u q _ _ _=>k b u q
 slot:=fun b u q _ _ _=>⟨u.slots,k b u q⟩
 free:=fun b u q n _=>by rw[aj (Nat.ne_of_lt (Nat.lt_of_lt_of_le (Heap.lt_size q) hp))];exact n
 there:=fun b u q _=>⟨u,k b u q⟩
 mv:=fun b xs q=>by rw[aj (aM q hn)];exact q
 jQ:=fun b u xs q=>by rw[aj (aM q hn)];exact q
 mw:=fun b ps q=>⟨#[],by rw[aj (aM q hn),q];simp⟩
theorem Un.write(mu:Mut (H x))(he:e=x\/H e=some (.own x))(k:∀ b u,b≠e->h.get? b=some u->h'.get? b=some u)(heo:∃ u,h'.get? e=some u):Un fs ex H (upd H x o) h h':=by
 have hx:∀ b,H b=none->b≠x:=fun b n z=>by subst z;rw[n]at mu;exact mu
 have hb:∀ b,H b=none->b≠e:=fun b n z=>by
  subst z;rcases he with r|r
  ·exact hx b n r
  ·rw[n]at r;cases r
 have hm:∀ b u,H b=some u->¬ Mut (some u)->b≠x:=fun b u q nm z=>by subst z;rw[q]at mu;exact nm mu
 refine⟨fun b u q n _ _=>k b u (hb b n) q,fun b u q n _ _=>⟨u.slots,k b u (hb b n) q⟩,fun b u q n _=>by rw[aj (hx b n)];exact n,fun b u q _=>?_,
  fun b xs q=>by rw[aj (hm b _ q fun z=>z)];exact q,fun b u xs q=>by rw[aj (hm b _ q fun z=>z)];exact q,fun b ps q=>⟨#[],by rw[aj (hm b _ q fun z=>z),q];simp⟩⟩
 by_cases hbe:b=e
 ·subst hbe;exact heo
 ·exact⟨u,k b u hbe q⟩
end
def trk(h:Heap)(H:Hp):List Addr:=(List.range h.objs.size).filter fun a=>(H a).isSome
def sh(h:Heap)(H:Hp):Heap:=W.hideAll h (trk h H)
theorem yL(h:Heap)(H:Hp):(sh h H).objs.size=h.objs.size:=W.hideAll_size _ _
theorem Bn{h:Heap}{H:Hp}{b:Addr}{o:Obj}(e:h.get? b=some o)(n:H b=none):(sh h H).get? b=some o :=
 W.hideAll_get _ e fun hm=>by
  have q:(H b).isSome=true:=(List.mem_filter.mp hm).2;rw[n]at q;simp at q
theorem Dr{h:Heap}{H:Hp}{b:Addr}{o:Obj}(e:(sh h H).get? b=some o):h.get? b=some o/\H b=none:=by
 have e':h.get? b=some o:=W.of_hideAll (trk h H) e;refine⟨e',?_⟩;cases q:H b with
 | none=>rfl
 | some x =>
  have hm:b∈trk h H:=List.mem_filter.mpr ⟨List.mem_range.mpr (Heap.lt_size e'),by simp[q]⟩
  have z:(sh h H).get? b=none:=W.hideAll_none (trk h H) hm;rw[z]at e;cases e
structure Mod(K:W.Frag)(mg:Str->Option Value)(base:Heap):Prop where
 kin:K.In base
 glob:base.Ns mainGlobals mg
 blt:∃ mb,base.Ns builtinsNs mb/\∀ x:Str,x ≠ "__name__" -> mb x=bootBuiltins x
 nolimit:base.NoLimit
structure Cx where
 prog:Program
 w:World
 K:W.Frag
 mg:Str->Option Value
 base:Heap
 A:Around
 N:List Str
 s₀:Shared
 H₀:Hp
 env:Env
 outer:List Env
 stack:List Env
 ex:List Addr
 fn:Str->Bool
 calm:Bool
 pn:List (Addr×Obj)
 xe:Value->Shared->Prop
def frs(l:List Env):List Addr:=l.filterMap (·.frame)
abbrev Cx.fs(X:Cx):List Addr:=frs X.outer
def Vis(sc:Scope)(x:Str):Prop:=sc.names.lookup x=some .local\/sc.names.lookup x=some .cell\/sc.names.lookup x=some .free
def Loc(sc:Scope)(x:Str):Prop:=sc.names.lookup x=some .local\/sc.names.lookup x=some .cell
def Look(env:Env)(h:Heap)(m:Str->Option Value)(x:Str)(u:Value):Prop :=
 (env.kindOf x=some .local/\m x=some u)\/((env.kindOf x=some .cell\/env.kindOf x=some .free)/\∃ c,env.cells.lookup x=some c/\h.IsCell c (some u))
structure Cx.Ok(X:Cx):Prop where
 mod:Mod X.K X.mg X.base
 kind:X.env.scope.kind = .function
 glob:X.env.globals=mainGlobals
 blt:X.env.builtins=builtinsNs
 above:X.s₀.heap.objs.size<=X.env.locals
 inj:∀ x y c,X.env.cells.lookup x=some c->X.env.cells.lookup y=some c->x=y
 has:∀ x,(X.env.kindOf x=some .cell\/X.env.kindOf x=some .free)->∃ c,X.env.cells.lookup x=some c
 cab:∀ x c,X.fn x=true->X.env.cells.lookup x=some c->X.s₀.heap.objs.size<=c
 hd:X.calm=true->X.A.handled=none
 frames:X.A.frames=some X.stack
 stk:X.stack=X.outer\/(X.stack=X.env::X.outer/\X.env.frame=some X.env.locals)
 exf:∀ b∈X.ex,b≠X.env.locals/\∀ x c,X.env.cells.lookup x=some c->c≠b
 bs:∀ b o,X.base.get? b=some o->X.s₀.heap.get? b=some o/\X.H₀ b=none
 bsz:X.base.objs.size<=X.s₀.heap.objs.size
 AV:∀ b o,X.base.get? b=some o->b ∉ X.ex
 Eg:∀ b∈X.ex,b ∉ X.fs
 lN:X.s₀.heap.FunFrames X.base X.outer
 frf:∀ b∈X.fs,X.H₀ b=none
structure Inv(X:Cx)(pins:List (Addr×Obj))(σ:List (Option V))(H:Hp)(s:Shared):Prop where
 ok:X.Ok
 os:s.os=X.s₀.os
 bare:AllBare s.gens
 base:Un X.fs X.ex X.H₀ H X.s₀.heap s.heap
 loc:∃ m,s.heap.Ns X.env.locals m/\∀(i:Nat)(x:Str)(v:V),X.N[i]? = some x->σ[i]? = some (some v)->Vis X.env.scope x->∃ u,RelV v u/\Look X.env s.heap m x u
 cell:∀ x c,X.env.cells.lookup x=some c->∃ v,s.heap.IsCell c v
 free:H X.env.locals=none
 eh:∀ x c,X.env.cells.lookup x=some c->H c=none
 pin:∀ p∈X.pn++pins,s.heap.get? p.1=some p.2/\H p.1=none/\p.1≠X.env.locals/\p.1 ∉ X.fs/\∀ v,p.2.data ≠ .cell v
 hok:HOk X.prog X.w H s.heap
 len:σ.length=X.N.length
section
variable{X:Cx}{pins:List (Addr×Obj)}{σ:List (Option V)}{H H':Hp}{s:Shared}{h':Heap}
theorem Cx.Ok.Ju(ok:X.Ok){b:Addr}{o:Obj}(e:X.base.get? b=some o):b ∉ X.fs:=fun hb=>by
 have:=(ok.lN.mem hb).1
 rw[e]at this;cases this
theorem Inv.bs(I:Inv X pins σ H s):∀ b o,X.base.get? b=some o->s.heap.get? b=some o/\H b=none:=fun b o e =>
 ⟨I.base.keep b o (I.ok.bs b o e).1 (I.ok.bs b o e).2 (I.ok.Ju e) (I.ok.AV b o e),I.base.free b o (I.ok.bs b o e).1 (I.ok.bs b o e).2 (I.ok.AV b o e)⟩
theorem Inv.bk(I:Inv X pins σ H s):∀ b o,X.base.get? b=some o->s.heap.get? b=some o:=fun b o e=>(I.bs b o e).1
theorem Inv.mod(I:Inv X pins σ H s):Mod X.K X.mg X.base:=I.ok.mod
theorem Inv.kIn(I:Inv X pins σ H s):X.K.In s.heap:=I.ok.mod.kin.keeps I.bk
theorem Inv.lt(I:Inv X pins σ H s):X.env.locals<s.heap.objs.size:=let⟨_,hn,_⟩:=I.loc;hn.lt
theorem Inv.sz(I:Inv X pins σ H s):X.s₀.heap.objs.size<=s.heap.objs.size:=Nat.le_trans I.ok.above (Nat.le_of_lt I.lt)
theorem Inv.Ip(I:Inv X pins σ H s){a:Addr}(h:s.heap.objs.size<=a):a ∉ X.fs:=fun hb=>by
 obtain⟨_,o,ho,_⟩:=I.ok.lN.mem hb;exact absurd (Nat.lt_of_lt_of_le (Heap.lt_size ho) (Nat.le_trans I.sz h)) (Nat.lt_irrefl _)
theorem Inv.cne(I:Inv X pins σ H s):∀ x c,X.env.cells.lookup x=some c->c≠X.env.locals:=fun x c e z=>by
 obtain⟨v,o,ho,hd⟩:=I.cell x c e;obtain⟨m,⟨o',es,ep,ho',hd',_⟩,_⟩:=I.loc;rw[z,ho']at ho;cases ho;rw[hd']at hd;cases hd
theorem Inv.lN(I:Inv X pins σ H s):s.heap.FunFrames X.base X.outer:=by
 have all:∀(l:List Env),(∀ b∈frs l,b∈X.fs)->X.s₀.heap.FunFrames X.base l->s.heap.FunFrames X.base l:=by
  intro l
  induction l with
  | nil=>intro _ _;trivial
  | cons env r ih =>
   intro hs hl;obtain⟨hk,⟨L,o,hf,hn,ho,hd⟩,hr⟩:=hl;have hL:L∈X.fs:=hs L (by unfold frs;rw[List.filterMap_cons,hf];exact List.mem_cons_self)
   obtain⟨sl,e⟩:=I.base.slot L o ho (I.ok.frf L hL) hL fun z=>I.ok.Eg L z hL
   exact⟨hk,⟨L,_,hf,hn,e,hd⟩,ih (fun b hb=>hs b (by unfold frs;rw[List.filterMap_cons,hf];exact List.mem_cons_of_mem _ hb)) hr⟩
 exact all X.outer (fun _ hb=>hb) I.ok.lN
theorem Inv.stack(I:Inv X pins σ H s):s.heap.FunFrames X.base X.stack:=by
 rcases I.ok.stk with e |⟨e,hf⟩
 ·rw[e];exact I.lN
 ·rw[e];obtain⟨m,hn,_⟩:=I.loc;refine .cons (by rw[I.ok.kind];decide) hf hn ?_ I.lN
  exact Heap.get?_none_of_le (Nat.le_trans I.ok.bsz I.ok.above)
theorem Inv.qj(I:Inv X pins σ H s):∀ b∈frs X.stack,b∈X.env.locals::X.fs:=fun b hb=>by
 rcases I.ok.stk with e |⟨e,hf⟩
 ·rw[e]at hb;exact List.mem_cons_of_mem _ hb
 ·rw[e]at hb;unfold frs at hb;rw[List.filterMap_cons,hf]at hb;exact hb
theorem Inv.wY(I:Inv X pins σ H s):∀ b∈frs X.stack,H b=none:=fun b hb=>by
 rcases List.mem_cons.mp (I.qj b hb)with e|hb
 ·rw[e];exact I.free
 ·obtain⟨_,o,ho,_⟩:=I.ok.lN.mem hb;exact I.base.free b o ho (I.ok.frf b hb) fun z=>I.ok.Eg b z hb
theorem Inv.step{g':Array GenState}{t':Nat}{d':Drawn}{ch:List Addr}(I:Inv X pins σ H s)
  (hch:∀ b∈ch,(b∈X.ex\/X.s₀.heap.objs.size<=b)/\b≠X.env.locals/\(∀ x c,X.env.cells.lookup x=some c->c≠b)/\∀ p∈X.pn++pins,p.1≠b)
  (keep:∀ b o,b≠X.env.locals->b ∉ X.fs->b ∉ ch->s.heap.get? b=some o->H b=none->h'.get? b=some o)
  (slot:∀ b o,b≠X.env.locals->b∈X.fs->b ∉ ch->s.heap.get? b=some o->H b=none->∃ sl,h'.get? b=some { o with slots:=sl }) (free:∀ b o,b ∉ ch->s.heap.get? b=some o->H b=none->H' b=none)
  (there:∀ b o,b ∉ ch->s.heap.get? b=some o->∃ o',h'.get? b=some o')
  (mv:∀ b xs,H b=some (.tup xs)->H' b=some (.tup xs)) (jQ:∀ b o u,H b=some (.frz o u)->H' b=some (.frz o u)) (mw:∀ b ps,H b=some (.tbl ps)->∃ more,H' b=some (.tbl (ps++more)))
  (ns:∀ m,s.heap.Ns X.env.locals m->h'.Ns X.env.locals m) (hok:HOk X.prog X.w H' h') (hg:AllBare g') :
  Inv X pins σ H' { s with heap:=h',gens:=g',drawn:=d',toks:=t' }:=by
 have neL:∀ b o,X.s₀.heap.get? b=some o->b≠X.env.locals:=fun b o e=>Nat.ne_of_lt (Nat.lt_of_lt_of_le (Heap.lt_size e) I.ok.above)
 have neC:∀ b o,X.s₀.heap.get? b=some o->b ∉ X.ex->b ∉ ch:=fun b o e hx hb=>by
  rcases(hch b hb).1 with z|z
  ·exact hx z
  ·exact absurd (Nat.lt_of_lt_of_le (Heap.lt_size e) z) (Nat.lt_irrefl _)
 have cellK:∀ x c,X.env.cells.lookup x=some c->∀ v,s.heap.IsCell c v->h'.IsCell c v:=fun x c e v ⟨o,ho,hd⟩=>by
  have nch:c ∉ ch:=fun z=>(hch c z).2.2.1 x c e rfl
  by_cases hc:c∈X.fs
  ·obtain⟨sl,q⟩:=slot c o (I.cne x c e) hc nch ho (I.eh x c e);exact⟨_,q,hd⟩
  ·exact⟨o,keep c o (I.cne x c e) hc nch ho (I.eh x c e),hd⟩
 refine⟨I.ok,I.os,hg,⟨fun b o e n hb hx=>?_,fun b o e n hb hx=>?_,fun b o e n hx=>?_,fun b o e hx=>?_,fun b xs e=>mv b xs (I.base.mv b xs e),fun b o xs e=>jQ b o xs (I.base.jQ b o xs e),fun b ps e=>?_⟩,?_,fun x c e=>?_,?_,fun x c e=>?_,fun p hp=>?_,hok,I.len⟩
 ·exact keep b o (neL b o e) hb (neC b o e hx) (I.base.keep b o e n hb hx) (I.base.free b o e n hx)
 ·obtain⟨sl,e1⟩:=I.base.slot b o e n hb hx;obtain⟨sl',e2⟩:=slot b _ (neL b o e) hb (neC b o e hx) e1 (I.base.free b o e n hx);exact⟨sl',e2⟩
 ·obtain⟨o',e1⟩:=I.base.there b o e hx;exact free b o' (neC b o e hx) e1 (I.base.free b o e n hx)
 ·obtain⟨o',e1⟩:=I.base.there b o e hx;exact there b o' (neC b o e hx) e1
 ·obtain⟨m1,e1⟩:=I.base.mw b ps e;obtain⟨m2,e2⟩:=mw b _ e1;exact⟨m1++m2,by rw[e2,Array.append_assoc]⟩
 ·obtain⟨m,hn,hl⟩:=I.loc;refine⟨m,ns m hn,fun i x v e1 e2 e3=>?_⟩
  obtain⟨u,r,l⟩:=hl i x v e1 e2 e3;refine⟨u,r,?_⟩;rcases l with l |⟨k,c,e,z⟩
  ·exact .inl l
  ·exact .inr ⟨k,c,e,cellK x c e _ z⟩
 ·obtain⟨v,z⟩:=I.cell x c e;exact⟨v,cellK x c e v z⟩
 ·obtain⟨m,⟨o,_,_,ho,_⟩,_⟩:=I.loc;exact free _ o (fun z=>(hch _ z).2.1 rfl) ho I.free
 ·obtain⟨v,o,ho,hd⟩:=I.cell x c e;exact free c o (fun z=>(hch c z).2.2.1 x c e rfl) ho (I.eh x c e)
 ·obtain⟨e,n,ne,nf,d⟩:=I.pin p hp;have nch:p.1 ∉ ch:=fun z=>(hch p.1 z).2.2.2 p hp rfl
  exact⟨keep p.1 p.2 ne nf nch e n,free p.1 p.2 nch e n,ne,nf,d⟩
theorem Inv.un{t':Nat}(I:Inv X pins σ H s)(u:Un X.fs [] H H' s.heap h')(hok:HOk X.prog X.w H' h'):Inv X pins σ H' { s with heap:=h',toks:=t' }:=by
 obtain⟨m,⟨o,es,ep,ho,r⟩,_⟩:=id I.loc;obtain⟨sl,hL⟩:=u.any ho I.free (by simp)
 exact I.step (g':=s.gens) (d':=s.drawn) (ch:=[]) (fun _ z=>nomatch z) (fun b o _ hb _ e n=>u.keep b o e n hb (by simp)) (fun b o _ hb _ e n=>u.slot b o e n hb (by simp)) (fun b o _ e n=>u.free b o e n (by simp)) (fun b o _ e=>u.there b o e (by simp)) u.mv u.jQ u.mw (fun m' hm=>by
  obtain⟨o',es',ep',ho',r'⟩:=hm;rw[ho]at ho';cases ho';exact⟨_,es',ep',hL,r'⟩) hok I.bare
theorem Inv.call{g':Array GenState}{t':Nat}{d':Drawn}{ch:List Addr}(I:Inv X pins σ H s)(u:Un (frs X.stack) ch H H' s.heap h')(hok:HOk X.prog X.w H' h')(hg:AllBare g')
  (hch:∀ b∈ch,(b∈X.ex\/X.s₀.heap.objs.size<=b)/\b≠X.env.locals/\(∀ x c,X.env.cells.lookup x=some c->c≠b)/\∀ p∈X.pn++pins,p.1≠b) :
  Inv X pins σ H' { s with heap:=h',gens:=g',drawn:=d',toks:=t' }:=by
 obtain⟨m,⟨o,es,ep,ho,r⟩,_⟩:=id I.loc;obtain⟨sl,hL⟩:=u.any ho I.free fun z=>(hch _ z).2.1 rfl
 exact I.step (ch:=ch) hch (fun b o hL hb hc e n=>u.keep b o e n (fun z=>(List.mem_cons.mp (I.qj b z)).elim hL hb) hc) (fun b o _ _ hc e n=>u.any e n hc) (fun b o hc e n=>u.free b o e n hc) (fun b o hc e=>u.there b o e hc) u.mv u.jQ u.mw (fun m' hm=>by
  obtain⟨o',es',ep',ho',r'⟩:=hm;rw[ho]at ho';cases ho';exact⟨_,es',ep',hL,r'⟩) hok hg
theorem Inv.turned{t':Nat}{it:Addr}(I:Inv X pins σ H s)(k:∀ b o,b≠it->s.heap.get? b=some o->h'.get? b=some o)(hn:H it=none)(hL:it≠X.env.locals)
  (h1:it∈X.ex\/X.s₀.heap.objs.size<=it) (h2:∀ x c,X.env.cells.lookup x=some c->c≠it) (h3:∀ p∈X.pn++pins,p.1≠it):Inv X pins σ H { s with heap:=h',toks:=t' }:=by
 have nit:∀ b u,H b=some u->b≠it:=fun b u e z=>by rw[z,hn]at e;cases e
 refine I.step (g':=s.gens) (d':=s.drawn) (ch:=[it]) (fun b hb=>?_) (fun b o _ _ hc e _=>k b o (fun z=>hc (by simp[z])) e) (fun b o _ _ hc e _=>⟨o.slots,k b o (fun z=>hc (by simp[z])) e⟩) (fun _ _ _ _ n=>n)
  (fun b o hc e=>⟨o,k b o (fun z=>hc (by simp[z])) e⟩) (fun _ _ e=>e) (fun _ _ _ e=>e) (fun b ps e=>⟨#[],by rw[e];simp⟩) (fun m hm=>?_) (fun b u e=>?_) I.bare
 ·have e:b=it:=by simpa using hb
  subst e;exact⟨h1,hL,h2,h3⟩
 ·obtain⟨o,es,ep,ho,r⟩:=hm;exact⟨o,es,ep,k _ o (Ne.symm hL) ho,r⟩
 ·refine(I.hok b u e).cX (fun c v hc q=>k c v ?_ q) (fun _ q=>q) fun _ _ q=>q
  rcases hc with z|z
  ·rw[z];exact nit b u e
  ·exact nit c _ z
theorem Inv.tok(I:Inv X pins σ H s)(t:Nat):Inv X pins σ H { s with toks:=t }:=I.un (h':=s.heap) (t':=t) Un.refl I.hok
theorem Inv.kept{t':Nat}(I:Inv X pins σ H s)(k:∀ b u,s.heap.get? b=some u->h'.get? b=some u):Inv X pins σ H { s with heap:=h',toks:=t' }:=I.un (Un.kept k) (I.hok.kept k)
theorem Inv.laid{a:Addr}{o:HO}{t':Nat}(I:Inv X pins σ H s)(k:∀ b u,s.heap.get? b=some u->h'.get? b=some u)(hp:s.heap.objs.size<=a)(new:bt X.prog X.w (upd H a o) h' a o) :
  Inv X pins σ (upd H a o) { s with heap:=h',toks:=t' }:=I.un (Un.laid k hp (I.hok.fresh hp)) (I.hok.laid k hp new)
theorem Inv.write{x e:Addr}{o:HO}{t':Nat}(I:Inv X pins σ H s)(mu:Mut (H x))(he:e=x\/H e=some (.own x))(k:∀ b u,b≠e->s.heap.get? b=some u->h'.get? b=some u)(heo:∃ u,h'.get? e=some u)
  (new:bt X.prog X.w (upd H x o) h' x o):Inv X pins σ (upd H x o) { s with heap:=h',toks:=t' }:=I.un (Un.write mu he k heo) (I.hok.write mu he k heo new)
theorem Inv.jE{pins':List (Addr×Obj)}(I:Inv X pins σ H s)(h:∀ p∈pins',s.heap.get? p.1=some p.2/\H p.1=none/\p.1≠X.env.locals/\p.1 ∉ X.fs/\∀ v,p.2.data ≠ .cell v):Inv X pins' σ H s :=
 ⟨I.ok,I.os,I.bare,I.base,I.loc,I.cell,I.free,I.eh,fun p hp=>(List.mem_append.mp hp).elim (fun z=>I.pin p (List.mem_append_left _ z)) (h p),I.hok,I.len⟩
theorem um{N:List Str}(hN:N.Nodup){i j:Nat}{x:Str}(a:N[i]? = some x)(b:N[j]? = some x):i=j:=by
 obtain⟨h1,e1⟩:=List.getElem?_eq_some_iff.mp a;obtain⟨h2,e2⟩:=List.getElem?_eq_some_iff.mp b;exact(List.getElem_inj hN).mp (e1.trans e2.symm)
theorem yh{M:Model}{A:Around}{E:Value->Shared->Prop}{i:Nat}{x:Str}{v:V}{u:Value}{Q:Unit->Shared->Prop}(I:Inv X pins σ H s)(hN:X.N.Nodup)(hi:X.N[i]? = some x)(hx:Loc X.env.scope x)(r:RelV v u)
  (h:∀ s',Inv X pins (σ.set i (some v)) H s' ->(∃ a,Heap.SameBut a s.heap s'.heap/\(a=X.env.locals\/X.env.cells.lookup x=some a))->Q () s') (hf:X.fn x=true\/X.env.scope.names.lookup x=some .local:=by first|exact .inl rfl|exact .inr rfl|assumption):wpAny M A (storeName X.env x u) Q E s:=by
 obtain⟨m,hn,hl⟩:=id I.loc;have JS:(X.env.scope.kind == .class ||(X.env.scope.kind == .module&&X.env.locals != X.env.globals))=false:=by rw[I.ok.kind];rfl
 have hiσ:i < σ.length:=by rw[I.len];exact(List.getElem?_eq_some_iff.mp hi).1
 have cne:=I.cne;have tracked:∀{a:Addr}{h':Heap},(∃ o,s.heap.get? a=some o/\H a=none)->Heap.SameBut a s.heap h'->HOk X.prog X.w H h':=fun{a h'} ha hs b ob e=>by
  obtain⟨_,_,gy⟩:=ha;refine(I.hok b ob e).cX (fun c w' hc q=>(hs.2 c ?_).trans q) (fun _ q=>q) fun _ _ q=>q
  rintro rfl
  rcases hc with rfl|hc
  ·rw[gy]at e;cases e
  ·rw[gy]at hc;cases hc
 rcases hx with hk|hk
 ·refine wpAny_storeName_local hk hn (fun h' hn' hs=>?_) JS
  obtain⟨oL,_,_,hoL,_⟩:=id hn;refine h _ ⟨I.ok,I.os,I.bare,⟨fun b o e n hb hx=>?_,fun b o e n hb hx=>?_,I.base.free,fun b o e hx=>?_,I.base.mv,I.base.jQ,I.base.mw⟩,⟨_,hn',fun j y v' e1 e2 e3=>?_⟩,fun y c e=>?_,I.free,I.eh,fun p hp=>?_,tracked ⟨oL,hoL,I.free⟩ hs,by simpa using I.len⟩ ⟨_,hs,.inl rfl⟩
  ·exact(hs.2 b (Nat.ne_of_lt (Nat.lt_of_lt_of_le (Heap.lt_size e) I.ok.above))).trans (I.base.keep b o e n hb hx)
  ·obtain⟨sl,e1⟩:=I.base.slot b o e n hb hx;exact⟨sl,(hs.2 b (Nat.ne_of_lt (Nat.lt_of_lt_of_le (Heap.lt_size e) I.ok.above))).trans e1⟩
  ·obtain⟨o',e1⟩:=I.base.there b o e hx;exact⟨o',(hs.2 b (Nat.ne_of_lt (Nat.lt_of_lt_of_le (Heap.lt_size e) I.ok.above))).trans e1⟩
  ·by_cases hj:j=i
   ·subst hj;rw[hi]at e1;cases e1;rw[List.getElem?_set_self hiσ]at e2;cases e2;exact⟨u,r,.inl ⟨hk,by simp⟩⟩
   ·rw[List.getElem?_set_ne (Ne.symm hj)]at e2;obtain⟨u',r',q⟩:=hl j y v' e1 e2 e3;refine⟨u',r',?_⟩;rcases q with⟨k,e⟩ |⟨k,c,e,z⟩
    ·refine .inl ⟨k,?_⟩
     have:y≠x:=fun e=>hj (um hN e1 (e▸hi))
     simp[this,e]
    ·exact .inr ⟨k,c,e,z.sameBut hs (cne y c e)⟩
  ·obtain⟨w',z⟩:=I.cell y c e;exact⟨w',z.sameBut hs (cne y c e)⟩
  ·obtain⟨e,n,ne,nf,d⟩:=I.pin p hp;exact⟨(hs.2 p.1 ne).trans e,n,ne,nf,d⟩
 ·have hfn:X.fn x=true:=by
   rcases hf with z|z
   ·exact z
   ·rw[z]at hk;cases hk
  obtain⟨c,hc⟩:=I.ok.has x (.inl hk);obtain⟨w',z⟩:=I.cell x c hc;refine wpAny_storeName_cell I.ok.kind hk hc z (fun h' hc' hs=>?_)
  obtain⟨oc,hoc,JL⟩:=id z;refine h { s with heap:=h' } ⟨I.ok,I.os,I.bare,⟨fun b o e n hb hx=>?_,fun b o e n hb hx=>?_,I.base.free,fun b o e hx=>?_,I.base.mv,I.base.jQ,I.base.mw⟩,⟨m,hn.sameBut hs (Ne.symm (cne x c hc)),fun j y v' e1 e2 e3=>?_⟩,fun y c' e=>?_,I.free,I.eh,fun p hp=>?_,tracked ⟨oc,hoc,I.eh x c hc⟩ hs,by simpa using I.len⟩ ⟨c,hs,.inr hc⟩
  ·exact(hs.2 b (Nat.ne_of_lt (Nat.lt_of_lt_of_le (Heap.lt_size e) (I.ok.cab x c hfn hc)))).trans (I.base.keep b o e n hb hx)
  ·obtain⟨sl,e1⟩:=I.base.slot b o e n hb hx;exact⟨sl,(hs.2 b (Nat.ne_of_lt (Nat.lt_of_lt_of_le (Heap.lt_size e) (I.ok.cab x c hfn hc)))).trans e1⟩
  ·obtain⟨o',e1⟩:=I.base.there b o e hx;exact⟨o',(hs.2 b (Nat.ne_of_lt (Nat.lt_of_lt_of_le (Heap.lt_size e) (I.ok.cab x c hfn hc)))).trans e1⟩
  ·by_cases hj:j=i
   ·subst hj;rw[hi]at e1;cases e1;rw[List.getElem?_set_self hiσ]at e2;cases e2;exact⟨u,r,.inr ⟨.inl hk,c,hc,hc'⟩⟩
   ·rw[List.getElem?_set_ne (Ne.symm hj)]at e2;obtain⟨u',r',q⟩:=hl j y v' e1 e2 e3;refine⟨u',r',?_⟩;rcases q with q |⟨k,c',e,z'⟩
    ·exact .inl q
    ·refine .inr ⟨k,c',e,z'.sameBut hs ?_⟩
     rintro rfl
     exact hj (um hN e1 (I.ok.inj _ _ _ e hc▸hi))
  ·by_cases hcc:c'=c
   ·subst hcc;exact⟨_,hc'⟩
   ·obtain⟨w2,z2⟩:=I.cell y c' e;exact⟨w2,z2.sameBut hs hcc⟩
  ·obtain⟨e,n,ne,nf,d⟩:=I.pin p hp;refine⟨(hs.2 p.1 ?_).trans e,n,ne,nf,d⟩;intro q;rw[q,hoc]at e;have q':oc=p.2:=Option.some.inj e;exact d w' (by rw[<- q'];exact JL)
theorem my{M:Model}{A:Around}{E:Value->Shared->Prop}{i:Nat}{x:Str}{v:V}{u:Value}{Q:Unit->Shared->Prop}(I:Inv X pins σ H s)(hN:X.N.Nodup)(hi:X.N[i]? = some x)(hx:Loc X.env.scope x)(r:RelV v u)
  (h:∀ s',Inv X pins (σ.set i (some v)) H s'->Q () s') (hf:X.fn x=true\/X.env.scope.names.lookup x=some .local:=by first|exact .inl rfl|exact .inr rfl|assumption):wpAny M A (storeName X.env x u) Q E s :=
 yh I hN hi hx r (fun s' I' _=>h s' I') hf
theorem Inv.I0{s':Shared}{ch:List Addr}(I:Inv X pins σ H s)(ho:s'.os=s.os)(u:Un (frs X.stack) ch H H' s.heap s'.heap)(hok:HOk X.prog X.w H' s'.heap)(hg:AllBare s'.gens)
  (hch:∀ b∈ch,(b∈X.ex\/X.s₀.heap.objs.size<=b)/\b≠X.env.locals/\(∀ x c,X.env.cells.lookup x=some c->c≠b)/\∀ p∈X.pn++pins,p.1≠b):Inv X pins σ H' s':=by
 obtain⟨h',g',d',t',o'⟩:=s';have e:o'=s.os:=ho;subst e;exact I.call (g':=g') (t':=t') (d':=d') u hok hg hch
end
abbrev XK:=Value->Option Addr->Hp->Prop
abbrev St:=List (Option V)
abbrev VK:=V->Hp->Prop
abbrev TE:=St->Hp->VK->Prop
abbrev TT:=St->Hp ->(Bool->Hp->Prop)->Prop
abbrev TA:=St->Hp ->(List V->Hp->Prop)->Prop
structure Ends where
 nx:St->Hp->Prop
 rt:VK
 bk:St->Hp->Prop:=fun _ _=>False
 ct:St->Hp->Prop:=fun _ _=>False
abbrev TS:=Ends->St->Hp->Prop
def EP(X:Cx)(pins:List (Addr×Obj))(σ:St)(Q:VK)(u:Value)(s':Shared):Prop:=∃ v H',Inv X pins σ H' s'/\RelV v u/\Q v H'
def TP(X:Cx)(pins:List (Addr×Obj))(σ:St)(Q:Bool->Hp->Prop)(b:Bool)(s':Shared):Prop:=∃ H',Inv X pins σ H' s'/\Q b H'
def AP(X:Cx)(pins:List (Addr×Obj))(σ:St)(Q:List V->Hp->Prop)(us:List Value)(s':Shared):Prop:=∃ vs H',Inv X pins σ H' s'/\Vals vs us/\Q vs H'
def SP(X:Cx)(pins:List (Addr×Obj))(D:Ends)(f:Flow)(s':Shared):Prop :=
 match f with
 | .next=>∃ σ' H',Inv X pins σ' H' s'/\D.nx σ' H'
 | .brk=>∃ σ' H',Inv X pins σ' H' s'/\D.bk σ' H'
 | .cont=>∃ σ' H',Inv X pins σ' H' s'/\D.ct σ' H'
 | .ret u=>∃ v σ' H',Inv X pins σ' H' s'/\RelV v u/\D.rt v H'
def PE(X:Cx)(e:Expr)(t:TE):Prop :=
 ∀(pins:List (Addr×Obj))(s:Shared)(σ:St)(H:Hp)(Q:VK),Inv X pins σ H s->t σ H Q->wpAny (model X.prog X.w) X.A (eval e X.env) (EP X pins σ Q) X.xe s
def PT(X:Cx)(e:Expr)(t:TT):Prop :=
 ∀(pins:List (Addr×Obj))(s:Shared)(σ:St)(H:Hp)(Q:Bool->Hp->Prop),Inv X pins σ H s->t σ H Q->wpAny (model X.prog X.w) X.A (isTrue e X.env (eval e X.env)) (TP X pins σ Q) X.xe s
def PW(X:Cx)(e:Expr)(t:TT):Prop :=
 ∀(whole:Sem Value)(pins:List (Addr×Obj))(s:Shared)(σ:St)(H:Hp)(Q:Bool->Hp->Prop),Inv X pins σ H s->t σ H Q->wpAny (model X.prog X.w) X.A (isTrue e X.env whole) (TP X pins σ Q) X.xe s
theorem PW.pt{X:Cx}{e:Expr}{t:TT}(h:PW X e t):PT X e t:=h _
def PA(X:Cx)(es:List Expr)(t:TA):Prop :=
 ∀(pos:Pos)(pins:List (Addr×Obj))(s:Shared)(σ:St)(H:Hp)(Q:List V->Hp->Prop),Inv X pins σ H s->t σ H Q->wpAny (model X.prog X.w) X.A (spliced (backTo pos (starEach es X.env))) (AP X pins σ Q) X.xe s
def PS(X:Cx)(st:Stmt)(t:TS):Prop :=
 ∀(pins:List (Addr×Obj))(s:Shared)(σ:St)(H:Hp)(D:Ends),Inv X pins σ H s->t D σ H->wpAny (model X.prog X.w) X.A (exec st X.env) (SP X pins D) X.xe s
def PSs(X:Cx)(st:List Stmt)(t:TS):Prop :=
 ∀(pins:List (Addr×Obj))(s:Shared)(σ:St)(H:Hp)(D:Ends),Inv X pins σ H s->t D σ H->wpAny (model X.prog X.w) X.A (execs st X.env) (SP X pins D) X.xe s
theorem thn{α:Type}{t:Sem α}{Q Q':α->Shared->Prop}{M:Model}{A:Around}{E:Value->Shared->Prop}{s:Shared}(h:wpAny M A t Q E s)(hQ:∀ a s,Q a s->Q' a s):wpAny M A t Q' E s:=wpAny_mono h hQ fun _ _ x=>x
section
variable{X:Cx}
def bS(i:Nat):TE:=fun σ H Q=>∃ v,σ[i]? = some (some v)/\Q v H
def tC(v:V):TE:=fun _ H Q=>Q v H
theorem Au{i:Nat}{x:Str}{pos:Pos}(hN:X.N[i]? = some x)(hv:Vis X.env.scope x)(hd:(x ==("__debug__":Str))=false:=by decide)(hcd:(x ==("__classdict__":Str))=false:=by decide):PE X (.Name x pos) (bS i):=by
 intro pins s σ H Q I h;obtain⟨v,e,h⟩:=h;obtain⟨m,hn,hl⟩:=I.loc;obtain⟨u,r,l⟩:=hl i x v hN e hv;have fin:EP X pins σ Q u s:=⟨v,H,I,r,h⟩;rcases l with⟨hk,hm⟩ |⟨hk,c,hc,fG⟩
 ·exact wpAny_Name (wpAny_loadName_local I.ok.kind hk hn hm fin) hd
 ·rcases hk with hk|hk
  ·exact wpAny_Name (wpAny_loadName_cell I.ok.kind hk hc fG fin) hd
  ·exact wpAny_Name (wpAny_loadName_free I.ok.kind hk hc fG fin hcd) hd
theorem br{i j pos}:PE X (.Constant (.int i) j pos) (tC (.int i)):=fun _ _ _ H _ I h=>wpAny_Constant_int ⟨.int i,H,I.tok _,⟨_,rfl⟩,h⟩
theorem Ik{b j pos}:PE X (.Constant (.bool b) j pos) (tC (.bl b)):=fun _ _ _ H _ I h=>Constant_bool ⟨.bl b,H,I,rfl,h⟩
theorem Gq{j pos}:PE X (.Constant .none j pos) (tC .non):=fun _ _ _ H _ I h=>Constant_none ⟨.non,H,I,rfl,h⟩
theorem cD{x j pos}:PE X (.Constant (.str x) j pos) (tC (.str x)):=fun _ _ _ H _ I h=>Calls.Constant_str ⟨.str x,H,I.tok _,⟨_,rfl⟩,h⟩
def Gl(X:Cx)(x:Str):Prop:=X.env.kindOf x=some .globalImplicit
theorem xD{E:Value->Shared->Prop}{pins:List (Addr×Obj)}{s:Shared}{σ:St}{H:Hp}{x:Str}{u:Value}{pos:Pos}{Q:Value->Shared->Prop}(I:Inv X pins σ H s)(hg:Gl X x)(hm:X.mg x=some u)(h:Q u s)
  (hd:(x ==("__debug__":Str))=false:=by decide):wpAny (model X.prog X.w) X.A (eval (.Name x pos) X.env) Q E s :=
 Calls.Name_function_global I.ok.kind hg (Calls.loadGlobal_global (by rw[I.ok.glob];exact I.mod.glob.keeps I.bk) hm h) hd
theorem jb{E:Value->Shared->Prop}{pins:List (Addr×Obj)}{s:Shared}{σ:St}{H:Hp}{x:Str}{u:Value}{pos:Pos}{Q:Value->Shared->Prop}(I:Inv X pins σ H s)(hg:Gl X x)(hm:X.mg x=none)(hv:bootBuiltins x=some u)(h:Q u s)
  (hn:x ≠ "__name__":=by decide) (hd:(x ==("__debug__":Str))=false:=by decide):wpAny (model X.prog X.w) X.A (eval (.Name x pos) X.env) Q E s:=by
 obtain⟨mb,h1,h2⟩:=I.mod.blt;exact Calls.Name_function_global I.ok.kind hg (Calls.loadGlobal_builtin (by rw[I.ok.glob];exact I.mod.glob.keeps I.bk) hm (by rw[I.ok.blt];exact h1.keeps I.bk) ((h2 x hn).trans hv) h) hd
variable{a b:Expr}{ta tb:TE}{pos:Pos}
variable{tA tB':TT}{rest:List Expr}
def FG(t u:TT):TT:=fun σ H Q=>t σ H fun c H1=>if c=true then u σ H1 Q else Q false H1
def tOr(t u:TT):TT:=fun σ H Q=>t σ H fun c H1=>if c=true then Q true H1 else u σ H1 Q
theorem xm(ha:PT X a tA):PW X (.BoolOp .And [a] pos) tA:=by
 intro wh pins s σ H Q I h;refine isTrue_and (thn (ha pins s σ H Q I h) fun c s1 e=>?_)
 cases c with
 | true=>exact isTrue_and_nil e
 | false=>exact e
theorem Gf(ha:PT X a tA):PW X (.BoolOp .Or [a] pos) tA:=by
 intro wh pins s σ H Q I h;refine isTrue_or (thn (ha pins s σ H Q I h) fun c s1 e=>?_)
 cases c with
 | false=>exact isTrue_or_nil e
 | true=>exact e
theorem Ai(ha:PT X a tA)(hb:PW X (.BoolOp .And (b::rest) pos) tB'):PW X (.BoolOp .And (a::b::rest) pos) (FG tA tB'):=by
 intro wh pins s σ H Q I h;refine isTrue_and (thn (ha pins s σ H _ I h) fun c s1 hPP=>?_)
 obtain⟨H1,I1,q1⟩:=hPP;cases c with
 | true=>exact hb wh pins s1 σ H1 Q I1 q1
 | false=>exact⟨H1,I1,q1⟩
theorem Ib(ha:PT X a tA)(hb:PW X (.BoolOp .Or (b::rest) pos) tB'):PW X (.BoolOp .Or (a::b::rest) pos) (tOr tA tB'):=by
 intro wh pins s σ H Q I h;refine isTrue_or (thn (ha pins s σ H _ I h) fun c s1 hPP=>?_)
 obtain⟨H1,I1,q1⟩:=hPP;cases c with
 | true=>exact⟨H1,I1,q1⟩
 | false=>exact hb wh pins s1 σ H1 Q I1 q1
def zk(ta tb:TE):TE:=fun σ H Q=>ta σ H fun x H1=>∃ c,x = .bl c/\if c=true then tb σ H1 Q else Q (.bl false) H1
theorem Gp{op}{t:TE}(h:PE X a t):PE X (.BoolOp op [a] pos) t:=fun pins s σ H Q I hw=>BoolOp_one (h pins s σ H Q I hw)
theorem Gs(ha:PE X a ta)(hb:PE X (.BoolOp .And (b::rest) pos) tb):PE X (.BoolOp .And (a::b::rest) pos) (zk ta tb):=by
 intro pins s σ H Q I h;refine BoolOp_and (thn (ha pins s σ H _ I h) fun v s1 hPP=>?_)
 obtain⟨x,H1,I1,r1,q1⟩:=hPP;obtain⟨c,rfl,q1⟩:=q1;cases r1;refine wpAny_truthy_bool ?_;cases c with
 | true=>exact hb pins s1 σ H1 Q I1 q1
 | false=>exact⟨.bl false,H1,I1,rfl,q1⟩
end
def SqL(K:W.Frag)(H:Hp)(a:Addr)(xs:List V):Prop :=
 Rd H a (.lst xs) \/
  ∃(o:Obj)(its:Array Value)(n:Nat),K.lookup a=some o/\o.cls = .type "list" /\ o.dict=none/\o.data = .seq its n/\its.size<=sizeLine/\Vals xs its.toList
def SqT(K:W.Frag)(H:Hp)(a:Addr)(xs:List V):Prop :=
 Rd H a (.tup xs) \/
  ∃(o:Obj)(its:Array Value)(n:Nat),K.lookup a=some o/\o.cls = .type "tuple" /\ o.data = .seq its n/\its.size<=sizeLine/\Vals xs its.toList
def J3:Value->Option V
 | .none=>some .non
 | .bool b=>some (.bl b)
 | .int i _=>some (.int i)
 | .str x _=>some (.str x)
 | .bytes b _=>some (.byt b)
 | .float b _=>some (.flt b)
 | .ref a=>some (.ref a)
 | .type n=>some (.ty n)
 | _=>none
theorem RelV.abs{x:V}{u:Value}(r:RelV x u):J3 u=some x:=by
 cases x with
 | non=>cases r;rfl
 | bl _=>cases r;rfl
 | int _=>obtain⟨t,rfl⟩:=r;rfl
 | str _=>obtain⟨t,rfl⟩:=r;rfl
 | byt _=>obtain⟨t,rfl⟩:=r;rfl
 | flt _=>obtain⟨t,rfl⟩:=r;rfl
 | ref _=>cases r;rfl
 | ty _=>cases r;rfl
theorem RelV.inj{x y:V}{u:Value}(r:RelV x u)(q:RelV y u):x=y:=Option.some.inj (r.abs.symm.trans q.abs)
theorem Vals.inj:∀{xs ys:List V}{us:List Value},Vals xs us->Vals ys us->xs=ys:=by
 intro xs ys us h
 induction h generalizing ys with
 | nil=>intro h';cases h';rfl
 | cons r t ih=>intro h';cases h' with|cons r' t'=>rw[r.inj r',ih t']
section
variable{X:Cx}{pins:List (Addr×Obj)}{σ:St}{H:Hp}{s:Shared}{a:Addr}{xs ys:List V}
theorem SqL.of{K:W.Frag}(h:H a=some (.lst xs)):SqL K H a xs:=.inl (.inl h)
theorem SqT.of{K:W.Frag}(h:H a=some (.tup xs)):SqT K H a xs:=.inl (.inl h)
theorem Inv.list(I:Inv X pins σ H s)(h:SqL X.K H a xs):∃ its:List Value,Vals xs its/\PlainL s.heap a its.toArray/\xs.length<=sizeLine:=by
 rcases h with h |⟨o,its,n,hk,hc,hd,hs,hz,r⟩
 ·obtain⟨z,its,n,r,e⟩:=h.ok I.hok;exact⟨its,r,⟨_,n,e,rfl,rfl,rfl⟩,z⟩
 ·refine⟨its.toList,r,⟨o,n,I.kIn a o hk,hc,hd,by simpa using hs⟩,?_⟩
  have e:=r.length;simp only[Array.length_toList]at e;omega
theorem Inv.tuple(I:Inv X pins σ H s)(h:SqT X.K H a xs):∃ its:List Value,Vals xs its/\IsTup s.heap a its.toArray/\xs.length<=sizeLine:=by
 rcases h with h |⟨o,its,n,hk,hc,hs,hz,r⟩
 ·obtain⟨z,its,r,p⟩:=h.ok I.hok;exact⟨its,r,p.1,z⟩
 ·refine⟨its.toList,r,⟨o,I.kIn a o hk,hc,n,by simpa using hs⟩,?_⟩
  have e:=r.length;simp only[Array.length_toList]at e;omega
theorem Inv.uy(I:Inv X pins σ H s)(h:SqL X.K H a xs)(h':SqL X.K H a ys):xs=ys:=by
 obtain⟨its,r,⟨o,n,e,_,_,d⟩,_⟩:=I.list h;obtain⟨its',r',⟨o',n',e',_,_,d'⟩,_⟩:=I.list h';rw[e]at e';cases e';rw[d]at d';injection d' with d1 _
 have:its=its':=by simpa using congrArg Array.toList d1
 subst this;exact r.inj r'
theorem Inv.pq(I:Inv X pins σ H s)(h:SqT X.K H a xs)(h':SqT X.K H a ys):xs=ys:=by
 obtain⟨its,r,⟨o,e,_,n,d⟩,_⟩:=I.tuple h;obtain⟨its',r',⟨o',e',_,n',d'⟩,_⟩:=I.tuple h';rw[e]at e';cases e';rw[d]at d';injection d' with d1 _
 have:its=its':=by simpa using congrArg Array.toList d1
 subst this;exact r.inj r'
end
abbrev Cx.n4(X:Cx)(E:Value->Shared->Prop):Cx:={ X with xe:=E }
abbrev Cx.nox(X:Cx):Cx:=X.n4 fun _ _=>False
theorem Cx.Ok.n4{X:Cx}(ok:X.Ok)(E:Value->Shared->Prop):(X.n4 E).Ok :=
 ⟨ok.mod,ok.kind,ok.glob,ok.blt,ok.above,ok.inj,ok.has,ok.cab,ok.hd,ok.frames,ok.stk,ok.exf,ok.bs,ok.bsz,ok.AV,ok.Eg,ok.lN,ok.frf⟩
theorem Cx.Ok.gC{X:Cx}{E:Value->Shared->Prop}(ok:(X.n4 E).Ok):X.Ok :=
 ⟨ok.mod,ok.kind,ok.glob,ok.blt,ok.above,ok.inj,ok.has,ok.cab,ok.hd,ok.frames,ok.stk,ok.exf,ok.bs,ok.bsz,ok.AV,ok.Eg,ok.lN,ok.frf⟩
section
variable{X:Cx}{pins:List (Addr×Obj)}{σ:St}{H:Hp}{s:Shared}{E:Value->Shared->Prop}
theorem Inv.n4(I:Inv X pins σ H s)(E:Value->Shared->Prop):Inv (X.n4 E) pins σ H s:=⟨I.ok.n4 E,I.os,I.bare,I.base,I.loc,I.cell,I.free,I.eh,I.pin,I.hok,I.len⟩
theorem Inv.gC(I:Inv (X.n4 E) pins σ H s):Inv X pins σ H s:=⟨I.ok.gC,I.os,I.bare,I.base,I.loc,I.cell,I.free,I.eh,I.pin,I.hok,I.len⟩
theorem SP.gC{D:Ends}{f:Flow}{s':Shared}(h:SP (X.n4 E) pins D f s'):SP X pins D f s':=by
 cases f with
 | next=>obtain⟨σ',H',I,q⟩:=h;exact⟨σ',H',I.gC,q⟩
 | brk=>obtain⟨σ',H',I,q⟩:=h;exact⟨σ',H',I.gC,q⟩
 | cont=>obtain⟨σ',H',I,q⟩:=h;exact⟨σ',H',I.gC,q⟩
 | ret u=>obtain⟨v,σ',H',I,r,q⟩:=h;exact⟨v,σ',H',I.gC,r,q⟩
theorem PSs.nox{st:List Stmt}{t:TS}(h:PSs X.nox st t):PSs X st t:=fun pins s σ H D I hw =>
 wpAny_mono (h pins s σ H D (I.n4 _) hw) (fun _ _ q=>q.gC) fun _ _ z=>False.elim z
end
section
variable{X:Cx}{st:Stmt}{rest:List Stmt}{t u:TS}{e:Expr}{te:TE}{pos:Pos}
def E1:TS:=fun D σ H=>D.nx σ H
def Hv(t u:TS):TS:=fun D σ H=>t { D with nx:=u D } σ H
theorem xp:PSs X [] E1:=fun _ _ σ H _ I h=>wpAny_execs_nil ⟨σ,H,I,h⟩
theorem bK(h1:PS X st t)(h2:PSs X rest u):PSs X (st::rest) (Hv t u):=by
 intro pins s σ H D I h;refine wpAny_execs_cons (thn (h1 pins s σ H { D with nx:=u D } I h) fun f s1 q=>?_)
 cases f with
 | next =>
  obtain⟨σ',H',I',q⟩:=q;exact h2 pins s1 σ' H' D I' q
 | ret v=>exact q
 | brk=>exact q
 | cont=>exact q
theorem fS(h1:PS X st t):PSs X [st] t:=by
 intro pins s σ H D I h;refine wpAny_execs_cons (thn (h1 pins s σ H D I h) fun f s1 q=>?_)
 cases f with
 | next=>exact wpAny_execs_nil q
 | ret v=>exact q
 | brk=>exact q
 | cont=>exact q
theorem Inv.quiet{pins:List (Addr×Obj)}{σ:St}{H:Hp}{s:Shared}(I:Inv X pins σ H s):interactive X.env=false:=by simp[interactive,I.ok.kind]
def js(te:TE):TS:=fun D σ H=>te σ H fun _ H1=>D.nx σ H1
theorem l9(he:PE X e te)(hs:swapsWith e none pos.line X.env=pure false:=by rfl):PS X (.Expr e pos) (js te):=by
 intro pins s σ H D I h;exact wpAny_Expr_any (thn (he pins s σ H _ I h) fun v s1 ⟨x,H1,I1,r1,q1⟩=>⟨σ,H1,I1,q1⟩) I.quiet hs
def FE(te:TE):TS:=fun D σ H=>te σ H D.rt
theorem mP(he:PE X e te):PS X (.Return (some e) pos) (FE te):=by
 intro pins s σ H D I h;exact wpAny_Return_some (thn (he pins s σ H _ I h) fun v s1 ⟨x,H1,I1,r1,q1⟩=>⟨x,σ,H1,I1,r1,q1⟩)
def Hx(c:TT)(t u:TS):TS:=fun D σ H=>c σ H fun b H1=>if b=true then t D σ H1 else u D σ H1
theorem Fe{c:Expr}{a b:List Stmt}{tc:TT}(hc:PT X c tc)(ha:PSs X a t)(hb:PSs X b u):PS X (.If c a b pos) (Hx tc t u):=by
 intro pins s σ H D I h;refine wpAny_If (thn (hc pins s σ H _ I h) fun d s1 hPP=>?_)
 obtain⟨H1,I1,q1⟩:=hPP;cases d with
 | true=>exact ha pins s1 σ H1 D I1 q1
 | false=>exact hb pins s1 σ H1 D I1 q1
def zf:TS:=fun _ _ _=>False
theorem Al:PS X st zf:=fun _ _ _ _ _ _ h=>h.elim
end
abbrev TG:=V->St->Hp ->(St->Hp->Prop)->Prop
abbrev TGs:=List V->St->Hp ->(St->Hp->Prop)->Prop
def PG(X:Cx)(target:Expr)(t:TG):Prop :=
 ∀(pins:List (Addr×Obj))(s:Shared)(σ:St)(H:Hp)(v:V)(u:Value)(Q:St->Hp->Prop),Inv X pins σ H s->RelV v u->t v σ H Q ->
  wpAny (model X.prog X.w) X.A (assign target X.env u) (fun _ s'=>∃ σ' H',Inv X pins σ' H' s'/\Q σ' H') X.xe s
def PGs(X:Cx)(ts:List Expr)(t:TGs):Prop :=
 ∀(pins:List (Addr×Obj))(s:Shared)(σ:St)(H:Hp)(vs:List V)(us:List Value)(Q:St->Hp->Prop),Inv X pins σ H s->Vals vs us->t vs σ H Q ->
  wpAny (model X.prog X.w) X.A (assignInOrder ((assignEach ts X.env).map (·.2)) us) (fun _ s'=>∃ σ' H',Inv X pins σ' H' s'/\Q σ' H') X.xe s
abbrev ET:=V->V->V->Hp ->(Hp->Prop)->Prop
def Hn(X:Cx)(t:ET):Prop :=
 ∀(pins:List (Addr×Obj))(s:Shared)(σ:St)(H:Hp)(o i v:V)(ov iv u:Value)(Q:Hp->Prop),Inv X pins σ H s->RelV o ov->RelV i iv->RelV v u->t o i v H Q ->
  wpAny (model X.prog X.w) X.A (setItem ov iv u) (fun _ s'=>∃ H',Inv X pins σ H' s'/\Q H') X.xe s
section
variable{X:Cx}{pos:Pos}
def g8(i:Nat):TG:=fun v σ H Q=>Q (σ.set i (some v)) H
theorem ar{i:Nat}{x:Str}(hN:X.N.Nodup)(hi:X.N[i]? = some x)(hx:Loc X.env.scope x)(hf:X.fn x=true\/X.env.scope.names.lookup x=some .local:=by first|exact .inl rfl|exact .inr rfl|assumption):PG X (.Name x pos) (g8 i):=by
 intro pins s σ H v u Q I r h;exact wpAny_assign_Name (my I hN hi hx r (fun s' I'=>⟨_,H,I',h⟩) hf)
def IM:TGs:=fun vs σ H Q=>vs = []/\Q σ H
def Fm(t:TG)(u:TGs):TGs:=fun vs σ H Q=>∃ v r,vs=v::r/\t v σ H fun σ' H'=>u r σ' H' Q
theorem a9:PGs X [] IM:=by
 intro pins s σ H vs us Q I r h;obtain⟨e,h⟩:=h;subst e;cases r;exact assignInOrder_nil ⟨σ,H,I,h⟩
theorem aw{e:Expr}{es:List Expr}{t:TG}{u:TGs}(h1:PG X e t)(h2:PGs X es u)
  (hs:(assignEach (e::es) X.env).map (·.2)=assign e X.env ::(assignEach es X.env).map (·.2):=by rfl):PGs X (e::es) (Fm t u):=by
 intro pins s σ H vs us Q I r h;obtain⟨v,vr,e1,h⟩:=h;subst e1;cases r with
 | cons r rr =>
  rw[hs];refine assignInOrder_cons (thn (h1 pins s σ H _ _ _ I r h) fun _ s1 hPP=>?_)
  obtain⟨σ1,H1,I1,q1⟩:=hPP;exact h2 pins s1 σ1 H1 _ _ Q I1 rr q1
def Hh(K:W.Frag)(n:Nat)(t:TGs):TG:=fun v σ H Q=>∃ a xs,v = .ref a/\SqT K H a xs/\xs.length=n/\t xs σ H Q
theorem Gn{es:List Expr}{k:Nat}{t:TGs}{n:Nat}(hc:X.calm=true)(h:PGs X es t)
  (hn:(assignEach es X.env).length=n:=by rfl) (hst:(assignEach es X.env).findIdx? (·.1)=none:=by rfl):PG X (.Tuple es k pos) (Hh X.K n t):=by
 intro pins s σ H v u Q I r hw;obtain⟨a,xs,e1,hq,hl,hw⟩:=hw;subst e1;cases r;obtain⟨its,rv,ht,hz⟩:=I.tuple hq;refine assign_Tuple_tuple (I.ok.hd hc) ht (by simp[hn,<- hl,rv.length]) hst fun h' hx=>?_
 have I1:Inv X pins σ H { s with heap:=h' }:=I.kept (t':=s.toks) fun b o e=>hx b o (Nat.ne_of_lt (Heap.lt_size e)) e
 exact h pins _ σ H xs _ Q I1 (by simpa using rv) hw
def Bs(to ti:TE)(t:ET):TG:=fun v σ H Q=>to σ H fun o H1=>ti σ H1 fun i H2=>t o i v H2 fun H3=>Q σ H3
theorem As{o i:Expr}{to ti:TE}{t:ET}(ho:PE X o to)(hi:PE X i ti)(hs:Hn X t)
  (ha:∀ v,assign (.Subscript o i pos) X.env v =(do
   let ov <- holding [v] (eval o X.env)
   let iv <- holding [v,ov] (eval i X.env)
   standAt pos
   holding [v,ov,iv] (setItem ov iv v)
   release [v,ov,iv] []):=by intro _;rfl):PG X (.Subscript o i pos) (Bs to ti t):=by
 intro pins s σ H v u Q I r h;rw[ha];refine wpAny_bind (wpAny_holding (thn (ho pins s σ H _ I h) fun ov s1 hPP=>?_))
 obtain⟨x,H1,I1,r1,q1⟩:=hPP;refine wpAny_bind (wpAny_holding (thn (hi pins s1 σ H1 _ I1 q1) fun iv s2 hPP=>?_))
 obtain⟨y,H2,I2,r2,q2⟩:=hPP;refine wpAny_bind (wpAny_standAt (wpAny_bind (wpAny_holding (thn (hs pins s2 σ H2 x y v ov iv u _ I2 r1 r2 r q2) fun _ s3 hPP=>?_))))
 obtain⟨H3,I3,q3⟩:=hPP;exact wpAny_release ⟨σ,H3,I3,q3⟩
def iM(te:TE)(g:TG):TS:=fun D σ H=>te σ H fun x H1=>g x σ H1 D.nx
theorem qV{tg e:Expr}{te:TE}{g:TG}(he:PE X e te)(hg:PG X tg g)(hs:swapsWithSole [tg] e pos.line X.env=pure false:=by rfl)(hw:swappedStores [tg] e X.env=pure none:=by rfl)
  (h1:(assignEach [tg] X.env).map (·.2) = [assign tg X.env]:=by rfl):PS X (.Assign [tg] e pos) (iM te g):=by
 intro pins s σ H D I h;refine wpAny_Assign_stores (thn (he pins s σ H _ I h) fun v s1 hPP=>?_) hs hw
 obtain⟨x,H1,I1,r1,q1⟩:=hPP;rw[h1];exact thn (hg pins s1 σ H1 x v _ I1 r1 q1) fun _ s2 q=>q
theorem gJ{i:Nat}{x:Str}{e:Expr}{te:TE}{pos':Pos}(hN:X.N.Nodup)(hi:X.N[i]? = some x)(hx:Loc X.env.scope x)(he:PE X e te)(hs:swapsWith e (some (.Name x pos')) pos.line X.env=pure false:=by rfl)(hf:X.fn x=true\/X.env.scope.names.lookup x=some .local:=by first|exact .inl rfl|exact .inr rfl|assumption) :
  PS X (.Assign [.Name x pos'] e pos) (iM te (g8 i)):=by
 intro pins s σ H D I h;refine wpAny_Assign_Name (thn (he pins s σ H _ I h) fun v s1 hPP=>?_) hs
 obtain⟨y,H1,I1,r1,q1⟩:=hPP;exact my I1 hN hi hx r1 (fun s2 I2=>⟨_,H1,I2,q1⟩) hf
end
section
variable{X:Cx}{pos:Pos}
def u3(c:TT)(tb:TS):TS:=fun D σ H=>∃ W:Nat->St->Hp->Prop,(∃ m,W m σ H)/\∀ m σ H,W m σ H ->
 c σ H fun b H1=>if b=true then ∃ N:St->Hp->Prop,(∀ σ' H',N σ' H'->∃ m',m'<m/\W m' σ' H')/\tb { D with nx:=N,ct:=N,bk:=D.nx } σ H1 else D.nx σ H1
theorem t5{c:Expr}{body:List Stmt}{tc:TT}{tb:TS}(hp:PassesOwn (model X.prog X.w) X.A X.env X.xe)(hc:PT X c tc)(hb:PSs X body tb):PS X (.While c body [] pos) (u3 tc tb):=by
 intro pins s σ H D I h;obtain⟨W,⟨m0,w0⟩,turn⟩:=h;refine wpAny_While (codeAny_whileLoop (fun n s'=>∃ σ' H',Inv X pins σ' H' s'/\W n σ' H') ?_ m0 ⟨σ,H,I,w0⟩)
 rintro n s1 ⟨σ1,H1,I1,w1⟩
 refine wpAny_passesOwn hp (thn (hc pins s1 σ1 H1 _ I1 (turn n σ1 H1 w1)) fun b s2 hPP=>?_)
 obtain⟨H2,I2,q2⟩:=hPP;cases b with
 | true =>
  obtain⟨N,hN,q2⟩:=q2;rw[if_pos rfl];refine wpAny_passesOwn hp (thn (hb pins s2 σ1 H2 _ I2 q2) fun f s3 q3=>?_)
  cases f with
  | next =>
   obtain⟨σ3,H3,I3,n3⟩:=q3;obtain⟨m',hm,w3⟩:=hN σ3 H3 n3;exact⟨m',hm,σ3,H3,I3,w3⟩
  | cont =>
   obtain⟨σ3,H3,I3,n3⟩:=q3;obtain⟨m',hm,w3⟩:=hN σ3 H3 n3;exact⟨m',hm,σ3,H3,I3,w3⟩
  | brk=>exact q3
  | ret v=>exact q3
 | false =>
  rw[if_neg Bool.false_ne_true];exact wpAny_execs_nil ⟨σ1,H2,I2,q2⟩
end
structure It where
 go:Nat->Hp->Prop
 yld:Nat->Hp->V->Hp->Prop
 stop:Nat->Hp->Prop
def nX(X:Cx)(pins:List (Addr×Obj))(H:Hp)(b:Addr):Prop :=
 H b=none/\b≠X.env.locals/\b ∉ X.fs/\(b∈X.ex\/X.s₀.heap.objs.size<=b)/\(∀ x c,X.env.cells.lookup x=some c->c≠b)/\∀ p∈X.pn++pins,p.1≠b
theorem Inv.Bt{X:Cx}{pins:List (Addr×Obj)}{σ:St}{H H':Hp}{s:Shared}{b:Addr}(I:Inv X pins σ H s)(hb:s.heap.objs.size<=b)(hn:H' b=none):nX X pins H' b:=by
 refine⟨hn,Nat.ne_of_gt (Nat.lt_of_lt_of_le I.lt hb),I.Ip hb,.inr (Nat.le_trans I.sz hb),fun x c e z=>?_,fun p hp z=>?_⟩
 ·obtain⟨v,q⟩:=I.cell x c e;exact absurd (Nat.lt_of_lt_of_le q.lt (by rw[z];exact hb)) (Nat.lt_irrefl _)
 ·exact absurd (Nat.lt_of_lt_of_le (Heap.lt_size (I.pin p hp).1) (by rw[z];exact hb)) (Nat.lt_irrefl _)
structure Turn(P:Program)(w:World)(K:W.Frag)(tg:Expr)(J:It)(fp:List Addr)(it:Addr)(tn:Nat->Heap->Prop):Prop where
 mem:it∈fp
 obj:∀ i h,tn i h->∀ b∈fp,∃ o,h.get? b=some o/\∀ v,o.data ≠ .cell v
 keep:∀ i h h',tn i h ->(∀ b∈fp,∀ o,h.get? b=some o->h'.get? b=some o)->tn i h'
 item:∀(X:Cx),X.prog=P->X.w=w->X.K=K->X.calm=true->∀(i:Nat)(pins:List (Addr×Obj))(s:Shared)(σ:St)(H:Hp)(E:Value->Shared->Prop),Inv X pins σ H s ->(∀ b∈fp,nX X pins H b)->tn i s.heap->J.go i H ->
  wpAny (model P w) X.A (pyNext (.ref it)) (fun r s1=>∃ u,r=some u /\
   wpAny (model P w) X.A (letOwnedTupleGo tg (.ref it) u) (fun _ s2=>∃ x H',Inv X pins σ H' s2/\RelV x u/\J.yld i H x H'/\tn (i+1) s2.heap/\∀ b∈fp,H' b=none) E s1) E s
 done:∀(X:Cx),X.prog=P->X.w=w->X.K=K->X.calm=true->∀(i:Nat)(pins:List (Addr×Obj))(s:Shared)(σ:St)(H:Hp)(E:Value->Shared->Prop),Inv X pins σ H s ->(∀ b∈fp,nX X pins H b)->tn i s.heap->J.stop i H ->
  wpAny (model P w) X.A (pyNext (.ref it)) (fun r s1=>r=none/\Inv X pins σ H s1) E s
 self:∀(A:Around)(i:Nat)(s:Shared)(Q:Value->Shared->Prop)(E:Value->Shared->Prop),tn i s.heap->Q (.ref it) s->wpAny (model P w) A (pyIter (.ref it)) Q E s
abbrev TI:=St->Hp ->(It->Hp->Prop)->Prop
def PIE(X:Cx)(pins:List (Addr×Obj))(σ:St)(tg:Expr)(R:It->Hp->Prop)(itv:Value)(s2:Shared):Prop :=
 ∃(it:Addr)(fp:List Addr)(tn:Nat->Heap->Prop)(J:It)(H':Hp),itv = .ref it/\Inv X pins σ H' s2/\Turn X.prog X.w X.K tg J fp it tn/\tn 0 s2.heap/\(∀ b∈fp,nX X pins H' b)/\R J H'
def PI(X:Cx)(tg iter:Expr)(wi:TI):Prop :=
 ∀(pins:List (Addr×Obj))(s:Shared)(σ:St)(H:Hp)(R:It->Hp->Prop),Inv X pins σ H s->wi σ H R ->
  wpAny (model X.prog X.w) X.A (eval iter X.env) (fun v s1=>wpAny (model X.prog X.w) X.A (pyIter v) (PIE X pins σ tg R) X.xe s1) X.xe s
theorem Br{M:Model}{A:Around}{E:Value->Shared->Prop}{s:Shared}{tg:Expr}{it:Addr}{u:Value}{o:Obj}{n:String}{vs:Array Value}{Q:Unit->Shared->Prop}(ho:s.heap.get? it=some o)(hc:o.cls = .type n)(hd:o.data = .fields vs)
  (hn:["enumerate","zip","dict_itemiterator","dict_reverseitemiterator","odict_iterator","itertools.zip_longest","itertools.pairwise"].contains n=false) (hQ:Q () s):wpAny M A (letOwnedTupleGo tg (.ref it) u) Q E s:=by
 unfold letOwnedTupleGo;cases tg <;> first
  | exact wpAny_pure hQ
  | (cases u <;> first
    | exact wpAny_pure hQ
    | (refine wpAny_bind (wpAny_load ho ?_)
       rw[hc,hd];show wpAny M A (if(["enumerate","zip","dict_itemiterator","dict_reverseitemiterator","odict_iterator","itertools.zip_longest","itertools.pairwise"].contains n&&vs[0]? == some (rawInt _))=true then _ else _) Q E s
       rw[if_neg (by intro h;rw[hn,Bool.false_and]at h;cases h)]
       exact wpAny_pure hQ))
def Itl(K:W.Frag)(a:Addr):It :=
 ⟨fun i H=>∃ xs x,SqL K H a xs/\xs[i]? = some x,fun i H x H'=>H'=H/\∀ xs,SqL K H a xs->xs[i]? = some x,fun i H=>∃ xs,SqL K H a xs/\xs.length<=i⟩
def Itt(K:W.Frag)(a:Addr):It :=
 ⟨fun i H=>∃ xs x,SqT K H a xs/\xs[i]? = some x,fun i H x H'=>H'=H/\∀ xs,SqT K H a xs->xs[i]? = some x,fun i H=>∃ xs,SqT K H a xs/\xs.length<=i⟩
def Itr(lo:Int)(n:Nat):It:=⟨fun i _=>i<n,fun i H x H'=>H'=H/\x = .int (lo+i),fun i _=>n<=i⟩
theorem yf{P:Program}{w:World}{K:W.Frag}{tg:Expr}(a it:Addr):Turn P w K tg (Itl K a) [it] it (fun i h=>h.IsListIter it a i) where
 mem:=by simp
 obj:=fun i h st b hb=>by
  have e:b=it:=by simpa using hb
  subst e;obtain⟨o,e,c,d⟩:=st;exact⟨o,e,fun v z=>by rw[d]at z;cases z⟩
 keep:=fun i h h' st k=>st.at fun o e=>k it (by simp) o e
 item:=by
  intro X hP hw hK hc i pins s σ H E I hf st hg;subst hP hw hK;obtain⟨xs,x,hq,hx⟩:=hg;obtain⟨its,rv,p,hz⟩:=I.list hq;obtain⟨u,hu,ru⟩:=rv.get hx;obtain⟨f0,f1,f2,f3,f4,f5⟩:=hf it (by simp)
  refine wpAny_pyNext_list_item st p.isList (x:=u) (by simpa using hu) fun h' st' sb=>?_
  have I1:Inv X pins σ H { s with heap:=h' }:=I.turned (t':=s.toks) (fun b o hb e=>(sb.2 b hb).trans e) f0 f1 f3 f4 f5
  obtain⟨o,e,c,d⟩:=id st';exact⟨u,rfl,Br (s:={ s with heap:=h' }) e c d (by decide) ⟨x,H,I1,ru,⟨rfl,fun ys hy=>by rw[I.uy hy hq];exact hx⟩,st',fun b hb=>(hf b hb).1⟩⟩
 done:=by
  intro X hP hw hK hc i pins s σ H E I hf st hg;subst hP hw hK;obtain⟨xs,hq,hx⟩:=hg;obtain⟨its,rv,p,hz⟩:=I.list hq;obtain⟨f0,f1,f2,f3,f4,f5⟩:=hf it (by simp)
  have hl:=rv.length;exact wpAny_pyNext_list_end (I.ok.hd hc) st p.isList (by simp;omega) fun h' eb=>⟨rfl,I.turned (t':=s.toks) (fun b o hb e=>eb b o hb e) f0 f1 f3 f4 f5⟩
 self:=fun _ _ _ _ _ st h=>wpAny_pyIter_listiter st h
theorem uZ{P:Program}{w:World}{K:W.Frag}{tg:Expr}(a it:Addr):Turn P w K tg (Itt K a) [it] it (fun i h=>h.IsTupleIter it a i) where
 mem:=by simp
 obj:=fun i h st b hb=>by
  have e:b=it:=by simpa using hb
  subst e;obtain⟨o,e,c,d⟩:=st;exact⟨o,e,fun v z=>by rw[d]at z;cases z⟩
 keep:=fun i h h' st k=>st.at fun o e=>k it (by simp) o e
 item:=by
  intro X hP hw hK hc i pins s σ H E I hf st hg;subst hP hw hK;obtain⟨xs,x,hq,hx⟩:=hg;obtain⟨its,rv,p,hz⟩:=I.tuple hq;obtain⟨u,hu,ru⟩:=rv.get hx;obtain⟨f0,f1,f2,f3,f4,f5⟩:=hf it (by simp)
  refine wpAny_pyNext_tuple_item st (show s.heap.IsTuple a its.toArray from p) (x:=u) (by simpa using hu) fun h' st' sb=>?_
  have I1:Inv X pins σ H { s with heap:=h' }:=I.turned (t':=s.toks) (fun b o hb e=>(sb.2 b hb).trans e) f0 f1 f3 f4 f5
  obtain⟨o,e,c,d⟩:=id st';exact⟨u,rfl,Br (s:={ s with heap:=h' }) e c d (by decide) ⟨x,H,I1,ru,⟨rfl,fun ys hy=>by rw[I.pq hy hq];exact hx⟩,st',fun b hb=>(hf b hb).1⟩⟩
 done:=by
  intro X hP hw hK hc i pins s σ H E I hf st hg;subst hP hw hK;obtain⟨xs,hq,hx⟩:=hg;obtain⟨its,rv,p,hz⟩:=I.tuple hq;obtain⟨f0,f1,f2,f3,f4,f5⟩:=hf it (by simp)
  have hl:=rv.length;exact wpAny_pyNext_tuple_end (I.ok.hd hc) st (show s.heap.IsTuple a its.toArray from p) (by simp;omega) fun h' eb=>⟨rfl,I.turned (t':=s.toks) (fun b o hb e=>eb b o hb e) f0 f1 f3 f4 f5⟩
 self:=fun _ _ _ _ _ st h=>wpAny_pyIter_tupleiter st h
theorem u0{P:Program}{w:World}{K:W.Frag}{tg:Expr}(it:Addr)(lo:Int)(n:Nat):Turn P w K tg (Itr lo n) [it] it (fun i h=>IsRangeIter h it (lo+(i:Nat)*1) ((n:Int) - (i:Nat)) 1) where
 mem:=by simp
 obj:=fun i h st b hb=>by
  have e:b=it:=by simpa using hb
  subst e;exact⟨_,st,fun v z=>by
   have z':Data.fields _=Data.cell v:=z;cases z'⟩
 keep:=fun i h h' st k=>k it (by simp) _ st
 item:=by
  intro X hP hw hK hc i pins s σ H E I hf st hg;subst hP hw hK;obtain⟨f0,f1,f2,f3,f4,f5⟩:=hf it (by simp)
  have W:=Walks.range (prog:=X.prog) (w:=X.w) (I.ok.hd hc) it lo 1 n;refine W.item i s _ _ hg st fun v h' tk hv st' kk=>?_
  obtain⟨t,rfl⟩:=hv;have I1:Inv X pins σ H { s with heap:=h',toks:=tk }:=I.turned (fun b o hb e=>kk b o (by simpa using hb) e) f0 f1 f3 f4 f5
  refine⟨_,rfl,Br (s:={ s with heap:=h',toks:=tk }) (n:="range_iterator") st' rfl rfl (by decide) ⟨.int (lo+i),H,I1,⟨t,?_⟩,⟨rfl,rfl⟩,st',fun b hb=>(hf b hb).1⟩⟩
  rw[Int.mul_one]
 done:=by
  intro X hP hw hK hc i pins s σ H E I hf st hg;subst hP hw hK;obtain⟨f0,f1,f2,f3,f4,f5⟩:=hf it (by simp)
  exact wpAny_pyNext_range_end (I.ok.hd hc) st (by have:n<=i:=hg;omega) fun h' eb=>⟨rfl,I.turned (t':=s.toks) (fun b o hb e=>eb b o hb e) f0 f1 f3 f4 f5⟩
 self:=fun _ _ _ _ _ st h=>wpAny_pyIter_rangeiter st h
section
variable{X:Cx}{tg:Expr}
def xJ(K:W.Frag)(tl:TE):TI:=fun σ H R=>tl σ H fun x H1=>∃ a,x = .ref a/\(∃ xs,SqL K H1 a xs)/\R (Itl K a) H1
def Bj(K:W.Frag)(tl:TE):TI:=fun σ H R=>tl σ H fun x H1=>∃ a,x = .ref a/\(∃ xs,SqT K H1 a xs)/\R (Itt K a) H1
theorem md{l:Expr}{tl:TE}(hl:PE X l tl):PI X tg l (xJ X.K tl):=by
 intro pins s σ H R I h;refine thn (hl pins s σ H _ I h) fun v s1 hPP=>?_
 obtain⟨x,H1,I1,r1,q1⟩:=hPP;obtain⟨a,e,⟨xs,hq⟩,q⟩:=q1;subst e;cases r1;obtain⟨its,rv,p,hz⟩:=I1.list hq;refine wpAny_pyIter_list p.isList ?_;refine⟨s1.heap.objs.size,[s1.heap.objs.size],_,_,H1,rfl,I1.kept (t':=s1.toks) fun b o e=>Heap.get?_push_of_some _ e,yf a _,⟨_,Heap.get?_push_size _ rfl,rfl,rfl⟩,fun b hb=>?_,q⟩
 have e:b=s1.heap.objs.size:=by simpa using hb
 subst e;exact I1.Bt (Nat.le_refl _) (I1.hok.fresh (Nat.le_refl _))
theorem Gm{l:Expr}{tl:TE}(hl:PE X l tl):PI X tg l (Bj X.K tl):=by
 intro pins s σ H R I h;refine thn (hl pins s σ H _ I h) fun v s1 hPP=>?_
 obtain⟨x,H1,I1,r1,q1⟩:=hPP;obtain⟨a,e,⟨xs,hq⟩,q⟩:=q1;subst e;cases r1;obtain⟨its,rv,p,hz⟩:=I1.tuple hq;refine wpAny_pyIter_tuple (show s1.heap.IsTuple a its.toArray from p) ?_;refine⟨s1.heap.objs.size,[s1.heap.objs.size],_,_,H1,rfl,I1.kept (t':=s1.toks) fun b o e=>Heap.get?_push_of_some _ e,uZ a _,⟨_,Heap.get?_push_size _ rfl,rfl,rfl⟩,fun b hb=>?_,q⟩
 have e:b=s1.heap.objs.size:=by simpa using hb
 subst e;exact I1.Bt (Nat.le_refl _) (I1.hok.fresh (Nat.le_refl _))
theorem zQ{pins:List (Addr×Obj)}{σ:St}{H:Hp}{s:Shared}{R:It->Hp->Prop}{E:Value->Shared->Prop}{lo hi:Int}{t u v:Tok}{tk:Nat}(I:Inv X pins σ H s)(h1:-(2 ^ 62)<=lo)(h2:lo<2 ^ 62)(h3:-(2 ^ 62)<=hi)(h4:hi<2 ^ 62)
  (q:R (Itr lo (hi - lo).toNat) H):wpAny (model X.prog X.w) X.A (pyIter (.ref s.heap.objs.size)) (PIE X pins σ tg R) E { s with heap:=s.heap.push { cls:=.type "range",data:=.fields #[.int lo t,.int hi u,.int 1 v] },toks:=tk }:=by
 refine wpAny_pyIter_range (IsRange.new ..) (small_one h1 h2 h3 h4) ?_;have I1:Inv X pins σ H { s with heap:=s.heap.push { cls:=.type "range",data:=.fields #[.int lo t,.int hi u,.int 1 v] },toks:=tk }:=I.kept fun b o e=>Heap.get?_push_of_some _ e
 refine⟨(s.heap.push { cls:=.type "range",data:=.fields #[.int lo t,.int hi u,.int 1 v] }).objs.size,[(s.heap.push { cls:=.type "range",data:=.fields #[.int lo t,.int hi u,.int 1 v] }).objs.size],_,_,H,rfl,
  I1.kept (t':=tk) fun b o e=>Heap.get?_push_of_some _ e,u0 _ lo (hi - lo).toNat,?_,fun b hb=>?_,q⟩
 ·have e1:lo+((0:Nat):Int)*1=lo:=by simp
  have e2:(((hi - lo).toNat:Nat):Int) - ((0:Nat):Int)=Builtin.Range.rangeSize lo hi 1:=by rw[rangeSize_one];split <;> omega
  show IsRangeIter _ _ (lo+((0:Nat):Int)*1) ((((hi - lo).toNat:Nat):Int) - ((0:Nat):Int)) 1;rw[e1,e2];exact Heap.get?_push_size _ rfl
 ·have e:b =(s.heap.push { cls:=.type "range",data:=.fields #[.int lo t,.int hi u,.int 1 v] }).objs.size:=by simpa using hb
  subst e;exact I1.Bt (Nat.le_refl _) (I1.hok.fresh (Nat.le_refl _))
def Bk(ta:TA):TI:=fun σ H R=>ta σ H fun vs H1=>∃ j:Int,vs = [.int j] /\ -(2 ^ 62)<=j/\j<2 ^ 62/\R (Itr 0 j.toNat) H1
theorem pJ{a:Expr}{ta:TA}{p pos:Pos}(hg:Gl X "range")(hm:X.mg "range" = none)(ha:PA X [a] ta)(hs:starEach [a] X.env = [(false,eval a X.env)]:=by rfl):PI X tg (.Call (.Name "range" p) [a] [] pos) (Bk ta):=by
 intro pins s σ H R I h;refine Call_ (jb I hg hm boot_range (PyProof.Rows.callWith_type1 (thn (ha pos pins s σ H _ I h) fun us s1 ⟨vs,H1,I1,r1,q1⟩=>?_) hs rfl))
 obtain⟨j,e,q1,q2,q⟩:=q1;subst e;cases r1 with
 | cons r rr =>
  cases rr;obtain⟨t,rfl⟩:=r;exact call_range_1 (zQ I1 (by omega) (by omega) q1 q2 (by simpa using q))
def Hy(wi:TI)(g:TG)(tb:TS):TS:=fun D σ H=>wi σ H fun J H1=>∃ W:Nat->Nat->St->Hp->Prop,(∃ m,W 0 m σ H1)/\∀ i m σ H,W i m σ H ->
 (J.stop i H/\D.nx σ H)\/(J.go i H/\∃ N:St->Hp->Prop,(∀ σ' H',N σ' H'->∃ m',m'<m/\W (i+1) m' σ' H')/\∀ x H',J.yld i H x H'->g x σ H' fun σ2 H2=>tb { D with nx:=N,ct:=N,bk:=D.nx } σ2 H2)
def mW(fp:List Addr)(h:Heap):List (Addr×Obj):=fp.filterMap fun b=>(h.get? b).map fun o=>(b,o)
theorem d5{fp:List Addr}{h:Heap}{b:Addr}{o:Obj}(hb:b∈fp)(e:h.get? b=some o):(b,o)∈mW fp h:=List.mem_filterMap.mpr ⟨b,hb,by rw[e];rfl⟩
theorem yA{fp:List Addr}{h:Heap}{p:Addr×Obj}(hp:p∈mW fp h):p.1∈fp/\h.get? p.1=some p.2:=by
 obtain⟨b,hb,e⟩:=List.mem_filterMap.mp hp;cases q:h.get? b with
 | none=>rw[q]at e;cases e
 | some o =>
  rw[q]at e;have e':(b,o)=p:=Option.some.inj e;subst e';exact⟨hb,q⟩
theorem Inv.pinned{pins:List (Addr×Obj)}{σ:St}{H:Hp}{s:Shared}{fp:List Addr}(I:Inv X pins σ H s)(hf:∀ b∈fp,nX X pins H b)(ho:∀ b∈fp,∃ o,s.heap.get? b=some o/\∀ v,o.data ≠ .cell v):Inv X (pins++mW fp s.heap) σ H s :=
 I.jE fun p hp=>(List.mem_append.mp hp).elim (fun z=>I.pin p (List.mem_append_right _ z)) fun z=>by
  obtain⟨hb,e⟩:=yA z;obtain⟨f0,f1,f2,_⟩:=hf p.1 hb;obtain⟨o,e',d⟩:=ho p.1 hb;rw[e]at e';cases e';exact⟨e,f0,f1,f2,d⟩
theorem Inv.jr{pins pl:List (Addr×Obj)}{σ:St}{H:Hp}{s:Shared}(I:Inv X (pins++pl) σ H s):Inv X pins σ H s:=I.jE fun p hp=>I.pin p (List.mem_append_right _ (List.mem_append_left _ hp))
theorem Am{iter:Expr}{body:List Stmt}{wi:TI}{g:TG}{tb:TS}{pos:Pos}(hp:PassesOwn (model X.prog X.w) X.A X.env X.xe)(hc:X.calm=true)(hi:PI X tg iter wi)(hg:PG X tg g)(hb:PSs X body tb)
  (hs:∀ x,foldedSetIterable iter X.env x=pure x:=by intro _;rfl):PS X (.For tg iter body [] pos) (Hy wi g tb):=by
 intro pins s σ H D I h;refine wpAny_For (thn (hi pins s σ H _ I h) fun v s1 h1=>thn h1 fun itv s2 h2=>?_) hs
 obtain⟨it,fp,tn,J,H2,e,I2,T,st2,f2,W,⟨m0,w0⟩,turn⟩:=h2;subst e;have FI:∀{H':Hp},(∀ b∈fp,H' b=none)->∀ b∈fp,nX X pins H' b:=fun hn b hb=>⟨hn b hb,(f2 b hb).2⟩
 refine codeAny_forLoop_any (fun n s'=>∃ i σ' H',Inv X pins σ' H' s'/\tn i s'.heap/\(∀ b∈fp,H' b=none)/\W i n σ' H') ?_ m0 ⟨0,σ,H2,I2,st2,fun b hb=>(f2 b hb).1,w0⟩
 rintro n s3 ⟨i,σ3,H3,I3,st3,fr3,w3⟩
 rcases turn i n σ3 H3 w3 with⟨stop,qn⟩ |⟨go,N,hN,step⟩
 ·refine wpAny_passesOwn hp (thn (T.done X rfl rfl rfl hc i pins s3 σ3 H3 X.xe I3 (FI fr3) st3 stop) fun r s4 hPP=>?_)
  obtain⟨hr,I4⟩:=hPP;subst hr;exact wpAny_execs_nil ⟨σ3,H3,I4,qn⟩
 ·refine wpAny_passesOwn hp (thn (T.item X rfl rfl rfl hc i pins s3 σ3 H3 X.xe I3 (FI fr3) st3 go) fun r s4 hPP=>?_)
  obtain⟨u,hr,h4⟩:=hPP;subst hr;refine wpAny_passesOwn hp (thn h4 fun _ s5 hPP=>?_)
  obtain⟨x,H5,I5,r5,y5,st5,fr5⟩:=hPP;have I5':=I5.pinned (FI fr5) (T.obj _ _ st5);refine wpAny_passesOwn hp (thn (hg _ s5 σ3 H5 x u _ I5' r5 (step x H5 y5)) fun _ s6 hPP=>?_)
  obtain⟨σ6,H6,I6,q6⟩:=hPP;refine wpAny_passesOwn hp (thn (hb _ s6 σ6 H6 _ I6 q6) fun f s7 q7=>?_)
  have again:∀{σ7:St}{H7:Hp},Inv X (pins++mW fp s5.heap) σ7 H7 s7->N σ7 H7->∃ m,m<n/\∃ i σ' H',Inv X pins σ' H' s7/\tn i s7.heap/\(∀ b∈fp,H' b=none)/\W i m σ' H':=fun{σ7 H7} I7 n7=>by
   obtain⟨m',hm,w7⟩:=hN σ7 H7 n7;refine⟨m',hm,i+1,σ7,H7,I7.jr,T.keep _ _ _ st5 fun b hb o e=>(I7.pin (b,o) (List.mem_append_right _ (List.mem_append_right _ (d5 hb e)))).1,fun b hb=>?_,w7⟩
   obtain⟨o,e,d⟩:=T.obj _ _ st5 b hb;exact(I7.pin (b,o) (List.mem_append_right _ (List.mem_append_right _ (d5 hb e)))).2.1
  cases f with
  | next=>obtain⟨σ7,H7,I7,n7⟩:=q7;exact again I7 n7
  | cont=>obtain⟨σ7,H7,I7,n7⟩:=q7;exact again I7 n7
  | brk=>obtain⟨σ7,H7,I7,q7⟩:=q7;exact⟨σ7,H7,I7.jr,q7⟩
  | ret v=>obtain⟨x7,σ7,H7,I7,r7,q7⟩:=q7;exact⟨x7,σ7,H7,I7.jr,r7,q7⟩
end
theorem Bu{K:W.Frag}{a:Addr}{xs:List V}{g:TG}{tb:TS}{D:Ends}{σ:St}{H:Hp}(Pv:Nat->St->Hp->Prop)(h0:Pv 0 σ H)(hl:∀ i σ H,i<=xs.length->Pv i σ H->SqL K H a xs)
  (hs:∀ i x σ H,xs[i]? = some x->Pv i σ H->g x σ H fun σ2 H2=>tb { D with nx:=Pv (i+1),ct:=Pv (i+1),bk:=D.nx } σ2 H2) (hd:∀ σ H,Pv xs.length σ H->D.nx σ H) :
  ∃ W:Nat->Nat->St->Hp->Prop,(∃ m,W 0 m σ H)/\∀ i m σ H,W i m σ H ->
   ((Itl K a).stop i H/\D.nx σ H)\/((Itl K a).go i H/\∃ N:St->Hp->Prop,(∀ σ' H',N σ' H'->∃ m',m'<m/\W (i+1) m' σ' H')/\∀ x H',(Itl K a).yld i H x H'->g x σ H' fun σ2 H2=>tb { D with nx:=N,ct:=N,bk:=D.nx } σ2 H2):=by
 refine⟨fun i m σ H=>m=xs.length - i/\i<=xs.length/\Pv i σ H,⟨xs.length,by simp,Nat.zero_le _,h0⟩,?_⟩
 rintro i m σ H ⟨rfl,hi,p⟩
 have q:=hl i σ H hi p;by_cases hlt:i<xs.length
 ·refine .inr ⟨⟨xs,xs[i],q,by simp[hlt]⟩,Pv (i+1),fun σ' H' p'=>⟨xs.length - (i+1),by omega,rfl,hlt,p'⟩,fun x H' y=>?_⟩
  obtain⟨e,y⟩:=y;subst e;exact hs i x σ _ (y xs q) p
 ·have e:i=xs.length:=by omega
  subst e;exact .inl ⟨⟨xs,q,Nat.le_refl _⟩,hd σ H p⟩
abbrev R2:=V->V->Hp->VK->Prop
def OpR(X:Cx)(f:Value->Value->Sem Value)(r:R2):Prop :=
 ∀(pins:List (Addr×Obj))(s:Shared)(σ:St)(H:Hp)(x y:V)(v u:Value)(Q:VK),Inv X pins σ H s->RelV x v->RelV y u->r x y H Q ->
  wpAny (model X.prog X.w) X.A (f v u) (EP X pins σ Q) X.xe s
def UnR(X:Cx)(f:Value->Sem Value)(r:V->Hp->VK->Prop):Prop :=
 ∀(pins:List (Addr×Obj))(s:Shared)(σ:St)(H:Hp)(x:V)(v:Value)(Q:VK),Inv X pins σ H s->RelV x v->r x H Q ->
  wpAny (model X.prog X.w) X.A (f v) (EP X pins σ Q) X.xe s
def cW(X:Cx)(f:Value)(r:List V->Hp->VK->Prop):Prop :=
 ∀(pins:List (Addr×Obj))(s:Shared)(σ:St)(H:Hp)(xs:List V)(us:List Value)(Q:VK),Inv X pins σ H s->Vals xs us->r xs H Q ->
  wpAny (model X.prog X.w) X.A (call f us) (EP X pins σ Q) X.xe s
def J4(X:Cx)(r:V->Hp ->(Bool->Hp->Prop)->Prop):Prop :=
 ∀(pins:List (Addr×Obj))(s:Shared)(σ:St)(H:Hp)(x:V)(v:Value)(Q:Bool->Hp->Prop),Inv X pins σ H s->RelV x v->r x H Q ->
  wpAny (model X.prog X.w) X.A (truthy v) (TP X pins σ Q) X.xe s
def tOp(r:R2)(ta tb:TE):TE:=fun σ H Q=>ta σ H fun x H1=>tb σ H1 fun y H2=>r x y H2 Q
def tUn(r:V->Hp->VK->Prop)(ta:TE):TE:=fun σ H Q=>ta σ H fun x H1=>r x H1 Q
def rI(C:Int->Int->Prop)(g:Int->Int->V):R2:=fun x y H Q=>∃ i j,x = .int i/\y = .int j/\C i j/\Q (g i j) H
def rI0(g:Int->Int->V):R2:=fun x y H Q=>∃ i j,x = .int i/\y = .int j/\Q (g i j) H
def rU(g:Int->V):V->Hp->VK->Prop:=fun x H Q=>∃ i,x = .int i/\Q (g i) H
section
variable{X:Cx}{a b c:Expr}{ta tb tc:TE}{pos:Pos}
theorem Hj(ha:PE X a ta)(hb:PE X b tb){pins:List (Addr×Obj)}{s:Shared}{σ:St}{H:Hp}{R:V->V->Hp->Prop}(I:Inv X pins σ H s)
  (h:ta σ H fun x H1=>tb σ H1 fun y H2=>R x y H2) {Q:Value->Shared->Prop} {f:Value->Value->Sem Value}
  (hf:∀ v u s2 x y H2,Inv X pins σ H2 s2->RelV x v->RelV y u->R x y H2->wpAny (model X.prog X.w) X.A (f v u) Q X.xe s2) :
  wpAny (model X.prog X.w) X.A (eval a X.env) (fun v s₁=>wpAny (model X.prog X.w) X.A (eval b X.env) (fun u s₂=>wpAny (model X.prog X.w) X.A (f v u) Q X.xe s₂) X.xe s₁) X.xe s:=by
 refine thn (ha pins s σ H _ I h) fun v s1 hPP=>?_
 obtain⟨x,H1,I1,r1,q1⟩:=hPP;refine thn (hb pins s1 σ H1 _ I1 q1) fun u s2 hPP=>?_
 obtain⟨y,H2,I2,r2,q2⟩:=hPP;exact hf v u s2 x y H2 I2 r1 r2 q2
theorem cj{op:Operator}{r:R2}(ho:OpR X (binaryOp op) r)(ha:PE X a ta)(hb:PE X b tb):PE X (.BinOp a op b pos) (tOp r ta tb):=by
 intro pins s σ H Q I h;exact wpAny_BinOp (Hj ha hb I h fun v u s2 x y H2 I2 rx ry q=>ho pins s2 σ H2 x y v u Q I2 rx ry q)
theorem Ij{op:UnaryOp}{r:V->Hp->VK->Prop}(ho:UnR X (unaryOp op) r)(ha:PE X a ta):PE X (.UnaryOp op a pos) (tUn r ta):=by
 intro pins s σ H Q I h;exact UnaryOp_ (thn (ha pins s σ H _ I h) fun v s1 ⟨x,H1,I1,r1,q1⟩=>ho pins s1 σ H1 x v Q I1 r1 q1)
theorem opI{f:Value->Value->Sem Value}{C:Int->Int->Prop}{g:Int->Int->Int}
  (rule:∀(i j:Int)(t u:Tok)(s:Shared)(Q:Value->Shared->Prop)(E:Value->Shared->Prop),C i j->Q (.int (g i j) s.toks) { s with toks:=s.toks+1 }->wpAny (model X.prog X.w) X.A (f (.int i t) (.int j u)) Q E s) :
  OpR X f (rI C fun i j=>.int (g i j)):=by
 intro pins s σ H x y v u Q I rx ry h;obtain⟨i,j,rfl,rfl,hc,q⟩:=h;obtain⟨t,rfl⟩:=rx;obtain⟨t',rfl⟩:=ry;exact rule i j t t' s _ _ hc ⟨.int (g i j),H,I.tok _,⟨_,rfl⟩,q⟩
theorem Im{f:Value->Value->Sem Value}{g:Int->Int->Int}
  (rule:∀(i j:Int)(t u:Tok)(s:Shared)(Q:Value->Shared->Prop)(E:Value->Shared->Prop),Q (.int (g i j) s.toks) { s with toks:=s.toks+1 }->wpAny (model X.prog X.w) X.A (f (.int i t) (.int j u)) Q E s) :
  OpR X f (rI0 fun i j=>.int (g i j)):=by
 intro pins s σ H x y v u Q I rx ry h;obtain⟨i,j,rfl,rfl,q⟩:=h;obtain⟨t,rfl⟩:=rx;obtain⟨t',rfl⟩:=ry;exact rule i j t t' s _ _ ⟨.int (g i j),H,I.tok _,⟨_,rfl⟩,q⟩
theorem GC{f:Value->Value->Sem Value}{g:Int->Int->Bool}
  (rule:∀(i j:Int)(t u:Tok)(s:Shared)(Q:Value->Shared->Prop)(E:Value->Shared->Prop),Q (.bool (g i j)) s->wpAny (model X.prog X.w) X.A (f (.int i t) (.int j u)) Q E s) :
  OpR X f (rI0 fun i j=>.bl (g i j)):=by
 intro pins s σ H x y v u Q I rx ry h;obtain⟨i,j,rfl,rfl,q⟩:=h;obtain⟨t,rfl⟩:=rx;obtain⟨t',rfl⟩:=ry;exact rule i j t t' s _ _ ⟨.bl (g i j),H,I,rfl,q⟩
def J8(i j:Int):Prop:=0<=j/\j<=1000000/\i.natAbs<2 ^ 64
def B0(i j:Int):Prop:=(-(2 ^ 64)<i/\i<2 ^ 64)\/(-(2 ^ 64)<j/\j<2 ^ 64)
theorem B0.ok{i j:Int}(h:B0 i j):IntMulOk i j:=by
 rcases h with⟨h1,h2⟩ |⟨h1,h2⟩
 ·exact .of_left (intBits_le_64 h1 h2)
 ·exact .of_right (intBits_le_64 h1 h2)
theorem kI:OpR X (binaryOp .Add) (rI0 fun i j=>.int (i+j)):=Im fun _ _ _ _ _ _ _ q=>add_int q
theorem AE:OpR X (binaryOp .Sub) (rI0 fun i j=>.int (i - j)):=Im fun _ _ _ _ _ _ _ q=>sub_int q
theorem i7:OpR X (binaryOp .Mult) (rI B0 fun i j=>.int (i*j)):=opI fun _ _ _ _ _ _ _ hc q=>mul_int q hc.ok
theorem fV:OpR X (binaryOp .Mod) (rI (fun _ j=>0<j) fun i j=>.int (i % j)):=opI fun i j _ _ _ _ _ hc q=>by
 have h1:(0:Int)<j:=hc;exact mod_int' (by omega) (by rw[Int.fmod_eq_emod_of_nonneg i (by omega)];exact q)
theorem Gu:OpR X (binaryOp .Pow) (rI J8 fun i j=>.int (i ^ j.toNat)):=opI fun _ _ _ _ _ _ _ hc q=>pow_int_small hc.1 hc.2.1 hc.2.2 q
theorem unI{f:Value->Sem Value}{g:Int->Int}
  (rule:∀(i:Int)(t:Tok)(s:Shared)(Q:Value->Shared->Prop)(E:Value->Shared->Prop),Q (.int (g i) s.toks) { s with toks:=s.toks+1 }->wpAny (model X.prog X.w) X.A (f (.int i t)) Q E s) :
  UnR X f (rU fun i=>.int (g i)):=by
 intro pins s σ H x v Q I rx h;obtain⟨i,rfl,q⟩:=h;obtain⟨t,rfl⟩:=rx;exact rule i t s _ _ ⟨.int (g i),H,I.tok _,⟨_,rfl⟩,q⟩
theorem Fz:UnR X (unaryOp .USub) (rU fun i=>.int (-i)):=unI fun _ _ _ _ _ q=>neg_int q
end
def Cz:V->V->Bool
 | .non,.non=>true | .non,.int _=>true | .int _,.non=>true | .non,.bl _=>true | .bl _,.non=>true | .non,.str _=>true | .str _,.non=>true
 | .int _,.int _=>true | .bl _,.bl _=>true | .str _,.str _=>true | .byt _,.byt _=>true
 | .int _,.str _=>true | .str _,.int _=>true | .bl _,.str _=>true | .str _,.bl _=>true
 | _,_=>false
def rEq:R2:=fun x y H Q=>Cz x y=true/\Q (.bl (decide (x=y))) H
def rNe:R2:=fun x y H Q=>Cz x y=true/\Q (.bl (!decide (x=y))) H
theorem xQ{i j:Int}:decide (V.int i=V.int j) =(i==j):=by
 rw[Bool.eq_iff_iff];simp
theorem Bz{i j:Bool}:decide (V.bl i=V.bl j) =(i==j):=by
 rw[Bool.eq_iff_iff];simp
theorem xP{i j:Str}:decide (V.str i=V.str j) =(i==j):=by
 rw[Bool.eq_iff_iff];simp
theorem xR{i j:Array UInt8}:decide (V.byt i=V.byt j) =(i.toList==j.toList):=by
 rw[Bool.eq_iff_iff];cases i;cases j;simp
section
variable{X:Cx}{a b c:Expr}{ta tb tc:TE}{pos:Pos}
theorem aV{pins:List (Addr×Obj)}{σ:St}{H:Hp}{s:Shared}{Q:VK}{k k':Bool}(I:Inv X pins σ H s)(q:Q (.bl k) H)(e:k=k'):EP X pins σ Q (.bool k') s:=by
 subst e;exact⟨.bl k,H,I,rfl,q⟩
theorem Ff:OpR X (compareOp .Eq) rEq:=by
 intro pins s σ H x y v u Q I rx ry h;obtain⟨hs,q⟩:=h;cases x with
 | non =>
  cases rx;cases y with
  | non=>cases ry;exact PySem.EqNone.eq_none_none (aV I q (by simp))
  | bl j=>cases ry;exact PySem.EqNone.eq_none_bool (aV I q (by simp))
  | int j=>obtain⟨t',rfl⟩:=ry;exact PySem.EqNone.eq_none_int (aV I q (by simp))
  | str j=>obtain⟨t',rfl⟩:=ry;exact PySem.EqNone.eq_none_str (aV I q (by simp))
  | _=>exact absurd (show false=true from hs) Bool.false_ne_true
 | bl i =>
  cases rx;cases y with
  | non=>cases ry;exact PySem.EqNone.eq_bool_none (aV I q (by simp))
  | bl j=>cases ry;exact eq_bool (aV I q Bz)
  | str j=>obtain⟨t',rfl⟩:=ry;exact PySem.EqMixed.eq_bool_str (aV I q (by simp))
  | _=>exact absurd (show false=true from hs) Bool.false_ne_true
 | int i =>
  obtain⟨t,rfl⟩:=rx;cases y with
  | non=>cases ry;exact PySem.EqNone.eq_int_none (aV I q (by simp))
  | int j=>obtain⟨t',rfl⟩:=ry;exact eq_int (aV I q xQ)
  | str j=>obtain⟨t',rfl⟩:=ry;exact PySem.EqMixed.eq_int_str (aV I q (by simp))
  | _=>exact absurd (show false=true from hs) Bool.false_ne_true
 | str i =>
  obtain⟨t,rfl⟩:=rx;cases y with
  | non=>cases ry;exact PySem.EqNone.eq_str_none (aV I q (by simp))
  | bl j=>cases ry;exact PySem.EqMixed.eq_str_bool (aV I q (by simp))
  | int j=>obtain⟨t',rfl⟩:=ry;exact PySem.EqMixed.eq_str_int (aV I q (by simp))
  | str j=>obtain⟨t',rfl⟩:=ry;exact eq_str (aV I q xP)
  | _=>exact absurd (show false=true from hs) Bool.false_ne_true
 | byt i =>
  obtain⟨t,rfl⟩:=rx;cases y with
  | byt j=>obtain⟨t',rfl⟩:=ry;exact W.eq_bytes (aV I q xR)
  | _=>exact absurd (show false=true from hs) Bool.false_ne_true
 | _=>cases y <;> exact absurd (show false=true from hs) Bool.false_ne_true
theorem ud:OpR X (compareOp .NotEq) rNe:=by
 intro pins s σ H x y v u Q I rx ry h;obtain⟨hs,q⟩:=h;cases x with
 | non =>
  cases rx;cases y with
  | non=>cases ry;exact PySem.EqNone.ne_none_none (aV I q (by simp))
  | bl j=>cases ry;exact PySem.EqNone.ne_none_bool (aV I q (by simp))
  | int j=>obtain⟨t',rfl⟩:=ry;exact PySem.EqNone.ne_none_int (aV I q (by simp))
  | str j=>obtain⟨t',rfl⟩:=ry;exact PySem.EqNone.ne_none_str (aV I q (by simp))
  | _=>exact absurd (show false=true from hs) Bool.false_ne_true
 | bl i =>
  cases rx;cases y with
  | non=>cases ry;exact PySem.EqNone.ne_bool_none (aV I q (by simp))
  | bl j=>cases ry;exact ne_bool (aV I q (congrArg not Bz))
  | str j=>obtain⟨t',rfl⟩:=ry;exact PySem.EqMixed.ne_bool_str (aV I q (by simp))
  | _=>exact absurd (show false=true from hs) Bool.false_ne_true
 | int i =>
  obtain⟨t,rfl⟩:=rx;cases y with
  | non=>cases ry;exact PySem.EqNone.ne_int_none (aV I q (by simp))
  | int j=>obtain⟨t',rfl⟩:=ry;exact ne_int (aV I q (congrArg not xQ))
  | str j=>obtain⟨t',rfl⟩:=ry;exact PySem.EqMixed.ne_int_str (aV I q (by simp))
  | _=>exact absurd (show false=true from hs) Bool.false_ne_true
 | str i =>
  obtain⟨t,rfl⟩:=rx;cases y with
  | non=>cases ry;exact PySem.EqNone.ne_str_none (aV I q (by simp))
  | bl j=>cases ry;exact PySem.EqMixed.ne_str_bool (aV I q (by simp))
  | int j=>obtain⟨t',rfl⟩:=ry;exact PySem.EqMixed.ne_str_int (aV I q (by simp))
  | str j=>obtain⟨t',rfl⟩:=ry;exact ne_str (aV I q (congrArg not xP))
  | _=>exact absurd (show false=true from hs) Bool.false_ne_true
 | byt i =>
  obtain⟨t,rfl⟩:=rx;cases y with
  | byt j=>obtain⟨t',rfl⟩:=ry;exact W.ne_bytes (aV I q (congrArg not xR))
  | _=>exact absurd (show false=true from hs) Bool.false_ne_true
 | _=>cases y <;> exact absurd (show false=true from hs) Bool.false_ne_true
theorem AF:OpR X (compareOp .Lt) (rI0 fun i j=>.bl (decide (i<j))):=GC fun _ _ _ _ _ _ _ q=>lt_int q
theorem AG:OpR X (compareOp .Gt) (rI0 fun i j=>.bl (decide (j<i))):=GC fun _ _ _ _ _ _ _ q=>gt_int q
theorem Il:OpR X (compareOp .GtE) (rI0 fun i j=>.bl (decide (j<=i))):=GC fun _ _ _ _ _ _ _ q=>ge_int q
theorem yx:OpR X (compareOp .In) (fun x y H Q=>∃ i j,x = .str i/\y = .str j/\Q (.bl (!(Builtin.Str.occurrences j i 0 j.length 1).isEmpty)) H):=by
 intro pins s σ H x y v u Q I rx ry h;obtain⟨i,j,rfl,rfl,q⟩:=h;obtain⟨t,rfl⟩:=rx;obtain⟨t',rfl⟩:=ry;exact in_str (aV I q rfl)
theorem Gx:OpR X (compareOp .Is) (fun x y H Q=>y = .non/\Q (.bl (decide (x = .non))) H):=by
 intro pins s σ H x y v u Q I rx ry h;obtain⟨rfl,q⟩:=h;cases ry;refine is_none_gen (aV I q ?_);cases x <;> first
  | (cases rx;rfl)
  | (obtain⟨t,rfl⟩:=rx;rfl)
theorem rh:OpR X (compareOp .IsNot) (fun x y H Q=>y = .non/\Q (.bl (!decide (x = .non))) H):=by
 intro pins s σ H x y v u Q I rx ry h;obtain⟨rfl,q⟩:=h;cases ry;refine isnot_none_gen (aV I q ?_);cases x <;> first
  | (cases rx;rfl)
  | (obtain⟨t,rfl⟩:=rx;rfl)
theorem rg:OpR X (compareOp .NotIn) (fun x y H Q=>∃ i j,x = .str i/\y = .str j/\Q (.bl (!(!(Builtin.Str.occurrences j i 0 j.length 1).isEmpty))) H):=by
 intro pins s σ H x y v u Q I rx ry h;obtain⟨i,j,rfl,rfl,q⟩:=h;obtain⟨t,rfl⟩:=rx;obtain⟨t',rfl⟩:=ry;exact notIn_str (aV I q rfl)
theorem OpR.or{f:Value->Value->Sem Value}{r r':R2}(h:OpR X f r)(h':OpR X f r'):OpR X f (fun x y H Q=>r x y H Q\/r' x y H Q):=by
 intro pins s σ H x y v u Q I rx ry q;rcases q with q|q
 ·exact h pins s σ H x y v u Q I rx ry q
 ·exact h' pins s σ H x y v u Q I rx ry q
theorem aI(b:Expr){op:CmpOp}(h:op ≠ .In:=by decide)(h2:op ≠ .NotIn:=by decide):behindInMarks op b=false:=by
 have e1:(op==CmpOp.In)=false:=by cases op <;> first|rfl|exact absurd rfl h
 have e2:(op==CmpOp.NotIn)=false:=by cases op <;> first|rfl|exact absurd rfl h2
 cases b <;> simp[behindInMarks,e1,e2]
theorem Dd{op:CmpOp}{r:R2}(ho:OpR X (compareOp op) r)(ha:PE X a ta)(hb:PE X b tb)(hm:behindInMarks op b=false):PE X (.Compare a [op] [b] pos) (tOp r ta tb):=by
 intro pins s σ H Q I h;exact wpAny_Compare1 (Hj ha hb I h fun v u s2 x y H2 I2 rx ry q=>ho pins s2 σ H2 x y v u Q I2 rx ry q) hm
def ze(t:TE):TT:=fun σ H Q=>t σ H fun x H'=>∃ k,x = .bl k/\Q k H'
theorem jA{op:CmpOp}{r:R2}(ho:OpR X (compareOp op) r)(ha:PE X a ta)(hb:PE X b tb)(hm:behindInMarks op b=false):PT X (.Compare a [op] [b] pos) (ze (tOp r ta tb)):=by
 intro pins s σ H Q I h;refine wpAny_isTrue_Compare1 (thn (ha pins s σ H _ I h) fun v s1 ⟨x,H1,I1,r1,q1⟩=>thn (hb pins s1 σ H1 _ I1 q1) fun u s2 ⟨y,H2,I2,r2,q2⟩ =>
  thn (ho pins s2 σ H2 x y v u _ I2 r1 r2 q2) fun c s3 ⟨z,H3,I3,r3,k,e,q3⟩=>?_) hm
 subst e;cases r3;exact wpAny_truthy_bool ⟨H3,I3,q3⟩
def ES(K:W.Frag)(x:V)(H:Hp)(k:Bool):Prop :=
 match x with
 | .non=>k=false
 | .bl b=>k=b
 | .int i=>k =(i != 0)
 | .str y=>y.length<=sizeLine/\k =((y.length:Int) != 0)
 | .byt y=>y.size<=sizeLine/\k =((y.size:Int) != 0)
 | .ref p=>(∃ xs,SqL K H p xs/\k = !xs.isEmpty)\/(∃ xs,SqT K H p xs/\k = !xs.isEmpty)\/∃ kvs,H p=some (.dK kvs)/\k = !kvs.isEmpty
 | _=>False
theorem vX{κ:Type}{kvs:List (κ×V)}{vs:List (κ×Value)}(r:KV kvs vs):(!vs.isEmpty) = !kvs.isEmpty:=by
 cases r <;> rfl
theorem nB{xs:List V}{its:List Value}(r:Vals xs its):(!its.toArray.isEmpty) = !xs.isEmpty:=by
 cases r <;> simp
theorem gQ:(sizeLine:Nat)<2 ^ 63:=by rw[sizeLine_eq];decide
theorem FC:J4 X (fun x H Q=>∃ k,ES X.K x H k/\Q k H):=by
 intro pins s σ H x v Q I rx h;obtain⟨k,e,q⟩:=h;have hl:=gQ;have hs:sizeLine=16777216:=sizeLine_eq;cases x with
 | non =>
  cases rx;have e':k=false:=e;subst e';exact truthy_none ⟨H,I,q⟩
 | bl b =>
  cases rx;have e':k=b:=e;subst e';exact wpAny_truthy_bool ⟨H,I,q⟩
 | int i =>
  obtain⟨t,rfl⟩:=rx;have e':k =(i != 0):=e;subst e';exact PySem.P.truthy_int ⟨H,I,q⟩
 | str y =>
  obtain⟨t,rfl⟩:=rx;obtain⟨hy,e'⟩:y.length<=sizeLine/\k =((y.length:Int) != 0):=e;subst e';exact PySem.P.truthy_str (by omega) ⟨H,I.tok _,q⟩
 | byt y =>
  obtain⟨t,rfl⟩:=rx;obtain⟨hy,e'⟩:y.size<=sizeLine/\k =((y.size:Int) != 0):=e;subst e';exact W.truthy_bytes (by omega) ⟨H,I.tok _,q⟩
 | ref p =>
  cases rx;have e':(∃ xs,SqL X.K H p xs/\k = !xs.isEmpty)\/(∃ xs,SqT X.K H p xs/\k = !xs.isEmpty)\/∃ kvs,H p=some (.dK kvs)/\k = !kvs.isEmpty:=e
  rcases e' with⟨xs,hx,e'⟩ |⟨xs,hx,e'⟩ |⟨kvs,hx,e'⟩
  ·subst e';obtain⟨its,r,pl,hz⟩:=I.list hx;have hlen:=r.length;exact wpAny_truthy_list pl.isList (by simp only[List.size_toArray];omega) ⟨H,I.tok _,by rw[nB r];exact q⟩
  ·subst e';obtain⟨its,r,pl,hz⟩:=I.tuple hx;have hlen:=r.length;exact truthy_tuple pl (by simp only[List.size_toArray];omega) ⟨H,I.tok _,by rw[nB r];exact q⟩
  ·subst e';obtain⟨hz,hS,vs,r,m⟩:kvs.length<=sizeLine/\(p==sysModules)=false/\∃ vs,KV kvs vs/\s.heap.DictOf (a6 X.prog X.w) p vs:=I.hok p _ hx
   have hlen:kvs.length=vs.length:=Paired.length r;exact wpAny_truthy_dict hS m (by omega) ⟨H,I.tok _,by rw[vX r];exact q⟩
 | _=>exact(show False from e).elim
theorem Ak(ha:PE X a ta)(he:∀ whole,isTrue a X.env whole =(do let v <- whole;standAt a.pos;holding [v] (truthy v))) :
  PT X a (fun σ H Q=>ta σ H fun x H'=>∃ k,ES X.K x H' k/\Q k H'):=by
 intro pins s σ H Q I h;exact isTrue_plain (thn (ha pins s σ H _ I h) fun v s1 ⟨x,H1,I1,r1,q1⟩=>FC pins s1 σ H1 x v Q I1 r1 q1) (he _)
theorem vw:OpR X (binaryOp .Add) (fun x y H Q=>∃ i j,x = .str i/\y = .str j/\i.length+j.length<=sizeLine/\Q (.str (i++j)) H):=by
 intro pins s σ H x y v u Q I rx ry h;obtain⟨i,j,rfl,rfl,hz,q⟩:=h;obtain⟨t,rfl⟩:=rx;obtain⟨t',rfl⟩:=ry;exact add_str (fun t' tk=>⟨.str (i++j),H,I.tok _,⟨_,rfl⟩,q⟩) hz
theorem vals1{x:V}{us:List Value}(r:Vals [x] us):∃ u,us = [u]/\RelV x u:=by
 cases r with
 | cons r1 r2=>cases r2;exact⟨_,rfl,r1⟩
theorem vals2{x y:V}{us:List Value}(r:Vals [x,y] us):∃ u w',us = [u,w']/\RelV x u/\RelV y w':=by
 cases r with
 | cons r1 r2 =>
  cases r2 with
  | cons r3 r4=>cases r4;exact⟨_,_,rfl,r1,r3⟩
theorem kX(hc:X.calm=true):cW X (.builtin "max") (fun xs H Q=>∃ i j,xs = [.int i,.int j]/\Q (.int (if j > i then j else i)) H):=by
 intro pins s σ H xs us Q I r h;obtain⟨i,j,rfl,q⟩:=h;obtain⟨u,w',rfl,⟨t,rfl⟩,⟨t',rfl⟩⟩:=vals2 r;refine max_two_ints (I.ok.hd hc) fun h' tk k=>⟨_,H,I.kept k,?_,q⟩
 by_cases hj:j > i
 ·rw[if_pos hj,if_pos hj];exact⟨_,rfl⟩
 ·rw[if_neg hj,if_neg hj];exact⟨_,rfl⟩
end
structure yX(h:Heap)(x dx C:Addr)(mA:Str->Option Value):Prop where
 obj:h.get? x=some (W.instObj C dx)
 ns:h.Ns1 dx mA
 ne:dx≠x
theorem yG{h:Heap}{dx:Addr}{mA:Str->Option Value}(n:h.Ns1 dx mA):∃ od,h.get? dx=some od/\∀ name,W.lookIn name od=some (mA name):=by
 obtain⟨o,es,ep,ho,hd,hk,_,hm⟩:=n;refine⟨o,ho,fun name=>?_⟩
 have e:=hm name;unfold nsFind findBy at e;rw[<- Array.find?_toList]at e;unfold W.lookIn;rw[hd];dsimp only
 split
 ·rename_i y q;rw[q]at e;exact congrArg some e
 ·rename_i q;rw[q]at e;have a:es.toList.any (·.refKey)=false:=by
   rw[List.any_eq_false];intro y hy;obtain⟨z,t,Hb⟩:=hk y (Array.mem_toList_iff.mp hy);simp[DictEntry.refKey,Hb]
  have a':¬ es.toList.any (·.refKey)=true:=by rw[a];exact Bool.false_ne_true
  rw[if_neg a'];exact congrArg some e
theorem yX.look{h:Heap}{x dx C:Addr}{mA:Str->Option Value}(I:yX h x dx C mA):∃ od,W.InstAt h x (W.instObj C dx) C (some od)/\∀ name,W.lookIn name od=some (mA name) :=
 let⟨od,ho,hl⟩:=yG I.ns
 ⟨od,⟨I.obj,rfl,rfl,ho⟩,hl⟩
section
variable{prog:Program}{w:World}{A:Around}{E:Value->Shared->Prop}{s:Shared}{K:W.Frag}{x dx C f:Addr}{mA:Str->Option Value}{name:Str}{v:Value}
theorem get_map{expr:Bool}{Q:Value->Shared->Prop}(X:K.In s.heap)(I:yX s.heap x dx C mA)(hg:W.plainGet K C name=true)(hh:W.hasDictIn K C=true)
  (ha:W.findIn K (.ref C) name=some none) (hv:mA name=some v) (hv':W.handedIn v=true) (h:Q v { s with toks:=s.toks+1 }) :
  wpAny (model prog w) A (getAttr (.ref x) name expr) Q E s:=by
 obtain⟨od,J,hl⟩:=I.look;exact W.get_value X J (W.plainGet_of hg).1 (W.findObj_own hh ha rfl (by rw[hl,hv])) hv' h
theorem Cy{ns:List Str}{Q:Unit->Shared->Prop}(X:K.In s.heap)(I:yX s.heap x dx C mA)
  (hs:W.findIn K (.ref C) "__setattr__" = some (some (.builtin "object.__setattr__"))) (hp:W.plainOver K C=true) (ht:W.takerIn K C name=some none) (hh:W.hasDictIn K C=true)
  (hw:PySem.Within mA ns) (hsz:ns.length<=sizeLine)
  (h:∀ h',yX h' x dx C (fun y=>if y=name then some v else mA y)->Heap.SameBut dx s.heap h'->Q () { s with heap:=h',toks:=s.toks+2 }) :
  wpAny (model prog w) A (setAttr (.ref x) name v) Q E s:=by
 obtain⟨od,J,hl⟩:=I.look;refine W.set_plain X J hs (W.osa_open (s:={ s with toks:=s.toks+1 }) (r:=none) X J hp ht fun b=>?_)
 obtain⟨cd,hc,hd'⟩:=W.any_some hh;have hx:s.heap.get? x=some ⟨.ref C,some dx,.plain,#[]⟩:=I.obj;refine wpAny_bind (wpAny_pure (wpAny_bind (wpAny_bind (wpAny_loadPart hx (wpAny_bind (W.Looks.here (s:={ s with toks:=s.toks+1 }) (W.looks_clsIn X hc) ?_))))))
 rw[hd'];refine wpAny_pure (a:=some dx) (wpAny_bind (wpAny_pure (wpAny_bind ?_)));refine wpAny_nsSet1 (s:={ s with toks:=s.toks+1 }) I.ns fun h' hn2 hs2=>?_
 obtain⟨oD,esD,epD,hoD,hdD,hcD⟩:=hn2.count (PySem.Within.cons name v hw);refine wpAny_bind (wpAny_lookBehind hoD (by rw[hdD];exact pastItsLine_dict (Nat.le_trans hcD (by rw[List.length_cons];omega))) ?_)
 exact wpAny_pure (h _ ⟨(hs2.2 _ (Ne.symm I.ne)).trans I.obj,hn2,I.ne⟩ hs2)
theorem A3{R:Result->Shared->Prop}{vs:List Value}{kw:List (Str×Value)}(X:K.In s.heap)(hm:W.makesIn K C=true)
  (hi:W.findIn K (.ref C) "__init__" = some (some (.ref f))) (hf:W.typeIn K (.ref f)=some (.type "function"))
  (h:codeAny (model prog w) (A.under (.builtin "type.__call__" ⟨.ref C::vs,kw⟩)) (.call (.ref f) ⟨.ref (s.heap.objs.size+1)::vs,kw⟩) (W.InitBack (s.heap.objs.size+1) R)
   { s with heap:=(s.heap.push W.emptyDict).push (W.instObj C s.heap.objs.size) }) :
  codeAny (model prog w) A (.call (.ref C) ⟨vs,kw⟩) R s:=by
 obtain⟨hh,g,d,t,os⟩:=s;exact W.make_core (W.makes_of X hm) (W.looks_findIn X hi) (fun self=>W.bind_fn X self hf) (.inl rfl) h
end
def iN(f:Str)(v:V):List (Str×V)->List (Str×V)
 | []=>[(f,v)]
 | (g,x)::r=>if g=f then(g,v)::r else(g,x)::iN f v r
theorem lj(f g:Str)(v:V):∀ fs:List (Str×V),(iN f v fs).lookup g=if g=f then some v else fs.lookup g
 | []=>by
  show List.lookup g [(f,v)]=_;by_cases h:g=f
  ·have hb:(g==f)=true:=beq_iff_eq.mpr h;simp only[List.lookup,hb,if_pos h]
  ·have hb:(g==f)=false:=beq_eq_false_iff_ne.mpr h;simp only[List.lookup,hb,if_neg h]
 | (k,x)::r=>by
  have ih:=lj f g v r;rw[show iN f v ((k,x)::r) =(if k=f then(k,v)::r else(k,x)::iN f v r)from rfl]
  by_cases hk:k=f
  ·rw[if_pos hk];by_cases h:g=k
   ·have hb:(g==k)=true:=beq_iff_eq.mpr h;simp only[List.lookup,hb,if_pos (h.trans hk)]
   ·have hb:(g==k)=false:=beq_eq_false_iff_ne.mpr h;simp only[List.lookup,hb,if_neg (fun e:g=f=>h (e.trans hk.symm))]
  ·rw[if_neg hk];by_cases h:g=k
   ·have hb:(g==k)=true:=beq_iff_eq.mpr h;simp only[List.lookup,hb,if_neg (fun e:g=f=>hk (h.symm.trans e))]
   ·have hb:(g==k)=false:=beq_eq_false_iff_ne.mpr h;simp only[List.lookup,hb];exact ih
theorem kP(f:Str)(v:V):∀ fs:List (Str×V),f∈(iN f v fs).map (·.1)/\∀ g,g∈fs.map (·.1)->g∈(iN f v fs).map (·.1)
 | []=>⟨by simp[iN],fun g h=>by simp at h⟩
 | (k,x)::r=>by
  obtain⟨i1,i2⟩:=kP f v r;rw[show iN f v ((k,x)::r) =(if k=f then(k,v)::r else(k,x)::iN f v r)from rfl]
  by_cases hk:k=f
  ·rw[if_pos hk];subst hk;exact⟨by simp,fun g h=>by simpa using h⟩
  ·rw[if_neg hk];refine⟨?_,fun g h=>?_⟩
   ·rw[List.map_cons];exact List.mem_cons_of_mem _ i1
   ·rw[List.map_cons]at h ⊢;rcases List.mem_cons.mp h with e|e
    ·exact List.mem_cons.mpr (.inl e)
    ·exact List.mem_cons_of_mem _ (i2 g e)
theorem lr(f:Str)(v:V):∀ fs:List (Str×V),(iN f v fs).length<=fs.length+1
 | []=>by simp[iN]
 | (k,x)::r=>by
  have ih:=lr f v r;rw[show iN f v ((k,x)::r) =(if k=f then(k,v)::r else(k,x)::iN f v r)from rfl]
  by_cases hk:k=f
  ·rw[if_pos hk,List.length_cons,List.length_cons];omega
  ·rw[if_neg hk,List.length_cons,List.length_cons];omega
theorem iy.some_of{v:V}{o:Option Value}(r:iy (some v) o):∃ u,o=some u/\RelV v u:=by
 cases o with
 | none=>exact(show False from r).elim
 | some u=>exact⟨u,rfl,r⟩
theorem yN{v:V}{u:Value}(r:RelV v u):W.handedIn u=true:=by
 cases v with
 | non=>cases(show u=Value.none from r);rfl
 | bl b=>cases(show u=Value.bool b from r);rfl
 | int i=>obtain⟨t,e⟩:=(show ∃ t,u=Value.int i t from r);cases e;rfl
 | str x=>obtain⟨t,e⟩:=(show ∃ t,u=Value.str x t from r);cases e;rfl
 | byt b=>obtain⟨t,e⟩:=(show ∃ t,u=Value.bytes b t from r);cases e;rfl
 | flt b=>obtain⟨t,e⟩:=(show ∃ t,u=Value.float b t from r);cases e;rfl
 | ref a=>cases(show u=Value.ref a from r);rfl
 | ty n=>cases(show u=Value.type n from r);rfl
section
variable{P:Program}{w:World}{H H':Hp}{h h':Heap}{a C dx:Addr}{fs fs':List (Str×V)}
theorem xH(hok:HOk P w H h)(e:H a=some (.ins C dx fs)):∃ mA,yX h a dx C mA/\(∀ f,iy (fs.lookup f) (mA f))/\PySem.Within mA (fs.map (·.1))/\fs.length<=1000/\H dx=some (.own a):=by
 obtain⟨d,z,ne,ob,mA,n,r,q⟩:=(show bt P w H h a (.ins C dx fs)from hok a _ e);exact⟨mA,⟨ob,n,ne⟩,r,q,z,d⟩
end
structure Cls(K:W.Frag)(C:Addr):Prop where
 pg:W.plainGet K C Str.empty=true
 hd:W.hasDictIn K C=true
 po:W.plainOver K C=true
 sa:W.findIn K (.ref C) "__setattr__" = some (some (.builtin "object.__setattr__"))
theorem Cls.get{K:W.Frag}{C:Addr}(c:Cls K C)(f:Str):W.plainGet K C f=true:=c.pg
def ft(K:W.Frag)(C:Addr)(f:Str):Prop:=W.findIn K (.ref C) f=some none
theorem ft.Hu{K:W.Frag}{C:Addr}{f:Str}(n:ft K C f):W.takerIn K C f=some none:=by
 unfold W.takerIn;rw[show W.findIn K (.ref C) f=some none from n];rfl
structure Meth(K:W.Frag)(C:Addr)(m:Str)(f:Addr):Prop where
 at_:W.findIn K (.ref C) m=some (some (.ref f))
 fn:W.isFn K (.ref f)=true
 kp:W.keepIn K (.ref f)=true
section
variable{X:Cx}{pins:List (Addr×Obj)}{σ:St}{H:Hp}{s:Shared}{a C dx:Addr}{fs:List (Str×V)}{f:Str}{v:V}{A:Around}{E:Value->Shared->Prop}
theorem v8{b:Bool}{Q:Value->Shared->Prop}(I:Inv X pins σ H s)(e:H a=some (.ins C dx fs))(c:Cls X.K C)(n:ft X.K C f)(l:fs.lookup f=some v)
  (h:∀ u s',Inv X pins σ H s'->RelV v u->Q u s'):wpAny (model X.prog X.w) A (getAttr (.ref a) f b) Q E s:=by
 obtain⟨mA,O,r,_,_,_⟩:=xH I.hok e;obtain⟨u,hu,ru⟩:=iy.some_of (v:=v) (o:=mA f) (by rw[<- l];exact r f)
 exact get_map I.kIn O (c.get f) c.hd n hu (yN ru) (h u _ (I.tok _) ru)
theorem vd{y:V}{u:Value}{Q:Unit->Shared->Prop}(I:Inv X pins σ H s)(e:H a=some (.ins C dx fs))(c:Cls X.K C)(n:ft X.K C f)(hl:fs.length<1000)(ry:RelV y u)
  (h:∀ s',Inv X pins σ (upd H a (.ins C dx (iN f y fs))) s'->Q () s'):wpAny (model X.prog X.w) A (setAttr (.ref a) f u) Q E s:=by
 obtain⟨mA,O,r,wi,_,ho⟩:=xH I.hok e;have hz:(fs.map (·.1)).length<=sizeLine:=by rw[List.length_map,sizeLine_eq];omega
 refine Cy I.kIn O c.sa c.po n.Hu c.hd wi hz fun h' O' sb=>h _ ?_
 have hd:∃ o,h'.get? dx=some o:=let⟨o,_,_,e',_⟩:=O'.ns;⟨o,e'⟩
 refine I.write (x:=a) (e:=dx) (by rw[e];exact True.intro) (.inr ho) (fun b q hb z=>(sb.2 b hb).trans z) hd ?_
 refine⟨by rw[aj O.ne];exact ho,?_,O.ne,O'.obj,_,O'.ns,fun g=>?_,fun g hg=>?_⟩
 ·have:=lr f y fs;omega
 ·show iy ((iN f y fs).lookup g) (if g=f then some u else mA g)
  rw[lj];by_cases q:g=f
  ·rw[if_pos q,if_pos q];exact ry
  ·rw[if_neg q,if_neg q];exact r g
 ·by_cases q:g=f
  ·rw[q];exact(kP f y fs).1
  ·refine(kP f y fs).2 g (wi g fun z=>hg ?_)
   show(if g=f then some u else mA g)=none
   rw[if_neg q];exact z
theorem Inv.made(I:Inv X pins σ H s):Inv X pins σ (upd (upd H s.heap.objs.size (.own (s.heap.objs.size+1))) (s.heap.objs.size+1) (.ins C s.heap.objs.size []))
  { s with heap:=(s.heap.push W.emptyDict).push (W.instObj C s.heap.objs.size) }:=by
 have e1:(s.heap.push W.emptyDict).get? s.heap.objs.size=some W.emptyDict:=Heap.get?_push_size s.heap rfl;have e2:((s.heap.push W.emptyDict).push (W.instObj C s.heap.objs.size)).get? (s.heap.objs.size+1)=some (W.instObj C s.heap.objs.size):=by
  have:=Heap.get?_push_size (s.heap.push W.emptyDict) (o:=W.instObj C s.heap.objs.size) rfl
  rwa [Heap.size_push]at this
 have e3:(s.heap.push W.emptyDict).Ns s.heap.objs.size (fun _=>none):=⟨W.emptyDict,#[],_,e1,rfl,(fun e he=>absurd he (by simp)),fun _=>rfl⟩
 have I1:=I.laid (a:=s.heap.objs.size) (o:=.own (s.heap.objs.size+1)) (h':=s.heap.push W.emptyDict) (t':=s.toks) (fun b u q=>Heap.get?_push_of_some _ q) (Nat.le_refl _) ⟨_,e1⟩
 refine I1.laid (a:=s.heap.objs.size+1) (o:=.ins C s.heap.objs.size []) (t':=s.toks) (fun b u q=>Heap.get?_push_of_some _ q) (Nat.le_of_eq (Heap.size_push _ _)) ?_
 have ne:s.heap.objs.size≠s.heap.objs.size+1:=Nat.ne_of_lt (Nat.lt_succ_self _);refine⟨by rw[aj ne,au],Nat.zero_le _,ne,e2,fun _=>none,(Heap.Ns1.of_empty e3).at fun o q=>Heap.get?_push_of_some _ q,fun _=>True.intro,fun y hy=>absurd rfl hy⟩
theorem EF{prog:Program}{w:World}{env:Env}{e:Expr}{f:Str}{pos:Pos}{s:Shared}{Q:Value->Shared->Prop}(hb:attributeBase e f env (eval e env)=eval e env)
  (h:wpAny (model prog w) A (eval e env) (fun o s₁=>wpAny (model prog w) A (getAttr o f true) Q E s₁) E s):wpAny (model prog w) A (eval (.Attribute e f pos) env) Q E s :=
 Attribute_any_ h (by rw[arm_eval_Attribute,hb])
end
def Jo(K:W.Frag)(ta tv:TE)(f:Str):TS:=fun D σ H=>tv σ H fun y H1=>ta σ H1 fun x H2=>∃ a C dx fs,x = .ref a/\H2 a=some (.ins C dx fs)/\Cls K C/\ft K C f/\fs.length<1000 /\
 D.nx σ (upd H2 a (.ins C dx (iN f y fs)))
section
variable{X:Cx}{o e value:Expr}{f:Str}{pos pos' Jl:Pos}{ta tv:TE}
theorem vo(ha:PE X o ta)(hv:PE X value tv)(hs:swapsWith value (some (.Attribute o f pos')) pos.line X.env=pure false):PS X (.Assign [.Attribute o f pos'] value pos) (Jo X.K ta tv f):=by
 intro pins s σ H D I h;refine plainObj_wpAny_Assign_Attribute (thn (hv pins s σ H _ I h) fun u s1 ⟨y,H1,I1,ry,q⟩=>thn (ha pins s1 σ H1 _ I1 q) fun ov s2 hPP=>?_) hs
 obtain⟨x,H2,I2,rx,a,C,dx,fs,ex,ea,c,n,l,q2⟩:=hPP;subst ex;obtain rfl:ov=Value.ref a:=rx;exact vd I2 ea c n l ry fun s3 I3=>⟨σ,_,I3,q2⟩
end
structure cU(k:Nat)(A:Around):Prop where
 hd:A.handled=none
 dp:A.depth+3*k+5<recursionLimit
 un:A.units+16*k+200<cLine
theorem cU.mono{j k:Nat}{A:Around}(r:cU k A)(h:j<=k):cU j A:=⟨r.hd,by have:=r.dp;omega,by have:=r.un;omega⟩
theorem cU.deeper{k:Nat}{A:Around}(r:cU (k+1) A)(env:Env):cU k (A.deeper env) :=
 ⟨r.hd,by have:=r.dp;show A.depth+1+3*k+5<_;omega,by have:=r.un;show A.units+3+16*k+200<_;omega⟩
theorem vF{A:Around}{C:Addr}{us:List Value}{kw:List (Str×Value)}:(A.under (.builtin "type.__call__" ⟨.ref C::us,kw⟩)).depth=A.depth+1:=by
 first|rfl|simp[Around.under,Code.weight,Code.isCreation,Code.isGuard,Code.isCaller,Code.frames,Code.isFrame,guardIds]
theorem vE{A:Around}{C:Addr}{us:List Value}{kw:List (Str×Value)}:(A.under (.builtin "type.__call__" ⟨.ref C::us,kw⟩)).units=A.units+1:=by
 first|rfl|simp[Around.under,Code.cUnits,Code.frames,Code.isFrame]
theorem cU.make{k:Nat}{A:Around}(r:cU (k+1) A)(C:Addr)(us:List Value)(kw:List (Str×Value)):cU k (A.under (.builtin "type.__call__" ⟨.ref C::us,kw⟩)) :=
 ⟨r.hd,by have:=r.dp;rw[vF];omega,by have:=r.un;rw[vE];omega⟩
theorem cU.depth{k:Nat}{A:Around}(r:cU k A):A.depth<recursionLimit:=by have:=r.dp;omega
theorem cU.units{k:Nat}{A:Around}(r:cU k A):A.units+64<cLine:=by have:=r.un;omega
def n6:TA:=fun _ H Q=>Q [] H
def fA(ta:TE)(tr:TA):TA:=fun σ H Q=>ta σ H fun x H1=>tr σ H1 fun xs H2=>Q (x::xs) H2
section
variable{X:Cx}{e:Expr}{es:List Expr}{te:TE}{t:TA}{pos:Pos}
theorem fU:PA X [] n6:=fun _ _ _ _ H Q I h=>Calls.spliced_nil ⟨[],H,I,.nil,h⟩
theorem ck(ha:PE X e te)(hr:PA X es t)(hs:starEach (e::es) X.env =(false,eval e X.env)::starEach es X.env:=by rfl):PA X (e::es) (fA te t):=by
 intro pos pins s σ H Q I h;rw[hs];show wpAny _ _ (spliced ((false,eval e X.env)::backTo pos (starEach es X.env))) _ _ s;refine Calls.spliced_cons (thn (ha pins s σ H _ I h) fun u s1 hPP=>?_)
 obtain⟨x,H1,I1,r1,q1⟩:=hPP;refine thn (hr pos pins s1 σ H1 _ I1 q1) fun us s2 hPP=>?_
 obtain⟨xs,H2,I2,r2,q2⟩:=hPP;exact⟨x::xs,H2,I2,.cons r1 r2,q2⟩
def FD(t:TA):TE:=fun σ H Q=>t σ H fun xs H1=>xs.length<=sizeLine/\∀ p,H1 p=none->Q (.ref p) (upd H1 p (.tup xs))
def Hw(t:TA):TE:=fun σ H Q=>t σ H fun xs H1=>xs.length<=sizeLine/\∀ p,H1 p=none->Q (.ref p) (upd H1 p (.lst xs))
theorem Av{x1}(h:PA X es t):PE X (.Tuple es x1 pos) (FD t):=by
 intro pins s σ H Q I hq;refine wpAny_Tuple_spliced (thn (h pos pins s σ H _ I hq) fun us s1 ⟨xs,H1,I1,r,z,q⟩=>⟨by rw[<- r.length];exact z,?_⟩)
 have hf:H1 s1.heap.objs.size=none:=I1.hok.fresh (Nat.le_refl _);refine⟨.ref s1.heap.objs.size,upd H1 s1.heap.objs.size (.tup xs),I1.laid (t':=s1.toks) (fun b u e=>Heap.get?_push_of_some _ e) (Nat.le_refl _) ?_,rfl,q _ hf⟩
 exact⟨z,us,r,⟨⟨_,Heap.get?_push_size _ rfl,rfl,_,rfl⟩,_,Heap.get?_push_size _ rfl,rfl⟩⟩
theorem Gr(h:PA X es t):PE X (.List es pos) (Hw t):=by
 intro pins s σ H Q I hq;refine wpAny_List_spliced (thn (h pos pins s σ H _ I hq) fun us s1 ⟨xs,H1,I1,r,z,q⟩=>⟨by rw[<- r.length];exact z,?_⟩)
 have hf:H1 s1.heap.objs.size=none:=I1.hok.fresh (Nat.le_refl _);refine⟨.ref s1.heap.objs.size,upd H1 s1.heap.objs.size (.lst xs),I1.laid (t':=s1.toks) (fun b u e=>Heap.get?_push_of_some _ e) (Nat.le_refl _) ?_,rfl,q _ hf⟩
 exact⟨z,us,0,r,Heap.get?_push_size _ rfl⟩
end
abbrev Sp:=List V->Hp->VK->XK->Prop
abbrev CXT:=List Env->Hp->Shared->XK->Value->Shared->Prop
structure wQ(P:Program)(w:World)(K:W.Frag)(mg:Str->Option Value)(base:Heap)(A:Around)(outer:List Env)(s:Shared)(H:Hp):Prop where
 frames:A.frames=some outer
 mod:Mod K mg base
 bs:∀ b o,base.get? b=some o->s.heap.get? b=some o/\H b=none
 bsz:base.objs.size<=s.heap.objs.size
 lN:s.heap.FunFrames base outer
 frf:∀ b∈frs outer,H b=none
 hok:HOk P w H s.heap
 bare:AllBare s.gens
def CE(outer:List Env)(P:Program)(w:World)(H:Hp)(s:Shared)(Q:VK)(u:Value)(s':Shared):Prop :=
 ∃ v H',s'.os=s.os/\AllBare s'.gens/\Un (frs outer) [] H H' s.heap s'.heap/\HOk P w H' s'.heap/\RelV v u/\Q v H'
def CR(CX:CXT)(outer:List Env)(P:Program)(w:World)(H:Hp)(s:Shared)(Q:VK)(E:XK)(r:Result)(s':Shared):Prop :=
 match r with
 | .ok (.ret u)=>CE outer P w H s Q u s'
 | .ok _=>False
 | .error e=>CX outer H s E e s'
structure aH(P:Program)(w:World)(K:W.Frag)(mg:Str->Option Value)(base:Heap)(CX:CXT)(k:Nat)(f:Addr)(fd:FuncData)(ps:List Str)(sp:Sp):Prop where
 len:∀ vs H Q E,sp vs H Q E->vs.length=ps.length
 run:∀(A:Around)(outer:List Env)(s:Shared)(H:Hp)(args:Args)(us:List Value)(vs:List V)(Q:VK)(E:XK),cU k A->wQ P w K mg base A outer s H->BindsTo s fd args (ps.zip us)->Vals vs us->sp vs H Q E ->
  codeAny (model P w) A (.call (.ref f) args) (CR CX outer P w H s Q E) s
theorem aH.imp{P:Program}{w:World}{K:W.Frag}{mg:Str->Option Value}{base:Heap}{CX:CXT}{k:Nat}{f:Addr}{fd:FuncData}{ps:List Str}{sp sp':Sp}(F:aH P w K mg base CX k f fd ps sp)
  (h:∀ vs H Q E,sp' vs H Q E->sp vs H Q E):aH P w K mg base CX k f fd ps sp' :=
 ⟨fun vs H Q E q=>F.len vs H Q E (h _ _ _ _ q),fun A outer s H args us vs Q E hr he hb hv hs=>F.run A outer s H args us vs Q E hr he hb hv (h _ _ _ _ hs)⟩
theorem wQ.make{P:Program}{w:World}{K:W.Frag}{mg:Str->Option Value}{base:Heap}{A:Around}{outer:List Env}{s:Shared}{H:Hp}(e:wQ P w K mg base A outer s H)(C:Addr)(us:List Value)(kw:List (Str×Value)) :
  wQ P w K mg base (A.under (.builtin "type.__call__" ⟨.ref C::us,kw⟩)) outer s H:=⟨by first|exact e.frames |(simpa [Around.under,Code.envs,Code.isFrame,pushEnvs]using e.frames),e.mod,e.bs,e.bsz,e.lN,e.frf,e.hok,e.bare⟩
section
variable{X:Cx}{pins:List (Addr×Obj)}{σ:St}{H:Hp}{s s':Shared}
theorem Inv.IS(I:Inv X pins σ H s):wQ X.prog X.w X.K X.mg X.base X.A X.stack s H :=
 ⟨I.ok.frames,I.ok.mod,I.bs,Nat.le_trans I.ok.bsz I.sz,I.stack,I.wY,I.hok,I.bare⟩
theorem Inv.after{Q:VK}{u:Value}(I:Inv X pins σ H s)(h:CE X.stack X.prog X.w H s Q u s'):EP X pins σ Q u s':=by
 obtain⟨v,H',os,bare,un,hok,r,q⟩:=h;obtain⟨hh,g,d,t,os'⟩:=s';obtain rfl:os'=s.os:=os;exact⟨v,H',I.call (h':=hh) (g':=g) (d':=d) (t':=t) (ch:=[]) un hok bare (fun b z=>absurd z (by simp)),r,q⟩
end
def pz(sp:Sp)(dvs:List V)(E:XK)(t:TA):TE:=fun σ H Q=>t σ H fun vs H1=>sp (vs++dvs) H1 Q E
def Binds(K:W.Frag)(fd:FuncData)(ps:List Str)(ds:List Value):Prop :=
 ∀(s:Shared)(us:List Value),K.In s.heap ->(us++ds).length=ps.length->BindsTo s fd ⟨us,[]⟩ (ps.zip (us++ds))
theorem Binds.all{K:W.Frag}{fd:FuncData}{ps:List Str}(h:∀ us:List Value,us.length=ps.length->bindArgs fd ⟨us,[]⟩=pure (ps.zip us)):Binds K fd ps []:=fun s us _ hl=>by
 rw[List.append_nil]at hl ⊢;exact .of_eq (h us hl)
def Passes(CX:CXT)(X:Cx)(E:XK):Prop:=∀(pins:List (Addr×Obj))(σ:St)(H:Hp)(s:Shared)(e:Value)(s':Shared),Inv X pins σ H s->CX X.stack H s E e s'->X.xe e s'
section
variable{X:Cx}{CX:CXT}{k:Nat}{f C:Addr}{fd:FuncData}{ps:List Str}{sp:Sp}{dvs:List V}{ds:List Value}{E:XK}{x m:Str}{p pos apos:Pos}{e o:Expr}{es:List Expr}{ta:TE}{t:TA}
theorem FR{pins:List (Addr×Obj)}{σ:St}{H:Hp}{s:Shared}{Q:VK}{us:List Value}{vs:List V}(F:aH X.prog X.w X.K X.mg X.base CX k f fd ps sp)(hr:cU k X.A)(hb:Binds X.K fd ps ds)(hd:Vals dvs ds)(hx:Passes CX X E)
  (I:Inv X pins σ H s) (r:Vals vs us) (h:sp (vs++dvs) H Q E):wpAny (model X.prog X.w) X.A (call (.ref f) us) (EP X pins σ Q) X.xe s:=by
 have r2:Vals (vs++dvs) (us++ds):=r.append hd;have hl:(us++ds).length=ps.length:=by rw[<- r2.length];exact F.len _ _ _ _ h
 refine wpAny_call (codeAny_mono (F.run X.A X.stack s H ⟨us,[]⟩ (us++ds) (vs++dvs) Q E hr I.IS (hb s us I.kIn hl) r2 h) fun r s' hq=>?_)
 cases r with
 | error e=>exact hx pins σ H s e s' I hq
 | ok fl =>
  cases fl with
  | ret u=>exact I.after hq
  | next=>exact False.elim hq
  | brk=>exact False.elim hq
  | cont=>exact False.elim hq
theorem rf(F:aH X.prog X.w X.K X.mg X.base CX k f fd ps sp)(hr:cU k X.A)(hg:Gl X x)(hm:X.mg x=some (.ref f))(hk:W.keepIn X.K (.ref f)=true)(hb:Binds X.K fd ps ds)(hd:Vals dvs ds)(hx:Passes CX X E)
  (ha:PA X (e::es) t) (hdb:(x ==("__debug__":Str))=false:=by decide) (he:starEach (e::es) X.env =(false,eval e X.env)::starEach es X.env:=by rfl) (hpl:(backTo pos (starEach es X.env)).any (·.1)=false:=by rfl) :
  PE X (.Call (.Name x p) (e::es) [] pos) (pz sp dvs E t):=by
 intro pins s σ H Q I h;refine wpAny_Call_Name_kw (xD I hg hm ?_ hdb);refine W.callWith_K (h₀:=X.base) I.ok.mod.kin hk (thn (ha pos pins s σ H _ I h) fun us s1 ⟨vs,H1,I1,r,q⟩=>⟨I1.kIn,?_⟩) he hpl
 exact FR F hr hb hd hx I1 r q
structure Mk(K:W.Frag)(C f:Addr):Prop where
 makes:W.makesIn K C=true
 init:W.findIn K (.ref C) "__init__" = some (some (.ref f))
 fn:W.isFn K (.ref f)=true
 kp:W.keepIn K (.ref C)=true
theorem zM{pins:List (Addr×Obj)}{σ:St}{H:Hp}{s:Shared}{Q:VK}{us:List Value}{vs:List V}(M:Mk X.K C f)(F:aH X.prog X.w X.K X.mg X.base CX k f fd ps sp)(hr:cU (k+1) X.A)(hb:Binds X.K fd ps ds)(hd:Vals dvs ds)
  (hx:Passes CX X E) (I:Inv X pins σ H s) (r:Vals vs us)
  (h:∀ x dx,H x=none->H dx=none->dx≠x->sp (.ref x ::(vs++dvs)) (upd (upd H dx (.own x)) x (.ins C dx [])) (fun v H2=>v = .non/\Q (.ref x) H2) E) :
  wpAny (model X.prog X.w) X.A (call (.ref C) us) (EP X pins σ Q) X.xe s:=by
 have hq:=h (s.heap.objs.size+1) s.heap.objs.size (I.hok.fresh (Nat.le_succ _)) (I.hok.fresh (Nat.le_refl _)) (Nat.ne_of_lt (Nat.lt_succ_self _));have I2:=Inv.made (C:=C) I;have r2:Vals (V.ref (s.heap.objs.size+1) ::(vs++dvs)) (Value.ref (s.heap.objs.size+1) ::(us++ds)):=.cons rfl (r.append hd);have hl:(Value.ref (s.heap.objs.size+1)::us++ds).length=ps.length:=by
  have e:=r2.length;rw[F.len _ _ _ _ hq]at e;exact e.symm
 refine wpAny_call (A3 (f:=f) I.kIn M.makes M.init (beq_iff_eq.mp M.fn) (codeAny_mono (F.run _ X.stack _ _ ⟨Value.ref (s.heap.objs.size+1)::us,[]⟩ (Value.ref (s.heap.objs.size+1) ::(us++ds)) _ _ E (hr.make C us [])
  (I2.IS.make C us []) (hb _ (Value.ref (s.heap.objs.size+1)::us) I2.kIn hl) r2 hq) fun r s' hq'=>?_))
 cases r with
 | error e=>exact hx pins σ _ _ e s' I2 hq'
 | ok fl =>
  cases fl with
  | ret u =>
   obtain⟨v,H',I3,rv,ev,q3⟩:=I2.after hq';subst ev;exact⟨rv,⟨V.ref (s.heap.objs.size+1),H',I3,rfl,q3⟩⟩
  | next=>exact False.elim hq'
  | brk=>exact False.elim hq'
  | cont=>exact False.elim hq'
end
structure aP(N P:List Str)(sc:Scope):Prop where
 kind:sc.kind = .function
 co:sc.isCoroutine=false
 gen:sc.isGenerator=false
 nd:N.Nodup
 pre:N.take P.length=P
 par:∀ x∈P,sc.names.lookup x=some .local\/sc.names.lookup x=some .cell
 GI:∀ y∈sc.names,y.2 ≠ .free
theorem pS{kindOf:Str->Option NameKind}{x:Str}:∀{binds:List (Str×Value)}{m:Str->Option Value},(∀ v,(x,v) ∉ binds)->bindL kindOf binds m x=m x
 | [],_,_=>rfl
 | (n,v)::r,m,h=>by
  unfold bindL;rw[pS fun w hw=>h w (List.mem_cons_of_mem _ hw)]
  split
  ·have:x≠n:=by rintro rfl;exact h v List.mem_cons_self
   simp[this]
  ·rfl
theorem pU{kindOf:Str->Option NameKind}{x:Str}:∀{binds:List (Str×Value)}{m:Str->Option Value},(∀ v,(x,v) ∉ binds)->bindC kindOf binds m x=m x
 | [],_,_=>rfl
 | (n,v)::r,m,h=>by
  unfold bindC;rw[pU fun w hw=>h w (List.mem_cons_of_mem _ hw)]
  split
  ·rfl
  ·have:x≠n:=by rintro rfl;exact h v List.mem_cons_self
   simp[this]
theorem pT{kindOf:Str->Option NameKind}{x:Str}{v:Value}:∀{P:List Str}{vs:List Value}{i:Nat}{m:Str->Option Value},P.Nodup->P[i]? = some x->vs[i]? = some v->kindOf x=some .local ->
  bindL kindOf (P.zip vs) m x=some v
 | [],_,_,_,_,h,_,_=>by simp at h
 | _::_,[],_,_,_,_,h,_=>by simp at h
 | p::P,w::vs,0,m,nd,h1,h2,hk=>by
  simp at h1 h2;subst h1;subst h2;show bindL kindOf ((p,w)::P.zip vs) m p=_;unfold bindL;rw[pS fun v hv=>(List.nodup_cons.mp nd).1 (List.of_mem_zip hv).1,if_pos hk]
  simp
 | p::P,w::vs,i+1,m,nd,h1,h2,hk=>by
  show bindL kindOf ((p,w)::P.zip vs) m x=_;unfold bindL;exact pT (i:=i) (List.nodup_cons.mp nd).2 (by simpa using h1) (by simpa using h2) hk
theorem pV{kindOf:Str->Option NameKind}{x:Str}{v:Value}:∀{P:List Str}{vs:List Value}{i:Nat}{m:Str->Option Value},P.Nodup->P[i]? = some x->vs[i]? = some v->kindOf x≠some .local ->
  bindC kindOf (P.zip vs) m x=some v
 | [],_,_,_,_,h,_,_=>by simp at h
 | _::_,[],_,_,_,_,h,_=>by simp at h
 | p::P,w::vs,0,m,nd,h1,h2,hk=>by
  simp at h1 h2;subst h1;subst h2;show bindC kindOf ((p,w)::P.zip vs) m p=_;unfold bindC;rw[pU fun v hv=>(List.nodup_cons.mp nd).1 (List.of_mem_zip hv).1,if_neg hk]
  simp
 | p::P,w::vs,i+1,m,nd,h1,h2,hk=>by
  show bindC kindOf ((p,w)::P.zip vs) m x=_;unfold bindC;exact pV (i:=i) (List.nodup_cons.mp nd).2 (by simpa using h1) (by simpa using h2) hk
def start(N:List Str)(vs:List V):St:=vs.map some++List.replicate (N.length - vs.length) none
def oT(CX:CXT)(P:Program)(w:World)(K:W.Frag)(mg:Str->Option Value)(base:Heap)(N:List Str)(qual:Str)(scope:Scope)(f:Addr)(cd:Value)(A:Around)(outer:List Env)(s:Shared)(H:Hp)(E:XK):Cx where
 prog:=P
 w:=w
 K:=K
 mg:=mg
 base:=base
 A:=A.deeper (envOfC qual scope s.heap.objs.size f cd)
 N:=N
 s₀:=s
 H₀:=H
 env:=envOfC qual scope s.heap.objs.size f cd
 outer:=outer
 stack:=envOfC qual scope s.heap.objs.size f cd::outer
 ex:=[]
 calm:=true
 fn:=fun _=>true
 pn:=[]
 xe:=fun e s'=>wpAny (model P w) (A.deeper (envOfC qual scope s.heap.objs.size f cd)) (leaving (envOfC qual scope s.heap.objs.size f cd) e) (fun _ s''=>CX outer H s E e s'') (fun e' s''=>CX outer H s E e' s'') s'
theorem uJ{sc:Scope}{n:Nat}{x:Str}(h:sc.names.lookup x=some .cell):∃ c,(cellsFrom n sc.names []).lookup x=some c:=by
 have q:=W.cellsFrom_some sc.names n [] (.inl h);exact Option.isSome_iff_exists.mp q
theorem yK{CX:CXT}{P:Program}{w:World}{K:W.Frag}{mg:Str->Option Value}{base:Heap}{N ps:List Str}{qual:Str}{scope:Scope}{f:Addr}{cd:Value}{A:Around}{outer:List Env}{s s1:Shared}{H:Hp}{E:XK}{us:List Value}{vs:List V}
  (S:aP N ps scope) (hd:A.handled=none) (e0:wQ P w K mg base A outer s H) (hl:vs.length=ps.length) (r:Vals vs us)
  (x:InCallC s s.heap.objs.size (bindL (envOfC qual scope s.heap.objs.size f cd).kindOf (ps.zip us) fun _=>none) (cellsFrom (s.heap.objs.size+1) scope.names []) (bindC (envOfC qual scope s.heap.objs.size f cd).kindOf (ps.zip us) fun _=>none) s1) :
  Inv (oT CX P w K mg base N qual scope f cd A outer s H E) [] (start N vs) H s1:=by
 have hpl:ps.length<=N.length:=by have:=congrArg List.length S.pre;rw[List.length_take]at this;omega
 obtain⟨h1,tk,rfl,hk⟩:=x.done;have noA:∀ b:Addr,b ∉ (oT CX P w K mg base N qual scope f cd A outer s H E).ex:=fun b z=>absurd (show b∈([]:List Addr)from z) (by simp)
 refine⟨⟨e0.mod,S.kind,rfl,rfl,Nat.le_refl _,fun y z c h1 h2=>?_,fun y hy=>?_,fun y c _ h=>?_,fun _=>hd,Around.frames_deeper e0.frames,.inr ⟨rfl,rfl⟩,fun b z=>absurd z (noA b),e0.bs,e0.bsz,fun b _ _=>noA b,fun b z=>absurd z (noA b),e0.lN,e0.frf⟩,
  rfl,e0.bare,Un.kept hk,⟨_,x.toInCall.ns,fun i y v h1 h2 h3=>?_⟩,fun y c h=>⟨_,x.cell y c h⟩,e0.hok.fresh (Nat.le_refl _),fun y c h=>?_,fun p hp=>absurd (show p∈([]:List (Addr×Obj))from hp) (by simp),e0.hok.kept hk,?_⟩
 ·exact name_of_addr x.apart (PySem.mem_of_lookup h1) (PySem.mem_of_lookup h2)
 ·have hy:scope.names.lookup y=some .cell\/scope.names.lookup y=some .free:=hy;rcases hy with hy|hy
  ·exact uJ hy
  ·exact absurd rfl (S.GI _ (PySem.mem_of_lookup hy))
 ·exact Nat.le_of_lt (x.above y c (PySem.mem_of_lookup h))
 ·have hi:i<vs.length:=by
   unfold start at h2;by_cases hi:i<vs.length
   ·exact hi
   ·rw[List.getElem?_append_right (by simpa using hi)]at h2
    rw[List.getElem?_replicate]at h2
    split at h2 <;> cases h2
  have ha:vs[i]? = some v:=by
   unfold start at h2;rw[List.getElem?_append_left (by simpa using hi),List.getElem?_map]at h2
   cases e:vs[i]? with
   | none=>rw[e]at h2;cases h2
   | some a=>rw[e]at h2;cases h2;rfl
  obtain⟨u,hu,rv⟩:=r.get ha;have hp:ps[i]? = some y:=by
   rw[<- S.pre,List.getElem?_take_of_lt (by omega)];exact h1
  have ndP:ps.Nodup:=by rw[<- S.pre];exact S.nd.sublist (List.take_sublist _ _)
  refine⟨u,rv,?_⟩;rcases S.par y (List.mem_of_getElem? hp)with k|k
  ·exact .inl ⟨k,pT ndP hp hu k⟩
  ·obtain⟨c,e⟩:=uJ (n:=s.heap.objs.size+1) k;refine .inr ⟨.inl k,c,e,?_⟩;have q:=x.cell y c e;rw[pV ndP hp hu (by show scope.names.lookup y≠_;rw[k];decide)]at q
   exact q
 ·exact e0.hok.fresh (Nat.le_of_lt (x.above y c (PySem.mem_of_lookup h)))
 ·unfold start;show _=N.length;rw[List.length_append,List.length_map,List.length_replicate];omega
theorem IQ{CX:CXT}{P:Program}{w:World}{K:W.Frag}{mg:Str->Option Value}{base:Heap}{k:Nat}{f:Addr}{name qual:Str}{params:Arguments}{body:List Stmt}{scope:Scope}{dV kV doc pm cdv ct oc:Value}{an od:Option Addr}
  {osl:Array (Option Value)} {N ps:List Str} {sp:Sp} (lk:K.lookup f=some ⟨oc,od,.func (W.fnOf name qual params body scope dV kV doc pm an cdv ct),osl⟩) (hcd:W.codeIn K cdv qual=true) (S:aP N ps scope)
  (len:∀ vs H Q E,sp vs H Q E->vs.length=ps.length)
  (jO:∀(A:Around)(outer:List Env)(s:Shared)(H:Hp)(vs:List V)(Q:VK)(E:XK),cU k (A.deeper (envOfC qual scope s.heap.objs.size f cdv))->sp vs H Q E ->
   ∃ t,PSs (oT CX P w K mg base N qual scope f cdv A outer s H E) body t/\t { nx:=fun _ H'=>Q .non H',rt:=Q } (start N vs) H) :
  aH P w K mg base CX (k+1) f (W.fnOf name qual params body scope dV kV doc pm an cdv ct) ps sp:=by
 refine⟨len,fun A outer s H args us vs Q E hr e0 hb r hsp=>?_⟩
 have hl:=len _ _ _ _ hsp;have KX:K.In s.heap:=e0.mod.kin.keeps fun b o e=>(e0.bs b o e).1
 have lim:s.heap.NoLimit:=e0.mod.nolimit.keeps fun b o e=>(e0.bs b o e).1
 have fF:∀ y∈ps.zip us,scope.names.lookup y.1=some .local\/(scope.names.lookup y.1=some .cell/\((cellsFrom (s.heap.objs.size+1) scope.names []).lookup y.1).isSome=true):=fun⟨n,v⟩ hy=>by
  rcases S.par n (List.of_mem_zip hy).1 with q|q
  ·exact .inl q
  ·exact .inr ⟨q,W.cellsFrom_some _ _ _ (.inl q)⟩
 refine codeAny_call_function hr.depth (KX _ _ lk) rfl S.co S.gen rfl (W.codeRec_of KX hcd) (hb _ _ _ _ ?_);refine wpAny_newFunctionEnv_cells S.kind fF fun env he s1 x=>?_
 subst he;refine⟨lim.keeps x.toInCall.keep,codeAny_func ?_⟩;obtain⟨t,ht,hq⟩:=jO A outer s H vs Q E (hr.deeper _) hsp;have I:Inv (oT CX P w K mg base N qual scope f cdv A outer s H E) [] (start N vs) H s1:=yK S hr.hd e0 hl r x;refine wpAny_mono (ht [] s1 (start N vs) H _ I hq) (fun fl s' hs=>?_) fun e s' hs=>hs
 have fin:∀{σ':St}{H':Hp}{v:V}{u:Value},Inv (oT CX P w K mg base N qual scope f cdv A outer s H E) [] σ' H' s'->RelV v u->Q v H'->CE outer P w H s Q u s' :=
  fun{σ' H' v u} J rv q=>⟨v,H',J.os,J.bare,J.base,J.hok,rv,q⟩
 cases fl with
 | ret u =>
  obtain⟨v,σ',H',J,rv,q⟩:=hs;exact fin J rv q
 | next =>
  obtain⟨σ',H',J,q⟩:=hs;exact fin (v:=V.non) (u:=Value.none) J rfl q
 | brk =>
  obtain⟨_,_,_,q⟩:=hs;exact False.elim q
 | cont =>
  obtain⟨_,_,_,q⟩:=hs;exact False.elim q
section
variable{X:Cx}{x:Str}{p pos:Pos}{e:Expr}{es:List Expr}{t:TA}{id T:String}{r:List V->Hp->VK->Prop}
def tCB(r:List V->Hp->VK->Prop)(t:TA):TE:=fun σ H Q=>t σ H fun vs H1=>r vs H1 Q
theorem mY(hc:cW X (.builtin id) r)(hg:Gl X x)(hm:X.mg x=none)(hv:bootBuiltins x=some (.builtin id))(ha:PA X (e::es) t)(hn:x ≠ "__name__":=by decide)(hdb:(x ==("__debug__":Str))=false:=by decide)
  (he:starEach (e::es) X.env =(false,eval e X.env)::starEach es X.env:=by rfl) (hpl:(backTo pos (starEach es X.env)).any (·.1)=false:=by rfl):PE X (.Call (.Name x p) (e::es) [] pos) (tCB r t):=by
 intro pins s σ H Q I h;refine wpAny_Call_Name_kw (jb I hg hm hv ?_ hn hdb);exact PyProof.Rows.callWith_builtin1 (thn (ha pos pins s σ H _ I h) fun us s1 ⟨vs,H1,I1,r1,q1⟩=>hc pins s1 σ H1 vs us Q I1 r1 q1) he hpl
theorem yu(hc:cW X (.type T) r)(hg:Gl X x)(hm:X.mg x=none)(hv:bootBuiltins x=some (.type T))(ha:PA X (e::es) t)(hn:x ≠ "__name__":=by decide)(hdb:(x ==("__debug__":Str))=false:=by decide)
  (he:starEach (e::es) X.env =(false,eval e X.env)::starEach es X.env:=by rfl) (hpl:(backTo pos (starEach es X.env)).any (·.1)=false:=by rfl):PE X (.Call (.Name x p) (e::es) [] pos) (tCB r t):=by
 intro pins s σ H Q I h;refine wpAny_Call_Name_kw (jb I hg hm hv ?_ hn hdb);exact PyProof.Rows.callWith_type1 (thn (ha pos pins s σ H _ I h) fun us s1 ⟨vs,H1,I1,r1,q1⟩=>hc pins s1 σ H1 vs us Q I1 r1 q1) he hpl
end
end L2
namespace HT
open PySem PyProof.Rows
section
variable{prog:Program}{w:World}{A:Around}{E:Value->Shared->Prop}{s:Shared}
theorem ED{t b:Addr}{vs ws:List Value}{Q:Value->Shared->Prop}(ht:IsTup s.heap t vs.toArray)(hb:IsTup s.heap b ws.toArray)(hv:vs ≠ [])
  (h1:ws = []->Q (.ref t) s) (h2:ws ≠ []->Q (.ref s.heap.objs.size) { s with heap:=s.heap.push { cls:=.type "tuple",data:=.seq (vs++ws).toArray } })
  (hsz:vs.length+ws.length<=sizeLine):wpAny (model prog w) A (binaryOp .Add (.ref t) (.ref b)) Q E s:=by
 obtain⟨⟨cls,dd,data,sl⟩,ho,hc,n,hd⟩:=id ht;obtain⟨⟨JZ,dd2,data2,sl2⟩,ho2,hc2,n2,hd2⟩:=id hb;simp only at hc hd hc2 hd2;subst hc hd hc2 hd2;have e:vs.toArray++ws.toArray =(vs++ws).toArray:=by simp
 by_cases hw:ws = []
 ·exact concat_meets ⟨_,ho,rfl⟩ ⟨_,ho2,rfl⟩ noFill_tuple_add seq_tuple_add PySem.F.slot_tuple_add PySem.F.entry_tuple_add (PySem.F.args_tuple_add_2 _ _)
   (tuple_addW1 t b vs.toArray ws.toArray n n2 dd dd2 sl sl2 (by simpa using hv) (by simp[hw])) ⟨ho,ho2,h1 hw⟩
 ·refine concat_meets ⟨_,ho,rfl⟩ ⟨_,ho2,rfl⟩ noFill_tuple_add seq_tuple_add PySem.F.slot_tuple_add PySem.F.entry_tuple_add (PySem.F.args_tuple_add_2 _ _)
   (tuple_addW2 t b vs.toArray ws.toArray n n2 dd dd2 sl sl2 (by simpa using hv) (by simpa using hw) (by rw[List.size_toArray,List.size_toArray];exact hsz)) ⟨ho,ho2,?_⟩
  rw[e];exact h2 hw
def sIx(n d:Nat):Option Int->Nat
 | none=>d
 | some v=>if v<0 then(v+(n:Int)).toNat else min v.toNat n
theorem zK(n d:Nat):sIx n d none=d:=rfl
theorem xb(n d k:Nat):sIx n d (some (k:Int))=min k n:=by
 show(if(k:Int)<0 then((k:Int)+(n:Int)).toNat else min (k:Int).toNat n)=min k n
 rw[if_neg (by omega),Int.toNat_natCast]
theorem FQ(n d:Nat)(hd:d<=n)(o:Option Int):sIx n d o<=n:=by
 cases o with
 | none=>exact hd
 | some v =>
  show(if v<0 then(v+(n:Int)).toNat else min v.toNat n)<=n
  by_cases hv:v<0
  ·rw[if_pos hv];omega
  ·rw[if_neg hv];exact Nat.min_le_right _ _
theorem IY(a:Int)(n:Nat)(h0:0<=a):min a (n:Int) =((min a.toNat n:Nat):Int):=by
 by_cases h:a<=n
 ·rw[Int.min_eq_left h,Nat.min_eq_left (Int.toNat_le.mpr h),Int.toNat_of_nonneg h0]
 ·have h':=Int.le_of_lt (Int.not_le.mp h);rw[Int.min_eq_right h',Nat.min_eq_right ((Int.le_toNat h0).mpr h')]
theorem zr(n:Nat)(i:Int)(h:i<0):max 0 (min (i+(n:Int)) n) =((i+n).toNat:Int):=by
 rw[Int.min_eq_left (Int.add_le_of_le_sub_right (by rw[Int.sub_self];exact Int.le_of_lt h)),Int.max_comm,Int.ofNat_toNat]
theorem zq(n:Nat)(i:Int)(h:¬ i<0):max 0 (min i (n:Int)) =((min i.toNat n:Nat):Int):=by
 rw[IY i n (Int.not_lt.mp h),Int.max_eq_right (Int.natCast_nonneg _)]
theorem xT(v:Int)(n d:Nat):(if v<0 then max (v+(n:Int)) 0 else min v (n:Int)) =((sIx n d (some v):Nat):Int):=by
 show(if v<0 then max (v+(n:Int)) 0 else min v (n:Int)) =(((if v<0 then(v+(n:Int)).toNat else min v.toNat n):Nat):Int)
 by_cases hv:v<0
 ·rw[if_pos hv,if_pos hv];exact(Int.ofNat_toNat _).symm
 ·rw[if_neg hv,if_neg hv];exact IY v n (Int.not_lt.mp hv)
theorem wG(lo hi:Option Int)(n:Nat):Builtin.Slice.sliceAdjust lo hi 1 (n:Int) =(((sIx n 0 lo:Nat):Int),((sIx n n hi:Nat):Int)):=by
 have h1:¬((1:Int)<0):=by omega
 unfold Builtin.Slice.sliceAdjust;simp only[h1,if_false];refine Prod.ext ?_ ?_
 ·cases lo with
  | none=>rfl
  | some v=>exact xT v n 0
 ·cases hi with
  | none=>rfl
  | some v=>exact xT v n n
theorem vq(i j:Nat):Builtin.Slice.slicePlaces (i:Int) (j:Int) 1=j - i:=by
 unfold Builtin.Slice.slicePlaces;have h1:(1:Int) > 0:=by omega
 simp only[h1,if_true,Int.ediv_one]
 split <;> omega
theorem mE{v:Value}{o:Option Int}{Q:Option Int->Shared->Prop}(p:IsPart v o)(h:Q o s):wpAny (model prog w) A (Builtin.Slice.slicePartIndex v) Q E s:=by
 cases p with
 | none=>exact slicePart_none h
 | int i t=>exact slicePart_int h
theorem fB{sl:Addr}{vl vu:Value}{lo hi:Option Int}{n:Nat}{Q:Int×Int×Nat->Shared->Prop}(hs:s.heap.IsSliceOf sl vl vu .none)(pl:IsPart vl lo)(pu:IsPart vu hi)
  (h:Q (((sIx n 0 lo:Nat):Int),1,sIx n n hi - sIx n 0 lo) s):wpAny (model prog w) A (Builtin.Slice.sliceApplied (.ref sl) (pure (n:Int))) Q E s:=by
 obtain⟨os,hos,hcs,hds⟩:=id hs;unfold Builtin.Slice.sliceApplied Builtin.Slice.sliceFields;refine wpAny_bind (wpAny_bind (wpAny_field hos hds (x:=vl) rfl (wpAny_bind (wpAny_field hos hds (x:=vu) rfl (wpAny_bind (wpAny_field hos hds (x:=.none) rfl (wpAny_pure ?_)))))));refine wpAny_bind (slicePart_none ?_);show wpAny _ _ (if((1:Int)==0)=true then _ else _) _ _ s
 rw[if_neg (by decide)]
 refine wpAny_bind (mE pl (wpAny_bind (mE pu (wpAny_bind (wpAny_pure ?_)))));show wpAny _ _ (match Builtin.Slice.sliceAdjust lo hi 1 (n:Int)with |(lo,hi)=>pure (lo,(1:Int),Builtin.Slice.slicePlaces lo hi 1)) _ _ s
 rw[wG lo hi n];show wpAny _ _ (pure (((sIx n 0 lo:Nat):Int),(1:Int),Builtin.Slice.slicePlaces ((sIx n 0 lo:Nat):Int) ((sIx n n hi:Nat):Int) 1)) _ _ s;rw[vq];exact wpAny_pure h
theorem Ar(xs:Array Value)(i k:Nat):((List.range k).filterMap fun(m:Nat)=>xs[((i:Int)+(m:Int)*1).toNat]?).toArray =((xs.toList.drop i).take k).toArray:=by
 have e:(fun(m:Nat)=>xs[((i:Int)+(m:Int)*1).toNat]?)=fun m=>xs[i+m]?:=by
  funext m
  have:((i:Int)+(m:Int)*1).toNat=i+m:=by omega
  rw[this]
 rw[e]
 have:=pick_run xs i k
 rw[List.filterMap_map]at this;have e2:((fun x=>xs[x]?) ∘ fun x=>i+x)=fun m=>xs[i+m]?:=rfl
 rw[e2]at this;rw[this]
theorem jP{t sl:Addr}{items:Array Value}{vl vu:Value}{lo hi:Option Int}{Q:Value->Shared->Prop}(ht:IsTup s.heap t items)(hs:s.heap.IsSliceOf sl vl vu .none)(pl:IsPart vl lo)(pu:IsPart vu hi)
  (hw:¬(sIx items.size 0 lo=0/\sIx items.size items.size hi=items.size))
  (h:Q (.ref s.heap.objs.size) { s with heap:=s.heap.push { cls:=.type "tuple",data:=.seq ((items.toList.drop (sIx items.size 0 lo)).take (sIx items.size items.size hi - sIx items.size 0 lo)).toArray } })
  (hsz:items.size<=sizeLine):wpAny (model prog w) A (getItem (.ref t) (.ref sl)) Q E s:=by
 have xM:sizeOk (.seq ((items.toList.drop (sIx items.size 0 lo)).take (sIx items.size items.size hi - sIx items.size 0 lo)).toArray):=by
  show((items.toList.drop (sIx items.size 0 lo)).take (sIx items.size items.size hi - sIx items.size 0 lo)).toArray.size<=sizeLine;rw[List.size_toArray,List.length_take,List.length_drop,Array.length_toList];exact Nat.le_trans (Nat.le_trans (Nat.min_le_right _ _) (Nat.sub_le _ _)) hsz
 have hj:sIx items.size items.size hi<=items.size:=FQ _ _ (Nat.le_refl _) hi;obtain⟨os,hos,hcs,hds⟩:=id hs;have hTs:s.TypeIs (.ref sl) "slice":=⟨os,hos,hcs⟩;unfold getItem
 try with_reducible refine wpAny_holding ?_
 first|refine wpAny_bind (wpAny_pure ?_)|skip
 refine wpAny_bind (wpAny_sequenceKey ht.typeIs (by decide) ?_)
 refine wpAny_bind (wpAny_callSpecial?_slot (name:=Str.ofString "__getitem__") ht.typeIs PyProof.Rows.slot_tuple_getitem
  (wpAny_call_entry PyProof.Rows.slot_tuple_getitem ht.typeIs entry_tuple_getitem ?_ (args_tuple_getitem _ _)))
 show wpAny _ _ (Builtin.Tuple.tupleItemsOf (.ref t) >>= _) _ _ s;refine wpAny_bind (tupleItemsOf_ ht ?_);refine wpAny_bind (wpAny_typeOf hTs ?_);rw[if_pos (by decide)]
 refine wpAny_bind (fB hs pl pu ?_);have hno:¬((((sIx items.size 0 lo:Nat):Int)==0&&(1:Int)==1&&(sIx items.size items.size hi - sIx items.size 0 lo)==items.size)=true):=by
  intro q;rw[Bool.and_eq_true,Bool.and_eq_true]at q;have q1:((sIx items.size 0 lo:Nat):Int)=0:=eq_of_beq q.1.1;have q2:sIx items.size items.size hi - sIx items.size 0 lo=items.size:=eq_of_beq q.2;exact hw ⟨by omega,by omega⟩
 show wpAny _ _ (if(((sIx items.size 0 lo:Nat):Int)==0&&(1:Int)==1&&(sIx items.size items.size hi - sIx items.size 0 lo)==items.size)=true then _ else _) _ _ s
 rw[if_neg hno,Ar]
 first
  | exact wpAny_bind (m:=Builtin.Tuple.tupleExact _) (wpAny_newObj_type (wpAny_pure ⟨_,rfl,wpAny_pure h⟩) xM)
  | exact wpAny_bind (m:=Builtin.Tuple.tupleExact _) (wpAny_newObj_type (wpAny_bind (wpAny_pure (wpAny_pure ⟨_,rfl,wpAny_pure h⟩))) xM)
  | exact wpAny_bind (wpAny_bind (m:=Builtin.Tuple.tupleExact _) (wpAny_newObj_type (wpAny_pure (wpAny_pure ⟨_,rfl,wpAny_pure h⟩)) xM))
  | exact wpAny_bind (wpAny_bind (m:=Builtin.Tuple.tupleExact _) (wpAny_newObj_type (wpAny_pure ⟨_,rfl,wpAny_pure h⟩) xM))
end
end HT
namespace L2
open PySem PySem.Spec PyProof.Rows
abbrev TO:=St->Hp ->(Option Int->Hp->Prop)->Prop
def PO(X:Cx)(e:Option Expr)(t:TO):Prop :=
 ∀(pins:List (Addr×Obj))(s:Shared)(σ:St)(H:Hp)(Q:Option Int->Hp->Prop),Inv X pins σ H s->t σ H Q ->
  wpAny (model X.prog X.w) X.A (evalPart e X.env) (fun u s'=>∃ o H',Inv X pins σ H' s'/\IsPart u o/\Q o H') X.xe s
def wW:TO:=fun _ H Q=>Q none H
def EZ(t:TE):TO:=fun σ H Q=>t σ H fun x H1=>∃ i,x = .int i/\Q (some i) H1
section
variable{X:Cx}{e:Expr}{te:TE}{lo hi:Option Expr}{tl th:TO}{pos p2:Pos}
theorem CW:PO X none wW:=by
 intro pins s σ H Q I h;rw[evalPart_none];exact wpAny_pure ⟨none,H,I,.none,h⟩
theorem qW(h:PE X e te):PO X (some e) (EZ te):=by
 intro pins s σ H Q I hw;rw[evalPart_some];refine thn (h pins s σ H _ I hw) fun u s1 hPP=>?_
 obtain⟨x,H1,I1,r1,q1⟩:=hPP;obtain⟨i,rfl,q⟩:=q1;obtain⟨t,rfl⟩:=r1;exact⟨some i,H1,I1,.int i t,q⟩
def SlR(X:Cx)(r:V->Option Int->Option Int->Hp->VK->Prop):Prop :=
 ∀(pins:List (Addr×Obj))(s:Shared)(σ:St)(H:Hp)(x:V)(v vl vu:Value)(lo hi:Option Int)(sl:Addr)(Q:VK),Inv X pins σ H s->RelV x v->s.heap.IsSliceOf sl vl vu .none->IsPart vl lo->IsPart vu hi->r x lo hi H Q ->
  ∃ T id,typeLookup (.type T) "__getitem__" = pure (some (.builtin id))/\s.TypeIs v T/\wpAny (model X.prog X.w) X.A (getItem v (.ref sl)) (EP X pins σ Q) X.xe s
theorem SlR.or{r r':V->Option Int->Option Int->Hp->VK->Prop}(h:SlR X r)(h':SlR X r'):SlR X (fun x lo hi H Q=>r x lo hi H Q\/r' x lo hi H Q):=by
 intro pins s σ H x v vl vu lo hi sl Q I rx hs pl pu q;rcases q with q|q
 ·exact h pins s σ H x v vl vu lo hi sl Q I rx hs pl pu q
 ·exact h' pins s σ H x v vl vu lo hi sl Q I rx hs pl pu q
def tSl(r:V->Option Int->Option Int->Hp->VK->Prop)(te:TE)(tl th:TO):TE:=fun σ H Q=>te σ H fun x H1=>tl σ H1 fun l H2=>th σ H2 fun u H3=>r x l u H3 Q
theorem t9{r:V->Option Int->Option Int->Hp->VK->Prop}(hr:SlR X r)(he:PE X e te)(hl:PO X lo tl)(hu:PO X hi th):PE X (.Subscript e (.Slice lo hi none p2) pos) (tSl r te tl th):=by
 intro pins s σ H Q I h;refine Subscript_ (thn (he pins s σ H _ I h) fun v s1 hPP=>?_)
 obtain⟨x,H1,I1,r1,q1⟩:=hPP;refine wpAny_Slice (thn (hl pins s1 σ H1 _ I1 q1) fun vl s2 ⟨l,H2,I2,pl,q2⟩=>thn (hu pins s2 σ H2 _ I2 q2) fun vu s3 hPP=>?_)
 obtain⟨u,H3,I3,pu,q3⟩:=hPP;rw[evalPart_none];refine wpAny_pure ?_;have I4:Inv X pins σ H3 { s3 with heap:=s3.heap.push { cls:=.type "slice",data:=.fields #[vl,vu,.none] } }:=I3.kept (t':=s3.toks) fun b ob q=>Heap.get?_push_of_some _ q
 obtain⟨T,id,hT,ht,hg⟩:=hr pins { s3 with heap:=s3.heap.push { cls:=.type "slice",data:=.fields #[vl,vu,.none] } } σ H3 x v vl vu l u s3.heap.objs.size Q I4 r1 (Heap.IsSliceOf.new ..) pl pu q3
 show wpAny (model X.prog X.w) X.A (subscriptTail e (.Slice lo hi none p2) v (.ref s3.heap.objs.size)) (EP X pins σ Q) X.xe { s3 with heap:=s3.heap.push { cls:=.type "slice",data:=.fields #[vl,vu,.none] } }
 exact tail_any (ops:=[.ref s3.heap.objs.size,v]) ht hT hg (by with_unfolding_all rfl)
def ji(xs:List V)(lo hi:Option Int):List V:=(xs.drop (HT.sIx xs.length 0 lo)).take (HT.sIx xs.length xs.length hi - HT.sIx xs.length 0 lo)
theorem lB(xs:List V)(lo hi:Option Int):(ji xs lo hi).length<=xs.length:=by
 unfold ji;rw[List.length_take,List.length_drop];exact Nat.le_trans (Nat.min_le_right _ _) (Nat.sub_le _ _)
def Jp(K:W.Frag):V->Option Int->Option Int->Hp->VK->Prop:=fun x lo hi H Q=>∃ a xs,x = .ref a/\SqT K H a xs /\
 ¬(HT.sIx xs.length 0 lo=0/\HT.sIx xs.length xs.length hi=xs.length)/\∀ p,H p=none->Q (.ref p) (upd H p (.tup (ji xs lo hi)))
theorem FJ:SlR X (Jp X.K):=by
 intro pins s σ H x v vl vu lo hi sl Q I rx hs pl pu h;obtain⟨a,xs,rfl,hx,hw,q⟩:=h;cases rx;obtain⟨its,r,ht,hz⟩:=I.tuple hx;have hlen:its.toArray.size=xs.length:=by rw[List.size_toArray];exact r.length.symm
 refine⟨"tuple",_,PyProof.Rows.slot_tuple_getitem.lookup,ht.typeIs,?_⟩;refine HT.jP ht hs pl pu (by rw[hlen];exact hw) ?_ (by rw[hlen];exact hz)
 rw[hlen];refine⟨.ref s.heap.objs.size,_,I.laid (t':=s.toks) (o:=.tup (ji xs lo hi)) (fun b ob q=>Heap.get?_push_of_some _ q) (Nat.le_refl _) ?_,rfl,q _ (I.hok.fresh (Nat.le_refl _))⟩
 exact⟨Nat.le_trans (lB xs lo hi) hz,_,(r.drop (HT.sIx xs.length 0 lo)).take (HT.sIx xs.length xs.length hi - HT.sIx xs.length 0 lo),jn.new _ _⟩
def HQ(K:W.Frag):R2:=fun x y H Q=>∃ a b xs ys,x = .ref a/\y = .ref b/\SqT K H a xs/\SqT K H b ys/\xs ≠ []/\xs.length+ys.length<=sizeLine /\
 (ys = []->Q (.ref a) H)/\(ys ≠ []->∀ p,H p=none->Q (.ref p) (upd H p (.tup (xs++ys))))
theorem Vals.fY{xs:List V}{us:List Value}(r:Vals xs us):us = [] ↔ xs = []:=by
 cases r with
 | nil=>simp
 | cons _ _=>simp
theorem Dg:OpR X (binaryOp .Add) (HQ X.K):=by
 intro pins s σ H x y v u Q I rx ry h;obtain⟨a,b,xs,ys,rfl,rfl,ha,hb,hx,hz,q1,q2⟩:=h;cases rx;cases ry;obtain⟨its,r1,p1,_⟩:=I.tuple ha;obtain⟨dP,r2,p2,_⟩:=I.tuple hb;refine HT.ED p1 p2 (fun z=>hx (r1.fY.mp z)) (fun z=>⟨.ref a,H,I,rfl,q1 (r2.fY.mp z)⟩) (fun z=>?_) (by rw[<- r1.length,<- r2.length];exact hz)
 refine⟨.ref s.heap.objs.size,_,I.laid (t':=s.toks) (o:=.tup (xs++ys)) (fun b ob q=>Heap.get?_push_of_some _ q) (Nat.le_refl _) ?_,rfl,q2 (fun w=>z (r2.fY.mpr w)) _ (I.hok.fresh (Nat.le_refl _))⟩
 exact⟨by rw[List.length_append];exact hz,_,r1.append r2,jn.new _ _⟩
end
def ixN(n:Nat)(i:Int):Option Nat:=if 0<=i then(if i<n then some i.toNat else none)else if -(n:Int)<=i then some (i+n).toNat else none
def atI{α:Type}(xs:List α)(i:Int):Option α:=(ixN xs.length i).bind fun j=>xs[j]?
theorem xF{n:Nat}{i:Int}{j:Nat}(h:ixN n i=some j):seqIndex? i n=some j/\j<n /\ -(n:Int)<=i/\i<n:=by
 unfold ixN at h;by_cases h0:0<=i
 ·rw[if_pos h0]at h;by_cases h1:i<n
  ·rw[if_pos h1]at h;have e:i.toNat=j:=Option.some.inj h;exact⟨by rw[seqIndex_of h0 h1,e],by omega,by omega,h1⟩
  ·rw[if_neg h1]at h;cases h
 ·rw[if_neg h0]at h;by_cases h1:-(n:Int)<=i
  ·rw[if_pos h1]at h;have e:(i+n).toNat=j:=Option.some.inj h;exact⟨by rw[seqIndex_neg (by omega) h1,e],by omega,h1,by omega⟩
  ·rw[if_neg h1]at h;cases h
theorem sS{α:Type}{xs:List α}{i:Int}{v:α}(h:atI xs i=some v):∃ j,seqIndex? i xs.length=some j/\xs[j]? = some v/\j<xs.length /\ -(xs.length:Int)<=i/\i<xs.length:=by
 unfold atI at h;cases e:ixN xs.length i with
 | none=>rw[e]at h;cases h
 | some j =>
  rw[e]at h;obtain⟨h1,h2,h3,h4⟩:=xF e;exact⟨j,h1,h,h2,h3,h4⟩
theorem sR{α:Type}{xs:List α}{j:Nat}{v:α}(h:xs[j]? = some v):atI xs (j:Int)=some v:=by
 have hj:j<xs.length:=(List.getElem?_eq_some_iff.mp h).1;have e:ixN xs.length (j:Int)=some j:=by
  unfold ixN;rw[if_pos (by omega),if_pos (by omega)];simp
 unfold atI;rw[e];exact h
def kf(b:Expr):Prop:=∀ o i,subscripted b false o i=operate [o,i] (getItem o i)
def IxR(X:Cx)(r:R2):Prop :=
 ∀(value slice:Expr)(pins:List (Addr×Obj))(s:Shared)(σ:St)(H:Hp)(x y:V)(v u:Value)(Q:VK),Inv X pins σ H s->RelV x v->RelV y u->r x y H Q ->
  subscripted slice false v u=operate [v,u] (getItem v u)->wpAny (model X.prog X.w) X.A (subscriptTail value slice v u) (EP X pins σ Q) X.xe s
def MtR(X:Cx)(id:String)(r:V->List V->Hp->VK->Prop):Prop :=
 ∀(pins:List (Addr×Obj))(s:Shared)(σ:St)(H:Hp)(x:V)(xs:List V)(v:Value)(us:List Value)(Q:VK),Inv X pins σ H s->RelV x v->Vals xs us->r x xs H Q ->
  wpAny (model X.prog X.w) X.A (call (.builtin id) (v::us)) (EP X pins σ Q) X.xe s
section
variable{X:Cx}{a b:Expr}{ta tb:TE}{pos:Pos}
theorem IxR.or{r r':R2}(h:IxR X r)(h':IxR X r'):IxR X (fun x y H Q=>r x y H Q\/r' x y H Q):=by
 intro value slice pins s σ H x y v u Q I rx ry q hs;rcases q with q|q
 ·exact h value slice pins s σ H x y v u Q I rx ry q hs
 ·exact h' value slice pins s σ H x y v u Q I rx ry q hs
theorem ub{r:R2}(hr:IxR X r)(ha:PE X a ta)(hb:PE X b tb)(hs:kf b):PE X (.Subscript a b pos) (tOp r ta tb):=by
 intro pins s σ H Q I h;exact Subscript_ (Hj ha hb I h fun v u s2 x y H2 I2 rx ry q=>hr a b pins s2 σ H2 x y v u Q I2 rx ry q (hs _ _))
def HL(K:W.Frag):R2:=fun x y H Q=>∃ p xs i v,x = .ref p/\y = .int i/\SqL K H p xs/\atI xs i=some v/\Q v H
def HJ(K:W.Frag):R2:=fun x y H Q=>∃ p xs i v,x = .ref p/\y = .int i/\SqT K H p xs/\atI xs i=some v/\Q v H
def HK:R2:=fun x y H Q=>∃ z i c,x = .str z/\y = .int i/\z.length<=sizeLine/\atI z.cps.toList i=some c/\Q (.str ⟨#[c]⟩) H
theorem DY:IxR X (HL X.K):=by
 intro value slice pins s σ H x y v u Q I rx ry h hs;obtain⟨p,xs,i,z,rfl,rfl,hq,he,q⟩:=h;cases rx;obtain⟨t,rfl⟩:=ry;obtain⟨its,r,pl,hz⟩:=I.list hq;obtain⟨j,h1,h2,h3,h4,h5⟩:=sS he;obtain⟨w,ew,rw'⟩:=r.get h2;have hl:=r.length;have hn:=gQ;have fin:EP X pins σ Q w s:=⟨z,H,I,rw',q⟩;by_cases h0:0<=i
 ·have hj:i.toNat=j:=by
   rw[seqIndex_of h0 h5]at h1;exact Option.some.inj h1
  exact item_listR pl.isList h0 (by omega) (by rw[hj];simpa using ew) fin hs
 ·have hj:(i+(its.toArray.size:Int)).toNat=j:=by
   rw[seqIndex_neg (by omega) h4]at h1
   rw[List.size_toArray,<- hl];exact Option.some.inj h1
  exact subscriptTail_builtinR (x:=w) pl.isList.typeIs slot_list_getitem.lookup
   (wpAny_getItem_list_neg (Q:=fun r s'=>r=w/\EP X pins σ Q r s') pl.isList (by omega) (by rw[List.size_toArray] <;> omega) (by omega) (by rw[hj];simpa using ew) ⟨rfl,fin⟩) hs
theorem GY:IxR X (HJ X.K):=by
 intro value slice pins s σ H x y v u Q I rx ry h hs;obtain⟨p,xs,i,z,rfl,rfl,hq,he,q⟩:=h;cases rx;obtain⟨t,rfl⟩:=ry;obtain⟨its,r,pl,hz⟩:=I.tuple hq;obtain⟨j,h1,h2,h3,h4,h5⟩:=sS he;obtain⟨w,ew,rw'⟩:=r.get h2;have hl:=r.length;have hn:=gQ;have fin:EP X pins σ Q w s:=⟨z,H,I,rw',q⟩;exact subscriptTail_builtinR (x:=w) pl.typeIs slot_tuple_getitem.lookup
  (getItem_tuple (j:=j) (Q:=fun r s'=>r=w/\EP X pins σ Q r s') pl (by omega) (by omega) (by rw[List.size_toArray,<- hl];exact h1) (by simpa using ew) ⟨rfl,fin⟩) hs
theorem GZ:IxR X HK:=by
 intro value slice pins s σ H x y v u Q I rx ry h hs;obtain⟨z,i,c,rfl,rfl,hz,he,q⟩:=h;obtain⟨t,rfl⟩:=rx;obtain⟨t',rfl⟩:=ry;obtain⟨j,h1,h2,h3,h4,h5⟩:=sS he;have hl:z.cps.toList.length=z.length:=by simp[Str.length]
 rw[hl]at h1 h4 h5;have hn:=gQ;exact tail_any (typeIs_str s z t) slot_str_getitem.lookup (getItem_str (c:=c) (by
  have e1:decide (i < -(2 ^ 63:Int))=false:=decide_eq_false (by omega)
  have e2:decide (i ≥ 2 ^ 63)=false:=decide_eq_false (by omega)
  rw[e1,e2,Bool.or_false]) (by rw[h1];simpa using h2) ⟨.str ⟨#[c]⟩,H,I.tok _,⟨_,rfl⟩,q⟩) hs
def rIx(K:W.Frag):R2:=fun x y H Q=>HL K x y H Q\/HJ K x y H Q\/HK x y H Q
theorem Bb:IxR X (rIx X.K):=DY.or (GY.or GZ)
theorem vD(its:List Value)(n j:Nat)(u:Value):Obj.mapSeq (·.setIfInBounds j u) { cls:=.type "list",data:=.seq its.toArray n } ={ cls:=.type "list",data:=.seq (its.set j u).toArray n }:=by
 simp[Obj.mapSeq]
theorem Inv.lst{pins:List (Addr×Obj)}{σ:St}{H:Hp}{s:Shared}{p:Addr}{xs:List V}(I:Inv X pins σ H s)(h:H p=some (.lst xs)) :
  ∃(its:List Value)(n:Nat),Vals xs its/\s.heap.get? p=some { cls:=.type "list",data:=.seq its.toArray n }/\xs.length<=sizeLine:=by
 obtain⟨z,its,n,r,e⟩:=I.hok p _ h;exact⟨its,n,r,e,z⟩
theorem Inv.GN{pins:List (Addr×Obj)}{σ:St}{H:Hp}{s:Shared}{p:Addr}{xs ys:List V}{its its':List Value}{n n':Nat}{f:Obj->Obj}(I:Inv X pins σ H s)(h:H p=some (.lst xs))
  (ho:s.heap.get? p=some { cls:=.type "list",data:=.seq its.toArray n }) (hf:f { cls:=.type "list",data:=.seq its.toArray n } ={ cls:=.type "list",data:=.seq its'.toArray n' }) (r:Vals ys its') (hz:ys.length<=sizeLine) (t:Nat) :
  Inv X pins σ (upd H p (.lst ys)) { s with heap:=s.heap.update p f,toks:=t }:=by
 have e:(s.heap.update p f).get? p=some { cls:=.type "list",data:=.seq its'.toArray n' }:=by
  rw[Heap.get?_update_self f ho (by rw[hf] <;> rfl),hf]
 refine I.write (x:=p) (e:=p) (by rw[h];trivial) (.inl rfl) (fun b u hb q=>(Heap.get?_update_other _ _ (Ne.symm hb)).trans q) ⟨_,e⟩ ?_
 exact⟨hz,its',n',r,e⟩
def zS:V->V->V->Hp ->(Hp->Prop)->Prop:=fun o i v H Q=>∃ p xs k j,o = .ref p/\i = .int k/\H p=some (.lst xs)/\ixN xs.length k=some j/\Q (upd H p (.lst (xs.set j v)))
theorem set_list:Hn X zS:=by
 intro pins s σ H o i v ov iv u Q I ro ri rv h;obtain⟨p,xs,k,j,rfl,rfl,hp,hj,q⟩:=h;cases ro;obtain⟨t,rfl⟩:=ri;obtain⟨its,n,r,ho,hz⟩:=I.lst hp;obtain⟨h1,h2,h3,h4⟩:=xF hj;have hl:=r.length;have hn:=gQ;have I':Inv X pins σ (upd H p (.lst (xs.set j v))) { s with heap:=s.heap.update p (Obj.mapSeq (·.setIfInBounds j u)) } :=
  I.GN hp ho (vD its n j u) (r.set rv j) (by rw[List.length_set];exact hz) s.toks
 by_cases h0:0<=k
 ·have hk:k.toNat=j:=by
   rw[seqIndex_of h0 h4]at h1;exact Option.some.inj h1
  exact W.ki_setAt ho h0 (by omega) (by rw[List.size_toArray,<- hl];exact h4) (by rw[hk];exact⟨_,I',q⟩)
 ·have hk:(k+(its.toArray.size:Int)).toNat=j:=by
   rw[seqIndex_neg (by omega) h3]at h1
   rw[List.size_toArray,<- hl];exact Option.some.inj h1
  exact W.ki_setBack ho (by omega) (by rw[List.size_toArray,<- hl];exact h3) (by omega) (by rw[hk];exact⟨_,I',q⟩)
theorem qp(lo hi:Option Int)(n:Nat):(sliceBounds lo hi none n).1 =((HT.sIx n 0 lo:Nat):Int)/\(sliceBounds lo hi none n).2.1 =((HT.sIx n n hi:Nat):Int)/\(sliceBounds lo hi none n).2.2=1:=by
 refine⟨?_,?_,rfl⟩
 ·cases lo with
  | none=>simp[sliceBounds,HT.sIx]
  | some i =>
   simp only[sliceBounds,HT.sIx,Option.getD_none,show(1:Int) > 0 by decide,if_true]
   by_cases h:i<0
   ·simp only[h,if_true] <;> first|exact HT.zr _ _ h|omega
   ·simp only[h,if_false] <;> first|exact HT.zq _ _ h|omega
 ·cases hi with
  | none=>simp[sliceBounds,HT.sIx]
  | some i =>
   simp only[sliceBounds,HT.sIx,Option.getD_none,show(1:Int) > 0 by decide,if_true]
   by_cases h:i<0
   ·simp only[h,if_true] <;> first|exact HT.zr _ _ h|omega
   ·simp only[h,if_false] <;> first|exact HT.zq _ _ h|omega
theorem og(its:List Value)(lo hi:Option Int):slicePick its.toArray lo hi none =((its.drop (HT.sIx its.length 0 lo)).take (HT.sIx its.length its.length hi - HT.sIx its.length 0 lo)).toArray:=by
 obtain⟨h1,h2,h3⟩:=qp lo hi its.toArray.size;unfold slicePick;rw[h1,h2,h3];simp only[sliceRange_one,pick_run,List.size_toArray] <;> rfl
def HH(K:W.Frag):V->Option Int->Option Int->Hp->VK->Prop:=fun x lo hi H Q=>∃ a xs,x = .ref a/\SqL K H a xs/\∀ p,H p=none->Q (.ref p) (upd H p (.lst (ji xs lo hi)))
theorem wZ:SlR X (HH X.K):=by
 intro pins s σ H x v vl vu lo hi sl Q I rx hs pl pu h;obtain⟨a,xs,rfl,hx,q⟩:=h;cases rx;obtain⟨its,r,ht,hz⟩:=I.list hx;have hlen:=r.length;refine⟨"list",_,slot_list_getitem.lookup,ht.isList.typeIs,?_⟩;refine wpAny_getItem_list_slice ht.isList hs pl pu .none (by simp) ?_ (by rw[List.size_toArray] <;> omega)
 rw[og,<- hlen];refine⟨.ref s.heap.objs.size,_,I.laid (t':=s.toks) (o:=.lst (ji xs lo hi)) (fun b ob q=>Heap.get?_push_of_some _ q) (Nat.le_refl _) ?_,rfl,q _ (I.hok.fresh (Nat.le_refl _))⟩
 exact⟨Nat.le_trans (lB xs lo hi) hz,_,0,(r.drop (HT.sIx xs.length 0 lo)).take (HT.sIx xs.length xs.length hi - HT.sIx xs.length 0 lo),Heap.get?_push_size _ rfl⟩
def dM:V->Bool
 | .non=>true
 | .bl _=>true
 | .int _=>true
 | .str _=>true
 | _=>false
def eqV:V->V->Bool
 | .non,.non=>true
 | .bl a,.bl b=>a==b
 | .bl a,.int b=>(if a then 1 else 0)==b
 | .int a,.bl b=>a ==(if b then 1 else 0)
 | .int a,.int b=>a==b
 | .str a,.str b=>a==b
 | _,_=>false
theorem sk{A:Around}{s:Shared}{y x:V}{u v:Value}(ry:RelV y u)(rx:RelV x v)(fy:dM y=true)(fx:dM x=true):SeqAt.EqAt A s u v (eqV y x):=by
 cases y with
 | non =>
  cases ry;cases x with
  | non=>cases rx;exact SeqAt.EqAt.same _
  | bl b=>cases rx;exact SeqAt.EqAt.none_bool b
  | int b=>obtain⟨t,rfl⟩:=rx;exact SeqAt.EqAt.none_int b t
  | str b=>obtain⟨t,rfl⟩:=rx;exact SeqAt.EqAt.none_str b t
  | _=>exact absurd (show false=true from fx) Bool.false_ne_true
 | bl a =>
  cases ry;cases x with
  | non=>cases rx;exact SeqAt.EqAt.bool_none a
  | bl b=>cases rx;exact SeqAt.EqAt.bool_bool a b
  | int b=>obtain⟨t,rfl⟩:=rx;exact SeqAt.EqAt.bool_int a b t
  | str b=>obtain⟨t,rfl⟩:=rx;exact SeqAt.EqAt.bool_str a b t
  | _=>exact absurd (show false=true from fx) Bool.false_ne_true
 | int a =>
  obtain⟨t',rfl⟩:=ry;cases x with
  | non=>cases rx;exact SeqAt.EqAt.int_none a t'
  | bl b=>cases rx;exact SeqAt.EqAt.int_bool a t' b
  | int b=>obtain⟨t,rfl⟩:=rx;exact SeqAt.EqAt.int_int a t' b t
  | str b=>obtain⟨t,rfl⟩:=rx;exact SeqAt.EqAt.int_str a t' b t
  | _=>exact absurd (show false=true from fx) Bool.false_ne_true
 | str a =>
  obtain⟨t',rfl⟩:=ry;cases x with
  | non=>cases rx;exact SeqAt.EqAt.str_none a t'
  | bl b=>cases rx;exact SeqAt.EqAt.str_bool a t' b
  | int b=>obtain⟨t,rfl⟩:=rx;exact SeqAt.EqAt.str_int a t' b t
  | str b=>obtain⟨t,rfl⟩:=rx;exact SeqAt.EqAt.str_str a t' b t
  | _=>exact absurd (show false=true from fx) Bool.false_ne_true
 | _=>exact absurd (show false=true from fy) Bool.false_ne_true
def eqU(x:V)(u:Value):Bool:=match u with
 | .none=>eqV .non x
 | .bool b=>eqV (.bl b) x
 | .int i _=>eqV (.int i) x
 | .str z _=>eqV (.str z) x
 | _=>false
theorem Bv{x y:V}{u:Value}(r:RelV y u)(f:dM y=true):eqU x u=eqV y x:=by
 cases y with
 | non=>cases r;rfl
 | bl b=>cases r;rfl
 | int i=>obtain⟨t,rfl⟩:=r;rfl
 | str z=>obtain⟨t,rfl⟩:=r;rfl
 | _=>exact absurd (show false=true from f) Bool.false_ne_true
theorem ka{x:V}:∀{xs:List V}{us:List Value},Vals xs us->xs.all dM=true->us.any (eqU x)=xs.any fun y=>eqV y x
 | _,_,.nil,_=>rfl
 | y::xs,u::us,.cons r t,f=>by
  rw[List.all_cons,Bool.and_eq_true]at f;rw[List.any_cons,List.any_cons,Bv r f.1,ka t f.2]
theorem gP{A:Around}{s:Shared}{x:V}{v:Value}(rx:RelV x v)(fx:dM x=true):∀{xs:List V}{us:List Value},Vals xs us->xs.all dM=true->∀ u∈us,SeqAt.EqAt A s u v (eqU x u)
 | _,_,.nil,_=>fun u hu=>by cases hu
 | y::xs,u::us,.cons r t,f=>fun u' hu=>by
  rw[List.all_cons,Bool.and_eq_true]at f;rcases List.mem_cons.mp hu with rfl|hu
  ·rw[Bv r f.1];exact sk r rx f.1 fx
  ·exact gP rx fx t f.2 u' hu
def inV(x:V)(xs:List V):Bool:=xs.any fun y=>eqV y x
def rIn(K:W.Frag)(neg:Bool):R2:=fun x y H Q=>∃ p xs,y = .ref p/\(SqL K H p xs\/SqT K H p xs)/\dM x=true/\xs.all dM=true/\Q (.bl (if neg then !inV x xs else inV x xs)) H
theorem yy:OpR X (compareOp .In) (rIn X.K false):=by
 intro pins s σ H x y v u Q I rx ry h;obtain⟨p,xs,rfl,hq,fx,fs,q⟩:=h;cases ry;rcases hq with hq|hq
 ·obtain⟨its,r,pl,hz⟩:=I.list hq;refine SeqAt.in_listAt (eqU x) pl.isList (fun w hw=>gP rx fx r fs w (by simpa using hw)) ⟨.bl _,H,I,rfl,?_⟩
  rw[show its.toArray.any (eqU x)=its.any (eqU x)by simp,ka r fs]
  exact q
 ·obtain⟨its,r,pl,hz⟩:=I.tuple hq;refine SeqAt.in_tupleAt (eqU x) pl (fun w hw=>gP rx fx r fs w (by simpa using hw)) ⟨.bl _,H,I,rfl,?_⟩
  rw[show its.toArray.any (eqU x)=its.any (eqU x)by simp,ka r fs]
  exact q
theorem rj:OpR X (compareOp .NotIn) (rIn X.K true):=by
 intro pins s σ H x y v u Q I rx ry h;obtain⟨p,xs,rfl,hq,fx,fs,q⟩:=h;cases ry;rcases hq with hq|hq
 ·obtain⟨its,r,pl,hz⟩:=I.list hq;refine SeqAt.notIn_listAt (eqU x) pl.isList (fun w hw=>gP rx fx r fs w (by simpa using hw)) ⟨.bl _,H,I,rfl,?_⟩
  rw[show its.toArray.any (eqU x)=its.any (eqU x)by simp,ka r fs]
  exact q
 ·obtain⟨its,r,pl,hz⟩:=I.tuple hq;refine SeqAt.notIn_tupleAt (eqU x) pl (fun w hw=>gP rx fx r fs w (by simpa using hw)) ⟨.bl _,H,I,rfl,?_⟩
  rw[show its.toArray.any (eqU x)=its.any (eqU x)by simp,ka r fs]
  exact q
theorem j7:cW X (.builtin "len") (fun xs H Q=>∃ p ys,xs = [.ref p]/\(SqL X.K H p ys\/SqT X.K H p ys)/\Q (.int ys.length) H):=by
 intro pins s σ H xs us Q I r h;obtain⟨p,ys,rfl,hq,q⟩:=h;obtain⟨u,rfl,rx⟩:=vals1 r;cases rx;have hn:=gQ;rcases hq with hq|hq
 ·obtain⟨its,r',pl,hz⟩:=I.list hq;have hlen:=r'.length;exact Calls.call_len_list pl.isList (by simp only[List.size_toArray] <;> omega) ⟨.int ys.length,H,I.tok _,⟨s.toks+1,by rw[List.size_toArray,hlen]⟩,q⟩
 ·obtain⟨its,r',pl,hz⟩:=I.tuple hq;have hlen:=r'.length;exact len_tuple pl (by simp only[List.size_toArray] <;> omega) ⟨.int ys.length,H,I.tok _,⟨s.toks+1,by rw[List.size_toArray,hlen]⟩,q⟩
theorem sJ:cW X (.builtin "len") (fun xs H Q=>∃ z,xs = [.str z]/\z.length<=sizeLine/\Q (.int z.length) H):=by
 intro pins s σ H xs us Q I r h;obtain⟨z,rfl,hz,q⟩:=h;obtain⟨u,rfl,t,rfl⟩:=vals1 r;have hn:=gQ;exact len_str (by omega) ⟨.int z.length,H,I.tok _,⟨_,rfl⟩,q⟩
theorem cW.or{f:Value}{r r':List V->Hp->VK->Prop}(h:cW X f r)(h':cW X f r'):cW X f (fun xs H Q=>r xs H Q\/r' xs H Q):=by
 intro pins s σ H xs us Q I rs q;rcases q with q|q
 ·exact h pins s σ H xs us Q I rs q
 ·exact h' pins s σ H xs us Q I rs q
theorem sI:cW X (.type "list") (fun xs H Q=>∃ p ys,xs = [.ref p]/\(SqL X.K H p ys\/SqT X.K H p ys)/\∀ l,H l=none->Q (.ref l) (upd H l (.lst ys))):=by
 intro pins s σ H xs us Q I r h;obtain⟨p,ys,rfl,hq,q⟩:=h;obtain⟨u,rfl,rx⟩:=vals1 r;cases rx;have fin:∀(its:List Value),Vals ys its->ys.length<=sizeLine->∀(h':Heap)(c':Nat),(∀ b o',s.heap.get? b=some o'->h'.get? b=some o') ->
   h'.get? s.heap.objs.size=some { cls:=.type "list",dict:=none,data:=.seq its.toArray c',slots:=#[] }->EP X pins σ Q (.ref s.heap.objs.size) { s with heap:=h' }:=fun its r' hz h' c' kp e =>
  ⟨.ref s.heap.objs.size,_,I.laid (t':=s.toks) kp (Nat.le_refl _) (show bt X.prog X.w _ h' _ (.lst ys)from⟨hz,its,c',r',e⟩),rfl,q _ (I.hok.fresh (Nat.le_refl _))⟩
 rcases hq with hq|hq
 ·obtain⟨its,r',pl,hz⟩:=I.list hq;have hlen:=r'.length;obtain⟨o,ho,hc,n,hd⟩:=pl.isList;exact call_list_seq p (.inl rfl) ho hc hd (fun h' c' kp e=>fin its r' hz h' c' kp e) (by simp only[List.size_toArray] <;> omega)
 ·obtain⟨its,r',pl,hz⟩:=I.tuple hq;have hlen:=r'.length;obtain⟨o,ho,hc,n,hd⟩:=pl;exact call_list_seq p (.inr rfl) ho hc hd (fun h' c' kp e=>fin its r' hz h' c' kp e) (by simp only[List.size_toArray] <;> omega)
theorem oW:cW X (.type "tuple") (fun xs H Q=>∃ p ys,xs = [.ref p]/\((SqL X.K H p ys/\∀ l,H l=none->Q (.ref l) (upd H l (.tup ys)))\/(SqT X.K H p ys/\Q (.ref p) H))):=by
 intro pins s σ H xs us Q I r h;obtain⟨p,ys,rfl,h⟩:=h;obtain⟨u,rfl,rx⟩:=vals1 r;cases rx;rcases h with⟨hq,q⟩ |⟨hq,q⟩
 ·obtain⟨its,r',pl,hz⟩:=I.list hq;have hlen:=r'.length;refine call_tuple_list pl.isList (fun h' kp=>?_) (by simp only[List.size_toArray] <;> omega)
  have I1:Inv X pins σ H { s with heap:=h' }:=I.kept (t':=s.toks) kp
  have I2:Inv X pins σ (upd H h'.objs.size (.tup ys)) { s with heap:=h'.push { cls:=.type "tuple",data:=.seq its.toArray } } :=
   I1.laid (t':=s.toks) (fun b o e=>Heap.get?_push_of_some _ e) (Nat.le_refl _) (show bt X.prog X.w _ _ _ (.tup ys)from⟨hz,its,r',jn.new _ _⟩)
  exact⟨.ref h'.objs.size,_,I2,rfl,q _ (I1.hok.fresh (Nat.le_refl _))⟩
 ·obtain⟨its,r',pl,hz⟩:=I.tuple hq;exact call_tuple_same pl ⟨.ref p,H,I,rfl,q⟩
def tyV(K:W.Frag)(T:String)(x:V)(H:Hp):Prop:=match x with
 | .str _=>T = "str"
 | .int _=>T = "int"
 | .ref p=>(T = "list" /\ ∃ xs,SqL K H p xs)\/(T = "tuple" /\ ∃ o,K.lookup p=some o/\o.cls = .type "tuple" /\ o.dict=none) \/
   (T = "dict" /\ ((∃ kvs,H p=some (.dK kvs))\/∃ kvs,H p=some (.dT kvs)))\/(T = "set" /\ ∃ S n,H p=some (.set S n))
 | _=>False
theorem zb{pins:List (Addr×Obj)}{σ:St}{H:Hp}{s:Shared}{T:String}{x:V}{v:Value}(I:Inv X pins σ H s)(r:RelV x v)(ty:tyV X.K T x H) :
  s.TypeIs v T/\∀ a,v = .ref a->∃ ob,s.heap.get? a=some ob/\ob.dict=none:=by
 cases x with
 | str z =>
  obtain⟨t,rfl⟩:=r
  cases(show T = "str" from ty)
  exact⟨typeIs_str s z t,fun _ e=>nomatch e⟩
 | int i =>
  obtain⟨t,rfl⟩:=r
  cases(show T = "int" from ty)
  exact⟨typeIs_int s i t,fun _ e=>nomatch e⟩
 | ref p =>
  cases r;rcases ty with⟨rfl,xs,hq⟩ |⟨rfl,o,hk,hc,hd⟩ |⟨rfl,hk⟩ |⟨rfl,S,n,hk⟩
  ·obtain⟨its,_,pl,_⟩:=I.list hq;refine⟨pl.isList.typeIs,fun a e=>?_⟩
   cases e;obtain⟨o,n,e,c,hd,_⟩:=pl;exact⟨o,e,hd⟩
  ·refine⟨⟨o,I.kIn p o hk,hc⟩,fun a e=>?_⟩
   cases e;exact⟨o,I.kIn _ o hk,hd⟩
  ·have z:∃ o,s.heap.get? p=some o/\o.ExactDict:=by
    rcases hk with⟨kvs,hk⟩ |⟨kvs,hk⟩
    ·obtain⟨_,_,_,_,o,_,_,e,ex,_⟩:=I.hok p _ hk;exact⟨o,e,ex⟩
    ·obtain⟨_,_,_,_,o,_,_,e,ex,_⟩:=I.hok p _ hk;exact⟨o,e,ex⟩
   obtain⟨o,e,ex⟩:=z;refine⟨⟨o,e,ex.1⟩,fun a e2=>?_⟩
   cases e2;exact⟨o,e,ex.2.1⟩
  ·obtain⟨o,_,_,_,e,ex,_⟩:=I.hok p _ hk;refine⟨⟨o,e,ex.1⟩,fun a e2=>?_⟩
   cases e2;exact⟨o,e,ex.2.1⟩
 | _=>exact False.elim ty
def FF(K:W.Frag)(T:String)(r:V->List V->Hp->VK->Prop)(to:TE):TE:=fun σ H Q=>to σ H fun x H1=>tyV K T x H1/\r x [] H1 Q
def tBM(K:W.Frag)(T:String)(r:V->List V->Hp->VK->Prop)(to:TE)(t:TA):TE:=fun σ H Q=>to σ H fun x H1=>tyV K T x H1/\t σ H1 fun xs H2=>r x xs H2 Q
variable{o e:Expr}{es:List Expr}{to:TE}{t:TA}{name:Str}{apos bc:Pos}{T id:String}{r:V->List V->Hp->VK->Prop}
theorem Az(pa:PlainAttrs T)(slot:Slot T name id)(hty:typeOf (.builtin id)=pure (.type "method_descriptor"))(hm:MtR X id r)(ho:PE X o to)
  (ed:attributeBase o name X.env (eval o X.env)=eval o X.env:=by rfl) (d8:(apos.endLine==bc.line)=true:=by rfl):PE X (.Call (.Attribute o name apos) [] [] bc) (FF X.K T r to):=by
 intro pins s σ H Q I h;refine wpAny_Call_method0_late ed d8 (thn (ho pins s σ H _ I h) fun v s1 hPP=>?_)
 obtain⟨x,H1,I1,r1,ty,q1⟩:=hPP;obtain⟨h1,h2⟩:=zb I1 r1 ty;exact⟨T,id,pa,slot,hty,h1,h2,Calls.callWith_builtin rfl (PySem.evalArgs_none (hm pins s1 σ H1 x [] v [] Q I1 r1 .nil q1))⟩
theorem AA(pa:PlainAttrs T)(slot:Slot T name id)(hty:typeOf (.builtin id)=pure (.type "method_descriptor"))(hm:MtR X id r)(ho:PE X o to)(ha:PA X (e::es) t)
  (ed:attributeBase o name X.env (eval o X.env)=eval o X.env:=by rfl)
  (nE:((backTo bc (starEach (e::es) X.env)).all (fun x=>!x.1)&&(backToKw bc (keywordEach [] X.env)).all (fun x=>x.1.isSome)
   && decide ((e::es).length+([]:List Keyword).length+(if([]:List Keyword).isEmpty then 0 else 1)<30))=true:=by rfl)
  (d8:(apos.endLine==bc.line)=true:=by rfl) (hs:starEach (e::es) X.env =(false,eval e X.env)::starEach es X.env:=by rfl) (d7:(backTo bc (starEach es X.env)).any (·.1)=false:=by rfl) :
  PE X (.Call (.Attribute o name apos) (e::es) [] bc) (tBM X.K T r to t):=by
 intro pins s σ H Q I h;refine wpAny_Call_method_late ed nE d8 rfl (thn (ho pins s σ H _ I h) fun v s1 hPP=>?_)
 obtain⟨x,H1,I1,r1,ty,q1⟩:=hPP;obtain⟨h1,h2⟩:=zb I1 r1 ty;refine⟨T,id,pa,slot,hty,h1,h2,?_⟩;have hA:=ha bc pins s1 σ H1 _ I1 q1;rw[hs]at hA ⊢;refine Calls.callWith_builtin (by show(false ||(backTo bc (starEach es X.env)).any (·.1))=false;rw[d7] <;> rfl) (Calls.evalArgs_plain ?_)
 refine thn hA fun us s2 hPP=>?_
 obtain⟨vs,H2,I2,r2,q2⟩:=hPP;exact hm pins s2 σ H2 x vs v us Q I2 r1 r2 q2
end
def MtM(X:Cx)(id:String)(r:V->List V->Hp->VK->Prop):Prop :=
 ∀(pins:List (Addr×Obj))(s:Shared)(σ:St)(H:Hp)(x:V)(xs:List V)(v:Value)(us:List Value)(Q:VK),Inv X pins σ H s->RelV x v->Vals xs us->r x xs H Q ->
  wpAny (model X.prog X.w) X.A (call (.builtin id) (v::us)) (EP X pins σ Q) X.xe s
theorem Vals.one:∀{x:V}{us:List Value},Vals [x] us->∃ u,us = [u]/\RelV x u:=by
 intro x us h;cases h with
 | cons r t=>cases t;exact⟨_,rfl,r⟩
theorem Vals.zero:∀{us:List Value},Vals [] us->us = []
 | _,.nil=>rfl
theorem Vals.dropLast{xs:List V}{us:List Value}(h:Vals xs us):Vals xs.dropLast us.dropLast:=by
 induction h with
 | nil=>exact .nil
 | cons r t ih =>
  cases t with
  | nil=>exact .nil
  | cons q t'=>exact .cons r ih
theorem Vals.reverse{xs:List V}{us:List Value}(h:Vals xs us):Vals xs.reverse us.reverse:=by
 induction h with
 | nil=>exact .nil
 | cons r t ih=>rw[List.reverse_cons,List.reverse_cons];exact Vals.append ih (.cons r .nil)
theorem wa{α:Type}(l:List α):l.eraseIdx (l.length - 1)=l.dropLast:=by
 induction l with
 | nil=>rfl
 | cons a r ih =>
  cases r with
  | nil=>rfl
  | cons b r =>
   have e:(a::b::r).length - 1 =((b::r).length - 1)+1:=by
    rfl
   rw[e,List.eraseIdx_cons_succ,ih]
   all_goals rfl
section
variable{X:Cx}{pins:List (Addr×Obj)}{σ:St}{H:Hp}{s:Shared}{l b:Addr}{xs ys zs:List V}
theorem Inv.GO{its its':List Value}{n:Nat}{f:Array Value->Array Value}{t':Nat}(I:Inv X pins σ H s)(hH:H l=some (.lst xs))
  (e:s.heap.get? l=some { cls:=.type "list",data:=.seq its.toArray n }) (hf:f its.toArray=its'.toArray) (hv:Vals ys its') (hz:ys.length<=sizeLine) :
  Inv X pins σ (upd H l (.lst ys)) { s with heap:=s.heap.update l (Obj.mapSeq f),toks:=t' }:=by
 have q:=PySem.IsL.update e f;rw[hf]at q;refine I.write (x:=l) (e:=l) (by rw[hH];exact trivial) (.inl rfl) (fun b' u hb hu=>(Heap.get?_update_other s.heap (Obj.mapSeq f) (Ne.symm hb)).trans hu) ⟨_,q⟩ ?_
 exact⟨hz,its',_,hv,q⟩
theorem Inv.Jy{its:List Value}{t':Nat}(I:Inv X pins σ H s)(hv:Vals ys its)(hz:ys.length<=sizeLine) :
  Inv X pins σ (upd H s.heap.objs.size (.lst ys)) { s with heap:=s.heap.push { cls:=.type "list",data:=.seq its.toArray },toks:=t' } :=
 I.laid (fun _ _ q=>Heap.get?_push_of_some _ q) (Nat.le_refl _) ⟨hz,its,0,hv,Heap.get?_push_size _ rfl⟩
theorem Inv.fresh(I:Inv X pins σ H s):H s.heap.objs.size=none:=I.hok.fresh (Nat.le_refl _)
theorem Inv.yF(I:Inv X pins σ H s)(hH:H l=some (.lst xs)):xs.length<=sizeLine/\∃(its:List Value)(n:Nat),Vals xs its/\xs.length=its.length/\s.heap.get? l=some { cls:=.type "list",data:=.seq its.toArray n }:=by
 obtain⟨z,its,n,r,e⟩:=I.hok l _ hH;exact⟨z,its,n,r,r.length,e⟩
theorem AU{n:Nat}(h:n<=sizeLine):Builtin.List.listTooLong n=false:=by
 unfold Builtin.List.listTooLong;exact decide_eq_false (by omega)
end
section
variable{X:Cx}
def lY:V->List V->Hp->VK->Prop:=fun x vs H Q=>∃ l xs y,x = .ref l/\vs = [y]/\H l=some (.lst xs)/\xs.length<sizeLine/\Q .non (upd H l (.lst (xs ++ [y])))
theorem yE:MtM X "list.append" lY:=by
 intro pins s σ H x vs v us Q I rx rv h;obtain⟨l,xs,y,rfl,rfl,hH,hz,q⟩:=h;cases rx;obtain⟨u,rfl,ru⟩:=rv.one;obtain⟨z,its,n,r,hl,e⟩:=I.yF hH;refine call_meets F.slot_list_append ⟨_,e,rfl⟩ F.entry_list_append (F.args_list_append_2 _ _) (PySem.list_append l its.toArray n u (by rw[List.size_toArray];omega)) ⟨e,?_⟩
 refine⟨.non,_,I.GO (its':=its ++ [u]) hH e (by simp) (r.append (.cons ru .nil)) ?_,rfl,q⟩
 rw[List.length_append,List.length_singleton];omega
def lX:V->List V->Hp->VK->Prop:=fun x vs H Q=>∃ l b xs zs,x = .ref l/\vs = [.ref b]/\H l=some (.lst xs)/\H b=some (.lst zs)/\xs.length+zs.length<=sizeLine/\Q .non (upd H l (.lst (xs++zs)))
theorem yD:MtM X "list.extend" lX:=by
 intro pins s σ H x vs v us Q I rx rv h;obtain⟨l,b,xs,zs,rfl,rfl,hH,hB,hz,q⟩:=h;cases rx;obtain⟨u,rfl,ru⟩:=rv.one;cases ru;obtain⟨z,its,n,r,hl,e⟩:=I.yF hH;obtain⟨z2,dP,n2,r2,hl2,e2⟩:=I.yF hB;have hsz:its.toArray.size+dP.toArray.size<=sizeLine:=by rw[List.size_toArray,List.size_toArray];omega
 have IB:¬(!its.toArray.isEmpty&&Builtin.List.listTooLong (its.toArray.size+dP.toArray.size))=true:=by
  rw[AU hsz,Bool.and_false];exact Bool.false_ne_true
 refine call_meets F.slot_list_extend ⟨_,e,rfl⟩ F.entry_list_extend (F.args_list_extend_2 _ _)
  (AutoSeq1.list_extend_list_list_0 l its.toArray n b dP.toArray n2 IB (by rw[List.size_toArray];omega) (by omega)) ⟨e,e2,?_⟩
 refine⟨.non,_,I.GO (its':=its++dP) hH e (by simp) (r.append r2) ?_,rfl,q⟩
 rw[List.length_append];omega
def FU:V->List V->Hp->VK->Prop:=fun x vs H Q=>∃ l xs y,x = .ref l/\vs = []/\H l=some (.lst xs)/\xs[xs.length - 1]? = some y/\Q y (upd H l (.lst xs.dropLast))
theorem AY:MtM X "list.pop" FU:=by
 intro pins s σ H x vs v us Q I rx rv h;obtain⟨l,xs,y,rfl,rfl,hH,hy,q⟩:=h;cases rx;have hus:=rv.zero;subst hus;obtain⟨z,its,n,r,hl,e⟩:=I.yF hH;obtain⟨u,hu,ru⟩:=r.get hy;have hy':its.toArray[its.toArray.size - 1]? = some u:=by
  show its.toArray[its.length - 1]? = some u;rw[<- Array.getElem?_toList,<- hl];exact hu
 refine call_meets F.slot_list_pop ⟨_,e,rfl⟩ F.entry_list_pop (F.args_list_pop_1 _) (MeetsSeq.list_pop_last l its.toArray n u hy' (by rw[List.size_toArray];omega)) ⟨e,?_⟩
 refine⟨y,_,I.GO (its':=its.dropLast) hH e ?_ r.dropLast ?_,ru,q⟩
 ·show its.toArray.eraseIdxIfInBounds (its.toArray.size - 1)=its.dropLast.toArray;rw[List.size_toArray,List.eraseIdxIfInBounds_toArray,wa]
 ·rw[List.length_dropLast];omega
def HR:R2:=fun x y H Q=>∃ l b xs zs,x = .ref l/\y = .ref b/\H l=some (.lst xs)/\H b=some (.lst zs)/\xs.length+zs.length<=sizeLine/\∀ p,H p=none->Q (.ref p) (upd H p (.lst (xs++zs)))
theorem GB:OpR X (binaryOp .Add) HR:=by
 intro pins s σ H x y v u Q I rx ry h;obtain⟨l,b,xs,zs,rfl,rfl,hH,hB,hz,q⟩:=h;cases rx;cases ry;obtain⟨z,its,n,r,hl,e⟩:=I.yF hH;obtain⟨z2,dP,n2,r2,hl2,e2⟩:=I.yF hB;refine PySem.P.add_list e e2 ?_ (by rw[List.size_toArray,List.size_toArray];omega)
 have ea:its.toArray++dP.toArray =(its++dP).toArray:=by simp
 rw[ea];exact⟨.ref _,_,I.Jy (t':=s.toks) (r.append r2) (by rw[List.length_append];omega),rfl,q _ I.fresh⟩
end
end L2
namespace Att
open PySem PySem.W PySem.Calls PyProof.Rows
theorem lK{P:Params}{h:Heap}:∀(ns:List Int)(vs:List Value),WellAll P h vs (ns.map WData.int)->IntsAre vs ns:=by
 intro ns
 induction ns with
 | nil =>
  intro vs w;rw[List.map_nil]at w;cases w;exact .nil
 | cons n ns ih =>
  intro vs w;rw[List.map_cons]at w;cases w with
  | cons a b =>
   cases a;exact .cons _ _ (ih _ b)
theorem yk{l:OpenLaw}{n:Nat}(hn:l.most=some n){P:Params}{h:Heap}{args:List WData}{vals:List Value}
  (hpre:l.row.toRowW.claim.pre args=true) (hwl:WellAll P h vals args) :
  ∃ a vs ns,vals = [Value.ref a]/\args = [WData.list (ns.map WData.int)]/\h.get? a=some { cls:=.type "list",data:=.seq vs.toArray }/\IntsAre vs ns/\ns.length<=n:=by
 have hsh:WShape.hasAll [] args [.list .int]=true:=(pre_splitW hpre).1;have hc:l.pre.holds [] { args:=args }=true:=(pre_splitW hpre).2;obtain⟨d,r,rfl,h1,h2⟩:=hasAllW_cons hsh;obtain rfl:=hasAllW_nil h2;obtain⟨xs,rfl,h3⟩:=hasW_list h1;obtain⟨ns,rfl⟩:=items_int h3;have hlen:ns.length<=n:=by
  unfold OpenLaw.pre at hc;have h4:(WTm.not (.lt (.lit (.int (n:Int))) (.len (.arg 0)))).holds [] { args:=[.list (ns.map .int)] }=true:=by
   have h4:=(holds_andW hc).1;rw[hn]at h4;exact h4
  have h5:=condW_of h4 (w_not (w_lt w_lit (w_len_list (w_arg rfl))));rw[List.length_map]at h5;refine Nat.le_of_not_lt fun q=>?_
  have q':(n:Int)<((ns.length:Nat):Int):=by omega
  first
   | (rw[decide_eq_true q']at h5;exact absurd h5 (by decide))
   | (simp at h5;omega)
 cases hwl with
 | cons w1 w2 =>
  cases w2;cases w1 with
  | list ho Hf=>exact⟨_,_,ns,rfl,rfl,ho,lK ns _ Hf,hlen⟩
theorem yt(l:OpenLaw)(args:List WData):l.row.toRowW.claim.post args (.bool true) args=true :=
 postW_of (r:=l.row.toRowW) (X:=(true==true))
  (show WShape.has [] (.bool true) .bool=true by first|rfl|decide|simp[WShape.has,WShape.arms,WShape.armsAll])
  (show(WTm.eq .res (.lit (.bool true))).value [] { args:=args,res:=some (.bool true),after:=args }=some (.bool (true==true))from w_eq_bool (w_res rfl) w_lit) rfl
theorem uO{l:OpenLaw}{n:Nat}{q:Program}{loose:List Str}{XP:(Str->Option Value)->Heap->Prop}{YP:World->Heap->Prop}{d:DefRec}
  (hn:l.most=some n) (hdf:d.params.defaults = [])
  (call:∀(w:World)(s₀ s₁:Shared)(mg mb:Str->Option Value)(fa:Addr)(o:Obj)(pm cd doc:Value)(a:Addr)(vs:List Value)(ns:List Int),
   Ground q loose [] XP w s₀ mg mb s₁.heap->YP w s₁.heap ->
   s₁.heap.get? fa=some o->o.data = .func (docDef d.name d.params d.body d.scope pm cd doc)->s₁.heap.CodeRec cd d.name->mg d.name=some (.ref fa) ->
   s₁.heap.get? a=some { cls:=.type "list",data:=.seq vs.toArray }->IntsAre vs ns->ns.length<=n->s₁.gens = #[] ->
   codeAny (model l.prog w) callerA (.call (.ref fa) ⟨[.ref a],[]⟩) (fun r s'=>r = .ok (.ret (.bool true))/\OldK s₁.heap s'.heap/\s'.os=s₁.os/\AllBare s'.gens) s₁) :
  WalkO q loose XP YP l.row.toRowW d [] (fun f vs=>PySem.call f vs):=by
 intro w s₀ s₁ mg mb G Y fa o pm cd doc dV kV ho hd hcd hD hmg hg args vals as hpre Kf hrd hwl hlo;obtain rfl:dV = .none:=Dflts.none hD hdf;obtain rfl:kV = .none:=Dflts.noKw hD;obtain⟨a,vs,ns,rfl,rfl,Ha,hints,hlen⟩:=yk hn hpre hwl;refine enter_call (codeAny_mono (call w s₀ s₁ mg mb fa o pm cd doc a vs ns G Y ho (fd_plain hd) hcd hmg Ha hints hlen hg) fun r s' hq=>?_)
 obtain⟨rfl,h2,h3,h4⟩:=hq;exact⟨.inl ⟨.bool true,.bool true,[],rfl,fun _=>rfl,.bool true,yt l _,fun _=>⟨List.Pairwise.nil,fun _ hm=>(nomatch hm)⟩⟩,h2,h3,h4⟩
section
variable{prog:Program}{w:World}{A:Around}{E:Value->Shared->Prop}{s:Shared}{K:Frag}
def ledger(h:Heap)(L d:Addr):List (Addr×Obj):=(List.range h.objs.size).filterMap fun a=>if a=L\/a=d then none else(h.get? a).map fun o=>(a,o)
end
end Att
namespace L2
open PySem PySem.Spec PyProof.Rows
theorem pj:∀{vs:List Value}{ns:List Int},IntsAre vs ns->Vals (ns.map V.int) vs
 | _,_,.nil=>.nil
 | _,_,.cons n t h=>.cons ⟨t,rfl⟩ (pj h)
def EU(H:Hp):Prop:=∀ b,H b=none\/∃ o xs,H b=some (.frz o (.lst xs))
theorem A4{P:Program}{w:World}{K:W.Frag}{mg mb:Str->Option Value}{CX:CXT}{k:Nat}{fa a:Addr}{fd:FuncData}{x:Str}{sp:Sp}{s₁:Shared}{vs:List Value}{ns:List Int}
  (KX:K.In s₁.heap) (hns:s₁.heap.Ns mainGlobals mg) (hb:s₁.heap.Ns builtinsNs mb) (hbb:∀ x:Str,x ≠ "__name__" -> mb x=bootBuiltins x) (JN:s₁.heap.NoLimit) (hg:s₁.gens = #[])
  (ha:s₁.heap.get? a=some { cls:=.type "list",data:=.seq vs.toArray }) (hi:IntsAre vs ns) (hl:ns.length<=sizeLine) (hr:cU k callerA)
  (F:∀ base:Heap,K.In base->base.Ns mainGlobals mg->aH P w K mg base CX k fa fd [x] sp) (IH:∀(s:Shared)(u:Value),BindsTo s fd ⟨[u],[]⟩ [(x,u)])
  (hsp:∀ H:Hp,EU H->SqL K H a (ns.map V.int)->sp [.ref a] H (fun v _=>v = .bl true) fun _ _ _=>False)
  (hCX:∀ H e s',CX [] H s₁ (fun _ _ _=>False) e s'->False) :
  codeAny (model P w) callerA (.call (.ref fa) ⟨[.ref a],[]⟩) (fun r s'=>r = .ok (.ret (.bool true))/\OldK s₁.heap s'.heap/\s'.os=s₁.os/\AllBare s'.gens) s₁:=by
 have rv:=pj hi;have JA:=hi.length;have core:∀ H:Hp,EU H->SqL K H a (ns.map V.int)->HOk P w H s₁.heap ->(∀ b,H b≠none->b=a) ->(H a≠none->K.lookup a=none) ->
   codeAny (model P w) callerA (.call (.ref fa) ⟨[.ref a],[]⟩) (fun r s'=>r = .ok (.ret (.bool true))/\OldK s₁.heap s'.heap/\s'.os=s₁.os/\AllBare s'.gens) s₁:=by
  intro H hO hS hok hA hK;have x5:∀{b:Addr}{o:Obj},s₁.heap.get? b=some o->H b=none ->(sh s₁.heap H).get? b=some o:=fun e n=>Bn e n
  have noA:∀{b:Addr}{o:Obj}{es:Array DictEntry}{ep:Nat},s₁.heap.get? b=some o->o.data = .dict es ep->H b=none:=fun{b o es ep} e d=>by
   cases q:H b with
   | none=>rfl
   | some u =>
    have e':b=a:=hA b (by rw[q];simp)
    subst e';rw[ha]at e;cases e;have d':Data.seq vs.toArray _=Data.dict es ep:=d;cases d'
  have nsK:∀{b:Addr}{m:Str->Option Value},s₁.heap.Ns b m ->(sh s₁.heap H).Ns b m:=fun{b m} ⟨o,es,ep,e,d,r⟩=>⟨o,es,ep,x5 e (noA e d),d,r⟩
  have hKb:K.In (sh s₁.heap H):=fun b o e=>x5 (KX b o e) (by
   cases q:H b with
   | none=>rfl
   | some u =>
    have e':b=a:=hA b (by rw[q];simp)
    subst e';rw[hK (by rw[q];simp)]at e;cases e)
  have hM:Mod K mg (sh s₁.heap H):=⟨hKb,nsK hns,⟨mb,nsK hb,hbb⟩,let⟨mc,h1,h2⟩:=JN;⟨mc,nsK h1,h2⟩⟩
  have e0:wQ P w K mg (sh s₁.heap H) callerA [] s₁ H:=⟨rfl,hM,fun b o e=>Dr e,Nat.le_of_eq (yL _ _),trivial,fun b hb=>absurd (show b∈([]:List Addr)from hb) (by simp),hok,.of_eq hg⟩
  refine codeAny_mono ((F _ hKb (nsK hns)).run callerA [] s₁ H ⟨[.ref a],[]⟩ [.ref a] [.ref a] _ _ hr e0 (IH s₁ (.ref a)) (.cons rfl .nil) (hsp H hO hS)) fun r s' h=>?_
  cases r with
  | error e=>exact(hCX H e s' h).elim
  | ok fl =>
   cases fl with
   | next=>exact False.elim h
   | brk=>exact False.elim h
   | cont=>exact False.elim h
   | ret u =>
    obtain⟨v,H',os,bare,un,JK,r',q⟩:=h;have q':v = .bl true:=q;subst q';obtain rfl:u=Value.bool true:=r';refine⟨rfl,OldK.of_keep fun b o e=>?_,os,bare⟩
    cases q:H b with
    | none=>exact un.keep b o e q (by intro z;exact absurd (show b∈([]:List Addr)from z) (by simp)) (by simp)
    | some u =>
     rcases hO b with z |⟨ob,xs,z⟩
     ·rw[q]at z;cases z
     ·have z2:=un.jQ b ob _ z;obtain⟨e1,_⟩:=hok b _ z;obtain⟨e2,_⟩:=JK b _ z2;rw[e]at e1;cases e1;exact e2
 cases hk:K.lookup a with
 | some o =>
  have e:=KX a o hk;rw[ha]at e;cases e;refine core (fun _=>none) (fun _=>.inl rfl) (.inr ⟨_,vs.toArray,_,hk,rfl,rfl,rfl,by rw[List.size_toArray,JA];exact hl,by simpa using rv⟩) (fun b u z=>by have z':(none:Option HO)=some u:=z;cases z') (fun b z=>absurd rfl z) fun z=>absurd rfl z
 | none =>
  refine core (fun b=>if b=a then some (.frz { cls:=.type "list",data:=.seq vs.toArray } (.lst (ns.map V.int)))else none) (fun b=>?_) (.inl (.inr ⟨{ cls:=.type "list",data:=.seq vs.toArray },if_pos rfl⟩)) (fun b u z=>?_) (fun b z=>?_) fun _=>hk
  ·by_cases hb:b=a
   ·exact .inr ⟨_,_,if_pos hb⟩
   ·exact .inl (if_neg hb)
  ·by_cases hb:b=a
   ·have z':=(if_pos hb).symm.trans z;cases z';subst hb;exact⟨ha,by rw[List.length_map];exact hl,vs,_,rv,ha⟩
   ·have z':=(if_neg hb).symm.trans z;cases z'
  ·by_cases hb:b=a
   ·exact hb
   ·exact absurd (if_neg hb) z
theorem B7{l:W.OpenLaw}{n k:Nat}{q:Program}{loose:List Str}{XP:(Str->Option Value)->Heap->Prop}{YP:World->Heap->Prop}{d:DefRec}{K:Params->W.Frag}{CX:World->CXT}{sp:World->Sp}{x:Str}
  (hn:l.most=some n) (hn2:n<=sizeLine) (hdf:d.params.defaults = []) (hr:cU k callerA)
  (hY:∀(w:World)(h:Heap),YP w h ->(K w.params).In h)
  (F:∀(w:World)(mg:Str->Option Value)(fa:Addr)(h:Heap),(K w.params).In h->h.Ns mainGlobals mg->mg d.name=some (.ref fa) ->
   ∃ fd:FuncData,(∀(s:Shared)(u:Value),BindsTo s fd ⟨[u],[]⟩ [(x,u)]) /\
    ∀ base:Heap,(K w.params).In base->base.Ns mainGlobals mg->aH l.prog w (K w.params) mg base (CX w) k fa fd [x] (sp w))
  (hsp:∀(w:World)(H:Hp)(a:Addr)(ns:List Int),ns.length<=n->EU H->SqL (K w.params) H a (ns.map V.int)->sp w [.ref a] H (fun v _=>v = .bl true) fun _ _ _=>False)
  (hCX:∀(w:World)(H:Hp)(s:Shared)(e:Value)(s':Shared),CX w [] H s (fun _ _ _=>False) e s'->False) :
  W.WalkO q loose XP YP l.row.toRowW d [] (fun f vs=>PySem.call f vs):=by
 refine Att.uO hn hdf fun w s₀ s₁ mg mb fa o pm cd doc a vs ns G Y ho hd hcd hmg Ha hints hlen hg=>?_
 have KX:=hY w _ Y;obtain⟨fd,hb,hF⟩:=F w mg fa _ KX G.T.g hmg;exact A4 KX G.T.g G.T.b G.T.builtins G.T.nolimit hg Ha hints (Nat.le_trans hlen hn2) hr hF hb (fun H hO hS=>hsp w H a ns hlen hO hS) fun H e s'=>hCX w H s₁ e s'
def inClass(s:Stmt)(j:Nat):Stmt:=match s with
 | .ClassDef _ _ _ body _ _ _ _ _ _ _=>body.getD j (.Pass ⟨0,0,0,0⟩)
 | _=>.Pass ⟨0,0,0,0⟩
def aO(s:Stmt):Arguments:=match s with
 | .FunctionDef _ a _ _ _ _ _ _ _ _=>a
 | _=>{ posonlyargs:=[],args:=[],vararg:=none,kwonlyargs:=[],kw_defaults:=[],kwarg:=none,defaults:=[] }
def aE(s:Stmt):List Stmt:=match s with
 | .FunctionDef _ _ b _ _ _ _ _ _ _=>b
 | _=>[]
def ak(s:Stmt):Scope:=match s with
 | .FunctionDef _ _ _ _ _ _ sc _ _ _=>sc
 | _=>{ kind:=.function,names:=[],isGenerator:=false,isCoroutine:=false }
abbrev CX0:CXT:=fun _ _ _ _ _ _=>False
abbrev E0:XK:=fun _ _ _=>False
theorem xw{X:Cx}:Passes CX0 X E0:=fun _ _ _ _ _ _ _ h=>h.elim
structure Fun(K:W.Frag)(x qual:Str)(st:Stmt)(f:Addr)(fd:FuncData):Prop where
 ex:∃(oc:Value)(od:Option Addr)(kV doc pm:Value)(an:Option Addr)(cdv ct:Value)(osl:Array (Option Value)),
  fd=W.fnOf x qual (aO st) (aE st) (ak st) .none kV doc pm an cdv ct/\K.lookup f=some ⟨oc,od,.func fd,osl⟩/\W.codeIn K cdv qual=true
 kp:W.keepIn K (.ref f)=true
section
variable{P:Program}{w:World}{K:W.Frag}{mg:Str->Option Value}{base:Heap}
theorem Fun.ok{x qual:Str}{st:Stmt}{f:Addr}{fd:FuncData}{N ps:List Str}{k:Nat}{sp:Sp}(F:Fun K x qual st f fd)(S:aP N ps (ak st))(len:∀ vs H Q E,sp vs H Q E->vs.length=ps.length)
  (jO:∀(cdv:Value)(A:Around)(outer:List Env)(s:Shared)(H:Hp)(vs:List V)(Q:VK)(E:XK),cU k (A.deeper (envOfC qual (ak st) s.heap.objs.size f cdv))->sp vs H Q E ->
   ∃ t,PSs (oT CX0 P w K mg base N qual (ak st) f cdv A outer s H E).nox (aE st) t/\t { nx:=fun _ H'=>Q .non H',rt:=Q } (start N vs) H):aH P w K mg base CX0 (k+1) f fd ps sp:=by
 obtain⟨oc,od,kV,doc,pm,an,cdv,ct,osl,rfl,lk,hcd⟩:=F.ex;refine IQ lk hcd S len fun A outer s H vs Q E hr hsp=>?_
 obtain⟨t,h,q⟩:=jO cdv A outer s H vs Q E hr hsp;exact⟨t,h.nox,q⟩
theorem Fun.binds{x qual:Str}{st:Stmt}{f:Addr}{fd:FuncData}{ps:List Str}(F:Fun K x qual st f fd)
  (h:∀(kV doc pm:Value)(an:Option Addr)(cdv ct:Value)(us:List Value),us.length=ps.length->bindArgs (W.fnOf x qual (aO st) (aE st) (ak st) .none kV doc pm an cdv ct) ⟨us,[]⟩=pure (ps.zip us)):Binds K fd ps []:=by
 obtain⟨oc,od,kV,doc,pm,an,cdv,ct,osl,rfl,lk,hcd⟩:=F.ex;exact .all (h kV doc pm an cdv ct)
theorem bw{x qual:Str}{st:Stmt}{f:Addr}{oc:Value}{od an:Option Addr}{osl:Array (Option Value)}{kV doc pm cdv ct:Value}(l:K.lookup f=some ⟨oc,od,.func (W.fnOf x qual (aO st) (aE st) (ak st) .none kV doc pm an cdv ct),osl⟩)
  (c:W.codeIn K cdv qual=true) (k:W.keepIn K (.ref f)=true):Fun K x qual st f (W.fnOf x qual (aO st) (aE st) (ak st) .none kV doc pm an cdv ct):=⟨⟨oc,od,kV,doc,pm,an,cdv,ct,osl,rfl,l,c⟩,k⟩
end
theorem cv{A:Around}{k:Nat}(hr:cU k A):A.units+1<cLine:=Nat.lt_of_le_of_lt (Nat.add_le_add_left (by decide:1<=64) _) hr.units
theorem aB{n:Nat}(h:n<=1000):n<sizeLine:=Nat.lt_of_le_of_lt h (by decide)
section
variable{X:Cx}
theorem pv(i:Nat){x:Str}{pos:Pos}(hN:X.N[i]? = some x:=by rfl)(hv:Vis X.env.scope x:=by first|exact Or.inl rfl|exact Or.inr (Or.inl rfl)|exact Or.inr (Or.inr rfl))(hd:(x ==("__debug__":Str))=false:=by decide)
  (hcd:(x ==("__classdict__":Str))=false:=by decide):PE X (.Name x pos) (bS i):=Au hN hv hd hcd
end
theorem JE{A B:Prop}(h:B):if false=true then A else B:=by
 rw[if_neg Bool.false_ne_true];exact h
theorem bu{c A B:Prop} [Decidable c] (h1:c->A) (h2:¬ c->B):if c then A else B:=by
 by_cases h:c
 ·rw[if_pos h];exact h1 h
 ·rw[if_neg h];exact h2 h
def jm(H H':Hp):Prop:=∀ b o,H b=some o->H' b=some o
theorem jm.refl(H:Hp):jm H H:=fun _ _ h=>h
theorem jm.free{H H':Hp}(e:jm H H'){l:Addr}(h:H' l=Option.none):H l=Option.none:=by
 cases q:H l with
 | none=>rfl
 | some o =>
  rw[e l o q]at h;cases h
section
variable{κ:Type} [DecidableEq κ]
def dC(kvs:List (κ×V))(k:κ):Option V:=(kvs.find? fun kv=>decide (kv.1=k)).map (·.2)
def putK(kvs:List (κ×V))(k:κ)(v:V):List (κ×V) :=
 if(kvs.any fun kv=>decide (kv.1=k))=true then kvs.map (fun kv=>if kv.1=k then(kv.1,v)else kv)else kvs ++ [(k,v)]
theorem mq{p:κ×V}{r:List (κ×V)}{k:κ}(e:p.1=k):dC (p::r) k=some p.2:=by simp[dC,List.find?_cons,e]
theorem mr{p:κ×V}{r:List (κ×V)}{k:κ}(e:¬ p.1=k):dC (p::r) k=dC r k:=by simp[dC,List.find?_cons,e]
theorem tG(k:κ):∀ kvs:List (κ×V),(kvs.any fun kv=>decide (kv.1=k)) =(dC kvs k).isSome
 | []=>rfl
 | p::r=>by
  rw[List.any_cons];by_cases e:p.1=k
  ·simp only[mq e,decide_eq_true e,Bool.true_or,Option.isSome_some]
  ·rw[mr e,decide_eq_false e,Bool.false_or];exact tG k r
theorem gR(kvs:List (κ×V))(k:κ)(v:V):(putK kvs k v).length<=kvs.length+1:=by
 unfold putK
 split
 ·rw[List.length_map];omega
 ·rw[List.length_append,List.length_cons,List.length_nil];omega
theorem iy.fE{o:Option V}{u:Option Value}(r:iy o u):o.isSome=u.isSome:=by
 cases o with
 | none=>cases u with
  | none=>rfl
  | some _=>exact(show False from r).elim
 | some _=>cases u with
  | none=>exact(show False from r).elim
  | some _=>rfl
theorem iy.getD{o:Option V}{u:Option Value}{d:V}{d':Value}(r:iy o u)(rd:RelV d d'):RelV (o.getD d) (u.getD d'):=by
 cases o with
 | none=>cases u with
  | none=>exact rd
  | some _=>exact(show False from r).elim
 | some _=>cases u with
  | none=>exact(show False from r).elim
  | some _=>exact r
theorem KV.val{kvs:List (κ×V)}{vs:List (κ×Value)}(r:KV kvs vs)(k:κ):iy (dC kvs k) (valueAt vs k):=by
 unfold KV at r
 induction r with
 | nil=>exact True.intro
 | @cons p q ps qs h t ih =>
  obtain⟨h1,h2⟩:=h;by_cases e:p.1=k
  ·have e':q.1=k:=h1.symm.trans e;have b:valueAt (q::qs) k=some q.2:=by simp[valueAt,List.find?_cons,e']
   rw[mq e,b];exact h2
  ·have e':¬ q.1=k:=fun z=>e (h1.trans z)
   have b:valueAt (q::qs) k=valueAt qs k:=by simp[valueAt,List.find?_cons,e']
   rw[mr e,b];exact ih
theorem KV.any{kvs:List (κ×V)}{vs:List (κ×Value)}(r:KV kvs vs)(k:κ):(kvs.any fun kv=>decide (kv.1=k))=vs.any fun kv=>decide (kv.1=k):=by
 unfold KV at r
 induction r with
 | nil=>rfl
 | cons h t ih=>rw[List.any_cons,List.any_cons,ih,h.1]
theorem KV.FT{kvs:List (κ×V)}{vs:List (κ×Value)}(r:KV kvs vs)(k:κ){y:V}{u:Value}(ry:RelV y u) :
  KV (kvs.map fun kv=>if kv.1=k then(kv.1,y)else kv) (vs.map fun kv=>if kv.1=k then(kv.1,u)else kv):=by
 unfold KV at r ⊢
 induction r with
 | nil=>exact .nil
 | @cons p q ps qs h t ih =>
  rw[List.map_cons,List.map_cons];refine .cons ?_ ih;obtain⟨h1,h2⟩:=h;by_cases e:p.1=k
  ·rw[if_pos e,if_pos (h1.symm.trans e)];exact⟨h1,ry⟩
  ·rw[if_neg e,if_neg (fun z=>e (h1.trans z))];exact⟨h1,h2⟩
theorem KV.put{kvs:List (κ×V)}{vs:List (κ×Value)}(r:KV kvs vs)(k:κ){y:V}{u:Value}(ry:RelV y u):KV (putK kvs k y) (stored vs k u):=by
 unfold putK stored;rw[r.any k];by_cases e:(vs.any fun kv=>decide (kv.1=k))=true
 ·rw[if_pos e,if_pos e];exact r.FT k ry
 ·rw[if_neg e,if_neg e];exact Paired.snoc r ⟨rfl,ry⟩
theorem KV.length{kvs:List (κ×V)}{vs:List (κ×Value)}(r:KV kvs vs):kvs.length=vs.length:=Paired.length r
end
theorem jN{P:Program}{w:World}{k:Key}{u:Value}(r:RelV (kV k) u):(a6 P w).is k u=true:=by
 cases k with
 | inl i=>obtain⟨t,e⟩:=(show ∃ t,u=Value.int i t from r);subst e;exact uq P w i t
 | inr x=>obtain⟨t,e⟩:=(show ∃ t,u=Value.str x t from r);subst e;exact uo P w x t
theorem pO{P:Program}{w:World}:∀{ks:List Key}{us:List Value},Vals (ks.map kV) us->ItemsAre (a6 P w) ks us
 | [],_,r=>by rw[List.map_nil]at r;cases r;exact .nil
 | k::ks,_,r=>by
  rw[List.map_cons]at r;cases r with
  | cons h t=>exact .cons (jN h) (pO t)
abbrev KT(H:Hp):List (List Key×V)->List (List Key×Addr×Value)->Prop:=Paired fun p q=>p.1=q.1/\H q.2.1=some (.tup (p.1.map kV))/\RelV p.2 q.2.2
theorem KT.val{H:Hp}{kvs:List (List Key×V)}{xs:List (List Key×Addr×Value)}(r:KT H kvs xs)(k:List Key):iy (dC kvs k) ((atKey xs k).map (·.2)):=by
 induction r with
 | nil=>exact True.intro
 | @cons p q ps qs h t ih =>
  obtain⟨h1,_,h2⟩:=h;by_cases e:p.1=k
  ·have e':q.1=k:=h1.symm.trans e;have b:atKey (q::qs) k=some q.2:=by simp[atKey,List.find?_cons,e']
   rw[mq e,b];exact h2
  ·have e':¬ q.1=k:=fun z=>e (h1.trans z)
   have b:atKey (q::qs) k=atKey qs k:=by simp[atKey,List.find?_cons,e']
   rw[mr e,b];exact ih
theorem KT.FT{H:Hp}{kvs:List (List Key×V)}{xs:List (List Key×Addr×Value)}(r:KT H kvs xs)(k:List Key){y:V}{u:Value}(ry:RelV y u) :
  KT H (kvs.map fun kv=>if kv.1=k then(kv.1,y)else kv) (xs.map (putAt k u)):=by
 induction r with
 | nil=>exact .nil
 | @cons p q ps qs h t ih =>
  rw[List.map_cons,List.map_cons];refine .cons ?_ ih;obtain⟨h1,h2,h3⟩:=h;unfold putAt;by_cases e:p.1=k
  ·rw[if_pos e,if_pos (h1.symm.trans e)];exact⟨h1,h2,ry⟩
  ·rw[if_neg e,if_neg (fun z=>e (h1.trans z))];exact⟨h1,h2,h3⟩
theorem KT.put{H:Hp}{kvs:List (List Key×V)}{xs:List (List Key×Addr×Value)}(r:KT H kvs xs)(k:List Key){b:Addr}{y:V}{u:Value}(hb:H b=some (.tup (k.map kV)))(ry:RelV y u) :
  KT H (putK kvs k y) (storedH xs k b u):=by
 have e:(kvs.any fun kv=>decide (kv.1=k)) =(atKey xs k).isSome:=by
  rw[tG,(r.val k).fE,Option.isSome_map]
 unfold putK storedH;rw[e];by_cases q:(atKey xs k).isSome=true
 ·rw[if_pos q,if_pos q];exact r.FT k ry
 ·rw[if_neg q,if_neg q];exact Paired.snoc r ⟨rfl,hb,ry⟩
theorem KT.keeps{H H':Hp}{kvs:List (List Key×V)}{xs:List (List Key×Addr×Value)}(r:KT H kvs xs)(ht:∀ b ys,H b=some (.tup ys)->H' b=some (.tup ys)):KT H' kvs xs :=
 Paired.GJ r fun _ _ z=>⟨z.1,ht _ _ z.2.1,z.2.2⟩
section
variable{P:Program}{w:World}{H:Hp}{h:Heap}{a:Addr}
theorem E6{u:HO}(ok:HOk P w H h)(e:Rd H a u):bt P w H h a u:=e.ok ok
theorem iW{kvs:List (Key×V)}(ok:HOk P w H h)(e:Rd H a (.dK kvs)):kvs.length<=sizeLine/\(a==sysModules)=false/\∃ vs,KV kvs vs/\h.DictOf (a6 P w) a vs :=
 show bt P w H h a (.dK kvs)from E6 ok e
theorem Fo{kvs:List (Key×V)}(ok:HOk P w H h)(e:H a=some (.dK kvs)):kvs.length<=sizeLine/\(a==sysModules)=false/\∃ vs,KV kvs vs/\h.DictOf (a6 P w) a vs:=iW ok (.inl e)
theorem kQ{ks:List Key}(ok:HOk P w H h)(e:H a=some (.tup (ks.map kV))):(tupleKind (a6 P w)).is h ks a:=by
 obtain⟨_,its,r,⟨o,h1,h2,n,h3⟩,_⟩:=(show bt P w H h a (.tup (ks.map kV))from ok a _ e);exact⟨o,its.toArray,n,h1,h2,h3,by simpa using pO r⟩
theorem nH{kvs:List (List Key×V)}(ok:HOk P w H h)(e:Rd H a (.dT kvs)):kvs.length<=sizeLine/\(a==sysModules)=false /\
  ∃ xs,KT H kvs xs/\h.DictOfH (tupleKind (a6 P w)) a xs:=by
 obtain⟨z,y,xs,r,o,es,ep,h1,h2,h3,h4,h5⟩:=(show bt P w H h a (.dT kvs)from E6 ok e);refine⟨z,y,xs,r,o,es,ep,h1,h2,h3,h4,fun x hx=>?_,h5⟩
 have all:∀{l:List (List Key×V)}{m:List (List Key×Addr×Value)},KT H l m->∀ x∈m,(tupleKind (a6 P w)).is h x.1 x.2.1:=by
  intro l m q
  induction q with
  | nil=>intro x hx;exact nomatch hx
  | @cons p q ps qs hq t ih =>
   intro x hx;rcases List.mem_cons.mp hx with e|hx
   ·subst e;exact kQ ok (by rw[<- hq.1];exact hq.2.1)
   ·exact ih x hx
 exact all r x hx
theorem IT{kvs:List (List Key×V)}(ok:HOk P w H h)(e:H a=some (.dT kvs)):kvs.length<=sizeLine/\(a==sysModules)=false /\
  ∃ xs,KT H kvs xs/\h.DictOfH (tupleKind (a6 P w)) a xs:=nH ok (.inl e)
end
def fI(H:Hp)(a:Addr)(y:V)(r:Option V):Prop :=
 (∃ kvs k,Rd H a (.dK kvs)/\y=kV k/\r=dC kvs k)\/∃ kvs k b,Rd H a (.dT kvs)/\y = .ref b/\H b=some (.tup (k.map kV))/\r=dC kvs k
def tu(H:Hp)(a:Addr)(y v:V)(H':Hp):Prop :=
 (∃ kvs k,H a=some (.dK kvs)/\y=kV k/\kvs.length<sizeLine/\H'=upd H a (.dK (putK kvs k v))) \/
 ∃ kvs k b,H a=some (.dT kvs)/\y = .ref b/\H b=some (.tup (k.map kV))/\kvs.length<sizeLine/\H'=upd H a (.dT (putK kvs k v))
theorem fI.k{H:Hp}{a:Addr}{kvs:List (Key×V)}{k:Key}(e:H a=some (.dK kvs)):fI H a (kV k) (dC kvs k):=.inl ⟨kvs,k,.inl e,rfl,rfl⟩
theorem tu.k{H:Hp}{a:Addr}{kvs:List (Key×V)}{k:Key}{v:V}(e:H a=some (.dK kvs))(hl:kvs.length<sizeLine):tu H a (kV k) v (upd H a (.dK (putK kvs k v))):=.inl ⟨kvs,k,e,rfl,hl,rfl⟩
section
variable{X:Cx}{pins:List (Addr×Obj)}{σ:St}{H:Hp}{s:Shared}{a:Addr}{y v:V}{u r:Value}{o:Option V}{A:Around}{E:Value->Shared->Prop}
theorem Inv.big(I:Inv X pins σ H s):sysModules<s.heap.objs.size:=by
 have h:mainGlobals<s.heap.objs.size:=(I.mod.glob.keeps I.bk).lt;exact Nat.lt_trans (by decide) h
theorem yR{Q:Value->Shared->Prop}(hu:A.units+1<cLine)(I:Inv X pins σ H s)(g:fI H a y (some v))(ry:RelV y u)(h:∀ w' s',Inv X pins σ H s'->RelV v w'->Q w' s') :
  wpAny (model X.prog X.w) A (getItem (.ref a) u) Q E s:=by
 rcases g with⟨kvs,k,e,ey,l⟩ |⟨kvs,k,b,e,ey,eb,l⟩
 ·subst ey;obtain⟨z,hd,vs,rel,dd⟩:=iW I.hok e;obtain⟨w',hw,rw'⟩:=iy.some_of (v:=v) (o:=valueAt vs k) (by rw[l];exact rel.val k)
  exact wpAny_getItem_of (jN ry) dd.mapOf hw (h w' _ (I.tok _) rw')
 ·subst ey
  cases(show u=Value.ref b from ry)
  obtain⟨z,hd,xs,rel,dd⟩:=nH I.hok e;obtain⟨w',hw,rw'⟩:=iy.some_of (v:=v) (o:=(atKey xs k).map (·.2)) (by rw[l];exact rel.val k)
  obtain⟨p,hp,hp2⟩:=Option.map_eq_some_iff.mp hw;refine wpAny_getItem_heap (tupleKind_room_in1 hu) (kQ I.hok eb) dd hp ?_;rw[hp2];exact h w' _ (I.tok _) rw'
theorem JY{Q:Value->Shared->Prop}(hu:A.units+1<cLine)(I:Inv X pins σ H s)(g:fI H a y o)(ry:RelV y u)(h:∀ s',Inv X pins σ H s'->Q (.bool o.isSome) s') :
  wpAny (model X.prog X.w) A (compareOp .In u (.ref a)) Q E s:=by
 rcases g with⟨kvs,k,e,ey,l⟩ |⟨kvs,k,b,e,ey,eb,l⟩
 ·subst ey;obtain⟨z,hd,vs,rel,dd⟩:=iW I.hok e;refine wpAny_in_of (jN ry) hd dd.mapOf ?_;rw[<- (rel.val k).fE,<- l];exact h _ (I.tok _)
 ·subst ey
  cases(show u=Value.ref b from ry)
  obtain⟨z,hd,xs,rel,dd⟩:=nH I.hok e;refine wpAny_in_heap (tupleKind_room_in1 hu) (kQ I.hok eb) hd dd ?_;have q:=(rel.val k).fE;rw[Option.isSome_map]at q;rw[<- q,<- l];exact h _ (I.tok _)
theorem Et{Q:Value->Shared->Prop}(hu:A.units+1<cLine)(I:Inv X pins σ H s)(g:fI H a y o)(ry:RelV y u)(h:∀ s',Inv X pins σ H s'->Q (.bool (!o.isSome)) s') :
  wpAny (model X.prog X.w) A (compareOp .NotIn u (.ref a)) Q E s:=by
 rcases g with⟨kvs,k,e,ey,l⟩ |⟨kvs,k,b,e,ey,eb,l⟩
 ·subst ey;obtain⟨z,hd,vs,rel,dd⟩:=iW I.hok e;refine wpAny_notIn_of (jN ry) hd dd.mapOf ?_;rw[<- (rel.val k).fE,<- l];exact h _ (I.tok _)
 ·subst ey
  cases(show u=Value.ref b from ry)
  obtain⟨z,hd,xs,rel,dd⟩:=nH I.hok e;refine wpAny_notIn_heap (tupleKind_room_in1 hu) (kQ I.hok eb) hd dd ?_;have q:=(rel.val k).fE;rw[Option.isSome_map]at q;rw[<- q,<- l];exact h _ (I.tok _)
theorem sy{h':Heap}{t':Nat}{ob:HO}(I:Inv X pins σ H s)(mu:Mut (H a))(hs:Heap.SameBut a s.heap h')(he:∃ q,h'.get? a=some q)(new:bt X.prog X.w (upd H a ob) h' a ob) :
  Inv X pins σ (upd H a ob) { s with heap:=h',toks:=t' } :=
 I.write (x:=a) (e:=a) mu (.inl rfl) (fun b q hb z=>(hs.2 b hb).trans z) he new
theorem so{P:Program}{w:World}{H':Hp}{h':Heap}{kvs:List (Key×V)}{vs:List (Key×Value)}(z:kvs.length<=sizeLine)(hd:(a==sysModules)=false)(rel:KV kvs vs)(dd:h'.DictOf (a6 P w) a vs) :
  bt P w H' h' a (.dK kvs):=⟨z,hd,vs,rel,dd⟩
theorem yQ{H':Hp}{Q:Unit->Shared->Prop}(hu:A.units+1<cLine)(I:Inv X pins σ H s)(g:tu H a y v H')(ry:RelV y u)(rv:RelV v r)(h:∀ s',Inv X pins σ H' s'->Q () s') :
  wpAny (model X.prog X.w) A (setItem (.ref a) u r) Q E s:=by
 rcases g with⟨kvs,k,e,ey,l,eH⟩ |⟨kvs,k,b,e,ey,eb,l,eH⟩
 ·subst ey eH;obtain⟨z,hd,vs,rel,dd⟩:=Fo I.hok e;have hz:vs.length<=sizeLine:=by rw[<- rel.length];exact z
  have hl:(putK kvs k v).length<=sizeLine:=by have:=gR kvs k v;omega
  refine wpAny_setItem_pairs (hsz:=hz) (jN ry) dd fun h' dd' hs=>h _ ?_
  have he:∃ q,h'.get? a=some q:=let⟨q,_,_,hq,_⟩:=dd';⟨q,hq⟩
  exact sy I (by rw[e];exact True.intro) hs he (so hl hd (rel.put k rv) dd')
 ·subst ey eH
  cases(show u=Value.ref b from ry)
  obtain⟨z,hd,xs,rel,dd⟩:=IT I.hok e;have hz:xs.length<=sizeLine:=by rw[<- Paired.length rel];exact z
  have hl:(putK kvs k v).length<=sizeLine:=by have:=gR kvs k v;omega
  refine wpAny_setItem_heap (hsz:=hz) (tupleKind_room_in1 hu) (kQ I.hok eb) dd fun h' dd' hs=>h _ ?_
  obtain⟨q,es,ep,hq,h2,h3,h4,_,h5⟩:=dd';refine sy I (by rw[e];exact True.intro) hs ⟨q,hq⟩ ⟨hl,hd,_,(rel.put k eb rv).keeps fun c ys ec=>?_,q,es,ep,hq,h2,h3,h4,h5⟩
  rw[aj (iS ec e (fun z=>nomatch z))]
  exact ec
end
section
variable{X:Cx}{pins:List (Addr×Obj)}{σ:St}{H:Hp}{s:Shared}{a:Addr}{kvs:List (Key×V)}{k:Key}{u:Value}{A:Around}{E:Value->Shared->Prop}
theorem IV{Q:Value->Shared->Prop}(I:Inv X pins σ H s)(e:Rd H a (.dK kvs))(h:∀ t s',Inv X pins σ H s'->Q (.int kvs.length t) s'):wpAny (model X.prog X.w) A (call (.builtin "len") [.ref a]) Q E s:=by
 obtain⟨z,hd,vs,rel,dd⟩:=iW I.hok e;refine call_len_dict hd dd (by rw[<- rel.length];rw[sizeLine_eq]at z;omega) ?_
 rw[<- rel.length];exact h _ _ (I.tok _)
end
def Jh(i:Expr):Prop:=∀ ov iv,subscripted i false ov iv=operate [ov,iv] (getItem ov iv)
theorem Cb{prog:Program}{w:World}{A:Around}{E:Value->Shared->Prop}{s:Shared}{env:Env}{value slice:Expr}{pos:Pos}{T id:String}{Q:Value->Shared->Prop}
  (hl:typeLookup (.type T) "__getitem__" = pure (some (.builtin id))) (hs:Jh slice)
  (h:wpAny (model prog w) A (eval value env) (fun o s₁=>wpAny (model prog w) A (eval slice env) (fun i s₂=>s₂.TypeIs o T/\wpAny (model prog w) A (getItem o i) Q E s₂) E s₁) E s) :
  wpAny (model prog w) A (eval (.Subscript value slice pos) env) Q E s:=by
 refine Subscript_ (wpAny_mono h (fun o s₁ h₁=>wpAny_mono h₁ (fun i s₂ h₂=>?_) fun _ _ x=>x) fun _ _ x=>x)
 obtain⟨hT,h₂⟩:=h₂;unfold subscriptTail;refine wpAny_bind ?_;rw[getitemInPython_of_ne hT.not_modules];refine wpAny_bind (wpAny_specialOf hT hl ?_);have fin:wpAny (model prog w) A (subscripted slice false o i) (fun r s₃=>wpAny (model prog w) A (letTemporaryGo value o r >>= fun _=>pure r) Q E s₃) E s₂:=by
  rw[hs o i];exact wpAny_operating (wpAny_mono h₂ (fun r s₃ h₃=>wpAny_bind (wpAny_letTemporaryGo (wpAny_pure h₃))) fun _ _ x=>x)
 first
  | exact wpAny_pure (wpAny_bind fin)
  | exact wpAny_bind (wpAny_pure (wpAny_bind fin))
  | exact wpAny_bind fin
theorem uF{X:Cx}{pins:List (Addr×Obj)}{σ:St}{H:Hp}{s:Shared}{a:Addr}{y:V}{o:Option V}(I:Inv X pins σ H s)(g:fI H a y o):s.TypeIs (.ref a) "dict":=by
 rcases g with⟨kvs,k,e,_,_⟩ |⟨kvs,k,b,e,_,_,_⟩
 ·obtain⟨_,_,vs,_,dd⟩:=iW I.hok e;exact dd.typeIs
 ·obtain⟨_,_,xs,_,dd⟩:=nH I.hok e;exact dd.typeIs
def HA(td ty:TE):TE:=fun σ H Q=>td σ H fun x H1=>ty σ H1 fun y H2=>∃ a v,x = .ref a/\fI H2 a y (some v)/\Q v H2
def zL(td ty tv:TE):TS:=fun D σ H=>tv σ H fun v H1=>td σ H1 fun x H2=>ty σ H2 fun y H3=>∃ a H4,x = .ref a/\tu H3 a y v H4/\D.nx σ H4
section
variable{X:Cx}{o i e value:Expr}{pos pos' Jl:Pos}{td ty tv:TE}
theorem fT(hu:X.A.units+1<cLine)(ho:PE X o td)(hi:PE X i ty)(hs:Jh i):PE X (.Subscript o i pos) (HA td ty):=by
 intro pins s σ H Q I h;refine Cb PySem.F.slot_dict_getitem.lookup hs (thn (ho pins s σ H _ I h) fun u s1 ⟨x,H1,I1,rx,q1⟩=>thn (hi pins s1 σ H1 _ I1 q1) fun iv s2 hPP=>?_)
 obtain⟨y,H2,I2,ry,a,v,ex,g,q2⟩:=hPP;subst ex;obtain rfl:u=Value.ref a:=rx;exact⟨uF I2 g,yR hu I2 g ry fun w' s3 I3 rw'=>⟨v,H2,I3,rw',q2⟩⟩
theorem ma(hu:X.A.units+1<cLine)(ho:PE X o td)(hi:PE X i ty)(hv:PE X value tv)(hs:swapsWith value (some (.Subscript o i pos')) pos.line X.env=pure false) :
  PS X (.Assign [.Subscript o i pos'] value pos) (zL td ty tv):=by
 intro pins s σ H D I h;refine wpAny_Assign_Subscript (thn (hv pins s σ H _ I h) fun r s1 ⟨v,H1,I1,rv,q1⟩=>thn (ho pins s1 σ H1 _ I1 q1) fun u s2 ⟨x,H2,I2,rx,q2⟩=>thn (hi pins s2 σ H2 _ I2 q2) fun iv s3 hPP=>?_) hs
 obtain⟨y,H3,I3,ry,a,H4,ex,g,q3⟩:=hPP;subst ex;obtain rfl:u=Value.ref a:=rx;exact yQ hu I3 g ry rv fun s4 I4=>⟨σ,H4,I4,q3⟩
end
theorem uE{P:Program}{w:World}{H:Hp}(h:Heap)(hb:sysModules<h.objs.size):bt P w H (h.push { cls:=.type "dict",data:=.dict #[] }) h.objs.size (.dK []) :=
 ⟨Nat.zero_le _,beq_eq_false_iff_ne.mpr (Ne.symm (Nat.ne_of_lt hb)),[],.nil,Heap.DictOf.new h⟩
def zi:TE:=fun _ H Q=>∀ p,H p=none->Q (.ref p) (upd H p (.dK []))
section
variable{X:Cx}{pos:Pos}
theorem Ax:PE X (.Dict [] [] pos) zi:=fun pins s σ H Q I h =>
 wpAny_Dict_empty ⟨.ref s.heap.objs.size,_,I.laid (a:=s.heap.objs.size) (o:=.dK []) (t':=s.toks) (fun _ _ q=>Heap.get?_push_of_some _ q) (Nat.le_refl _) (uE s.heap I.big),rfl,h _ (I.hok.fresh (Nat.le_refl _))⟩
end
def u4:List (TE×TE)->St->Hp ->(List (V×V)->Hp->Prop)->Prop
 | [],_,H,Q=>Q [] H
 | (tk,tv)::r,σ,H,Q=>tk σ H fun x H1=>tv σ H1 fun y H2=>u4 r σ H2 fun ps H3=>Q ((x,y)::ps) H3
abbrev VV:List (V×V)->List (Value×Value)->Prop:=Paired fun p q=>RelV p.1 q.1/\RelV p.2 q.2
def PPs(X:Cx)(pos:Pos)(keys:List (Option Expr))(values:List Expr)(trs:List (TE×TE)):Prop :=
 ∀(pins:List (Addr×Obj))(s:Shared)(σ:St)(H:Hp)(Q:List (V×V)->Hp->Prop),Inv X pins σ H s->u4 trs σ H Q ->
  wpAny (model X.prog X.w) X.A (evalPairs (pairTrees keys values X.env pos)) (fun vs s'=>∃ ps H',Inv X pins σ H' s'/\VV ps vs/\Q ps H') X.xe s
theorem CV{X:Cx}{pos:Pos}:PPs X pos [] [] []:=fun pins s σ H Q I h=>pairTrees_nil_walk ⟨[],H,I,.nil,h⟩
theorem mU{X:Cx}{pos:Pos}{k v:Expr}{ks:List (Option Expr)}{vs:List Expr}{tk tv:TE}{trs:List (TE×TE)}(hk:PE X k tk)(hv:PE X v tv)(hr:PPs X pos ks vs trs) :
  PPs X pos (some k::ks) (v::vs) ((tk,tv)::trs):=fun pins s σ H Q I h =>
 pairTrees_cons_walk (thn (hk pins s σ H _ I h) fun u s1 ⟨x,H1,I1,rx,q1⟩=>thn (hv pins s1 σ H1 _ I1 q1) fun w2 s2 ⟨y,H2,I2,ry,q2⟩ =>
  thn (hr pins s2 σ H2 _ I2 q2) fun ws s3 ⟨ps,H3,I3,rel,q3⟩=>⟨(x,y)::ps,H3,I3,.cons ⟨rx,ry⟩ rel,q3⟩)
def dE(kvs more:List (Key×V)):List (Key×V):=more.foldl (fun acc kv=>putK acc kv.1 kv.2) kvs
theorem KV.merge:∀{more:List (Key×V)}{rs:List (Key×Value)}{kvs:List (Key×V)}{vs:List (Key×Value)},KV more rs->KV kvs vs->KV (dE kvs more) (merged vs rs):=by
 intro more rs kvs vs r;unfold KV at r
 induction r generalizing kvs vs with
 | nil=>intro q;exact q
 | @cons p q ps qs h t ih =>
  intro r0;have e:KV (putK kvs p.1 p.2) (stored vs q.1 q.2):=by
   have:=r0.put p.1 h.2
   rw[<- h.1];exact this
  exact ih e
theorem e8:∀(more kvs:List (Key×V)),(dE kvs more).length<=kvs.length+more.length
 | [],kvs=>by show kvs.length<=kvs.length+0;omega
 | p::r,kvs=>by
  have h1:=e8 r (putK kvs p.1 p.2);have h2:=gR kvs p.1 p.2;show(dE (putK kvs p.1 p.2) r).length<=_;rw[List.length_cons];omega
theorem nN{P:Program}{w:World}:∀{kvs:List (Key×V)}{ws:List (Value×Value)},VV (kvs.map fun kv=>(kV kv.1,kv.2)) ws->∃ rs,Carries (a6 P w) ws rs/\KV kvs rs
 | [],_,r=>by rw[List.map_nil]at r;cases r;exact⟨[],True.intro,.nil⟩
 | p::kvs,_,r=>by
  rw[List.map_cons]at r;cases r with
  | @cons a b as bs h t =>
   obtain⟨rs,c,q⟩:=nN (P:=P) (w:=w) t;obtain⟨b1,b2⟩:=b;exact⟨(p.1,b2)::rs,⟨jN h.1,rfl,c⟩,.cons ⟨rfl,h.2⟩ q⟩
def Hz(trs:List (TE×TE)):TE:=fun σ H Q=>∀ p,H p=none->u4 trs σ (upd H p (.dK [])) fun ps H2=>H2 p=some (.dK [])/\∃ kvs:List (Key×V),ps=kvs.map (fun kv=>(kV kv.1,kv.2))/\kvs.length<=15/\Q (.ref p) (upd H2 p (.dK (dE [] kvs)))
theorem Dc{X:Cx}{pos:Pos}{keys:List (Option Expr)}{values:List Expr}{trs:List (TE×TE)}(h:PPs X pos keys values trs)(Hf:keys.all (·.isSome)=true)(hl:keys.length=values.length)(h0:keys ≠ [])
  (h15:keys.length<=15):PE X (.Dict keys values pos) (Hz trs):=by
 intro pins s σ H Q I q;have hn:=I.hok.fresh (Nat.le_refl s.heap.objs.size);have I1:=I.laid (a:=s.heap.objs.size) (o:=.dK []) (h':=s.heap.push { cls:=.type "dict",data:=.dict #[] }) (t':=s.toks) (fun _ _ q=>Heap.get?_push_of_some _ q) (Nat.le_refl _) (uE s.heap I.big)
 refine wpAny_Dict_walk (knd:=a6 X.prog X.w) Hf hl h0 h15 (thn (h pins _ σ _ _ I1 (q _ hn)) fun ws s2 hPP=>?_)
 obtain⟨ps,H2,I2,rel,e,kvs,ep,lk,q2⟩:=hPP;subst ep;obtain⟨rs,c,rk⟩:=nN (P:=X.prog) (w:=X.w) rel;obtain⟨z,hd,vs0,r0,dd⟩:=Fo I2.hok e;cases r0;refine⟨rs,c,dd,fun h' dd' hs=>⟨.ref s.heap.objs.size,_,?_,rfl,q2⟩⟩
 have hz:(dE [] kvs).length<=sizeLine:=by
  have h1:=e8 kvs [];rw[List.length_nil]at h1;rw[sizeLine_eq];omega
 have he:∃ q,h'.get? s.heap.objs.size=some q:=let⟨q,_,_,hq,_⟩:=dd';⟨q,hq⟩
 exact sy I2 (by rw[e];exact True.intro) hs he (so hz hd (rk.merge .nil) dd')
structure M2(X:Cx)(o:Expr)(m:Str)(apos:Pos)(e f:Expr)(bc:Pos):Prop where
 base:attributeBase o m X.env (eval o X.env)=eval o X.env
 few:((backTo bc (starEach [e,f] X.env)).all (fun x=>!x.1)&&(backToKw bc (keywordEach [] X.env)).all (fun x=>x.1.isSome)
  && decide (([e,f]:List Expr).length+([]:List Keyword).length+(if([]:List Keyword).isEmpty then 0 else 1)<30))=true
 line:(apos.endLine==bc.line)=true
 trees:backTo bc (starEach [e,f] X.env) = [(false,eval e X.env),(false,eval f X.env)]
def IsD(H:Hp)(a:Addr):Prop:=(∃ kvs,Rd H a (.dK kvs))\/∃ kvs,Rd H a (.dT kvs)
theorem G0{X:Cx}{pins:List (Addr×Obj)}{σ:St}{H:Hp}{s:Shared}{a:Addr}(I:Inv X pins σ H s)(d:IsD H a) :
  s.TypeIs (.ref a) "dict" /\ (∀ b,Value.ref a = .ref b->∃ ob,s.heap.get? b=some ob/\ob.dict=none)/\(a==sysModules)=false:=by
 rcases d with⟨kvs,e⟩ |⟨kvs,e⟩
 ·obtain⟨_,hd,vs,_,dd⟩:=iW I.hok e;refine⟨dd.typeIs,fun b q=>?_,hd⟩
  cases q;obtain⟨ob,_,_,h1,h2,_⟩:=dd;exact⟨ob,h1,h2.2.1⟩
 ·obtain⟨_,hd,xs,_,dd⟩:=nH I.hok e;refine⟨dd.typeIs,fun b q=>?_,hd⟩
  cases q;obtain⟨ob,_,_,h1,h2,_⟩:=dd;exact⟨ob,h1,h2.2.1⟩
section
variable{X:Cx}{pins:List (Addr×Obj)}{σ:St}{H:Hp}{s:Shared}{a:Addr}{y d:V}{u r:Value}{o:Option V}{A:Around}{E:Value->Shared->Prop}
theorem Hi{Q:Value->Shared->Prop}(hu:A.units+1<cLine)(I:Inv X pins σ H s)(g:fI H a y o)(ry:RelV y u)(rd:RelV d r)(h:∀ w' s',Inv X pins σ H s'->RelV (o.getD d) w'->Q w' s') :
  wpAny (model X.prog X.w) A (call (.builtin "dict.get") [.ref a,u,r]) Q E s:=by
 rcases g with⟨kvs,k,e,ey,l⟩ |⟨kvs,k,b,e,ey,eb,l⟩
 ·subst ey;obtain⟨z,hd,vs,rel,dd⟩:=iW I.hok e;refine call_meetsIn PySem.F.slot_dict_get dd.typeIs PySem.F.entry_dict_get (PySem.F.args_dict_get_3 _ _ _) (meets_dict_get_default (a6 X.prog X.w) a (jN ry) hd r) ⟨_,dd.mapOf,h _ _ (I.tok _) ?_⟩;rw[l];exact(rel.val k).getD rd
 ·subst ey
  cases(show u=Value.ref b from ry)
  obtain⟨z,hd,xs,rel,dd⟩:=nH I.hok e;refine call_meetsIn PySem.F.slot_dict_get dd.typeIs PySem.F.entry_dict_get (PySem.F.args_dict_get_3 _ _ _) (meetsH_dict_get_default (tupleKind (a6 X.prog X.w)) a b hd r) ⟨tupleKind_room_in1 hu,k,xs,kQ I.hok eb,dd,h _ _ (I.tok _) ?_⟩;rw[l];exact(rel.val k).getD rd
end
def zj(td ty tx:TE):TE:=fun σ H Q=>td σ H fun x H1=>∃ a,x = .ref a/\IsD H1 a/\ty σ H1 fun y H2=>tx σ H2 fun z H3=>∃ o,fI H3 a y o/\Q (o.getD z) H3
section
variable{X:Cx}{o e f:Expr}{apos bc:Pos}{td ty tx:TE}
theorem Ay(hu:X.A.units+1<cLine)(ho:PE X o td)(he:PE X e ty)(hf:PE X f tx)(m:M2 X o "get" apos e f bc):PE X (.Call (.Attribute o "get" apos) [e,f] [] bc) (zj td ty tx):=by
 intro pins s σ H Q I h;refine wpAny_Call_method m.base m.few m.line PySem.F.plainAttrs_dict PySem.F.slot_dict_get PySem.F.type_dict_get (thn (ho pins s σ H _ I h) fun u s1 hPP=>?_)
 obtain⟨x,H1,I1,rx,a,ex,d,q1⟩:=hPP;subst ex;obtain rfl:u=Value.ref a:=rx;obtain⟨t1,t2,_⟩:=G0 I1 d;refine⟨t1,t2,?_⟩;rw[m.trees];refine Calls.callWith_builtin rfl (Calls.evalArgs_plain (Calls.spliced_cons (thn (he pins s1 σ H1 _ I1 q1) fun iv s2 ⟨y,H2,I2,ry,q2⟩ =>
  Calls.spliced_cons (thn (hf pins s2 σ H2 _ I2 q2) fun fv s3 ⟨z,H3,I3,rz,ov,g,q3⟩=>Calls.spliced_nil ?_))))
 exact Hi hu I3 g ry rz fun w' s4 I4 rw'=>⟨_,H3,I4,rw',q3⟩
end
section
variable{X:Cx}
theorem yW:cW X (.builtin "len") (fun xs H Q=>∃ a kvs,xs = [V.ref a]/\H a=some (.dK kvs)/\Q (.int kvs.length) H):=by
 intro pins s σ H xs us Q I r h;obtain⟨a,kvs,rfl,ha,q⟩:=h;obtain⟨u,rfl,ru⟩:=vals1 r;cases ru;exact IV I (.inl ha) fun t s' I'=>⟨.int kvs.length,H,I',⟨t,rfl⟩,q⟩
end
end L2
set_option maxHeartbeats 4000000
namespace L2
open PySem PySem.Spec PyProof.Rows
theorem nq{h:Heap}{a:Nat}{o:Obj}(e:h.get? a=some o):@LT.lt Nat _ a h.objs.size:=Heap.lt_size e
theorem xU{h:Heap}{a:Nat}{v:Option Value}(e:h.IsCell a v):@LT.lt Nat _ a h.objs.size:=e.lt
theorem jK{a b:Nat}(h:a<b):@Ne Addr a b:=Nat.ne_of_lt h
theorem Iq{a b:Nat}(h:b<a):@Ne Addr a b:=Nat.ne_of_gt h
theorem hU{env:Env}{body:Str×NameKind->List (Str×Addr)->Sem (ForInStep (List (Str×Addr)))}
  (hb:∀ n k c,body (n,k) c=if(k==NameKind.free)=true then(cellOf env n >>= fun a=>pure (.yield ((n,a)::c)))else pure (.yield c)) :
  ∀(l:List (Str×NameKind))(cs:List (Str×Addr)),(∀ p∈l,p.2=NameKind.free->∃ c,env.cells.lookup p.1=some c) ->
   ∃ cl,forIn l cs body=pure cl/\(∀ x c,cl.lookup x=some c->env.cells.lookup x=some c\/cs.lookup x=some c)/\(∀ x,(x,NameKind.free)∈l->∃ c,cl.lookup x=some c)/\∀ x c,cs.lookup x=some c->∃ c',cl.lookup x=some c'
 | [],cs,_=>⟨cs,rfl,fun _ _ h=>.inr h,fun _ h=>(nomatch h),fun _ c h=>⟨c,h⟩⟩
 | (n,k)::r,cs,h=>by
  have hr:∀ p∈r,p.2=NameKind.free->∃ c,env.cells.lookup p.1=some c:=fun p hp=>h p (List.mem_cons_of_mem _ hp)
  rw[List.forIn_cons,hb];by_cases hk:(k==NameKind.free)=true
  ·rw[if_pos hk];have hk':k = .free:=by simpa using hk
   obtain⟨c,hc⟩:=h (n,k) List.mem_cons_self hk';have e1:cellOf env n=pure c:=by unfold cellOf;rw[hc]
   rw[e1];obtain⟨cl,e,h1,h2,h3⟩:=hU hb r ((n,c)::cs) hr;refine⟨cl,e,fun x c' hx=>?_,fun x hx=>?_,fun x c' hx=>?_⟩
   ·rcases h1 x c' hx with z|z
    ·exact .inl z
    ·by_cases e2:(x==n)=true
     ·have e3:x=n:=by simpa using e2
      subst e3;rw[List.lookup_cons,e2]at z;cases z;exact .inl hc
     ·rw[List.lookup_cons,Bool.eq_false_iff.mpr e2]at z;exact .inr z
   ·rcases List.mem_cons.mp hx with z|z
    ·have e2:x=n:=congrArg Prod.fst z;exact h3 x c (by rw[List.lookup_cons,e2,beq_self_eq_true])
    ·exact h2 x z
   ·by_cases e2:(x==n)=true
    ·exact h3 x c (by rw[List.lookup_cons,e2])
    ·exact h3 x c' (by rw[List.lookup_cons,Bool.eq_false_iff.mpr e2];exact hx)
  ·rw[if_neg hk];obtain⟨cl,e,h1,h2,h3⟩:=hU hb r cs hr;refine⟨cl,e,h1,fun x hx=>?_,h3⟩
   rcases List.mem_cons.mp hx with z|z
   ·cases z;exact absurd rfl hk
   ·exact h2 x z
theorem wj{scope:Scope}{env:Env}(h:∀ p∈scope.names,p.2=NameKind.free->∃ c,env.cells.lookup p.1=some c) :
  ∃ cl:List (Str×Addr),closureFor scope env=pure cl/\(∀ x c,cl.lookup x=some c->env.cells.lookup x=some c)/\∀ x,(x,NameKind.free)∈scope.names->∃ c,cl.lookup x=some c:=by
 obtain⟨cl,e,h1,h2,_⟩:=hU (env:=env) (body:=fun x c=>if(x.2==NameKind.free)=true then(cellOf env x.1 >>= fun a=>pure (.yield ((x.1,a)::c)))else pure (.yield c)) (fun _ _ _=>rfl) scope.names [] h
 refine⟨cl,?_,fun x c hx=>(h1 x c hx).elim id fun z=>by simp at z,h2⟩
 have e2:closureFor scope env =(forIn scope.names ([]:List (Str×Addr)) (fun x c=>if(x.2==NameKind.free)=true then(cellOf env x.1 >>= fun a=>pure (.yield ((x.1,a)::c)))else pure (.yield c)) >>= fun r=>pure r):=by
  simp only[closureFor]
 rw[e2,e];rfl
theorem eU{env:Env}:∀{names:List (Str×NameKind)}{x:Str}{k:NameKind},
  (names.map fun(n,k)=>if(k==NameKind.free&&env.scope.kind == .function&&env.kindOf n==some .cell)then(n,NameKind.cell)else(n,k)).lookup x=some k ->
   names.lookup x=some k\/(names.lookup x=some .free/\k = .cell)
 | [],_,_,h=>by simp at h
 | (n,k0)::r,x,k,h=>by
  have ih:=@eU env r x k
  replace h:List.lookup x ((if(k0==NameKind.free&&env.scope.kind == .function&&env.kindOf n==some .cell)=true then(n,NameKind.cell)else(n,k0)) ::(r.map fun(n,k)=>if(k==NameKind.free&&env.scope.kind == .function&&env.kindOf n==some .cell)then(n,NameKind.cell)else(n,k)))=some k:=h
  cases hx:x==n with
  | true =>
   by_cases hc:(k0==NameKind.free&&env.scope.kind == .function&&env.kindOf n==some .cell)=true
   ·rw[if_pos hc]at h;simp only[List.lookup_cons,hx]at h;cases h
    have:k0 = .free:=by
     simp only[Bool.and_eq_true]at hc;simpa using hc.1.1
    subst this;exact .inr ⟨by simp only[List.lookup_cons,hx],rfl⟩
   ·rw[if_neg hc]at h;simp only[List.lookup_cons,hx]at h;exact .inl (by simp only[List.lookup_cons,hx];exact h)
  | false =>
   have h':(r.map fun(n,k)=>if(k==NameKind.free&&env.scope.kind == .function&&env.kindOf n==some .cell)then(n,NameKind.cell)else(n,k)).lookup x=some k:=by
    by_cases hc:(k0==NameKind.free&&env.scope.kind == .function&&env.kindOf n==some .cell)=true
    ·rw[if_pos hc]at h;simpa only[List.lookup_cons,hx]using h
    ·rw[if_neg hc]at h;simpa only[List.lookup_cons,hx]using h
   rcases ih h' with z|z
   ·exact .inl (by simp only[List.lookup_cons,hx];exact z)
   ·exact .inr (by simp only[List.lookup_cons,hx];exact z)
theorem jw{env:Env}:∀{names:List (Str×NameKind)}{x:Str},names.lookup x=some .free ->
  (names.map fun(n,k)=>if(k==NameKind.free&&env.scope.kind == .function&&env.kindOf n==some .cell)then(n,NameKind.cell)else(n,k)).lookup x=some .free \/
  (names.map fun(n,k)=>if(k==NameKind.free&&env.scope.kind == .function&&env.kindOf n==some .cell)then(n,NameKind.cell)else(n,k)).lookup x=some .cell
 | [],_,h=>by simp at h
 | (n,k0)::r,x,h=>by
  have ih:=@jw env r x;show List.lookup x ((if(k0==NameKind.free&&env.scope.kind == .function&&env.kindOf n==some .cell)=true then(n,NameKind.cell)else(n,k0))::_)=_\/List.lookup x ((if(k0==NameKind.free&&env.scope.kind == .function&&env.kindOf n==some .cell)=true then(n,NameKind.cell)else(n,k0))::_)=_
  cases hx:x==n with
  | true =>
   simp only[List.lookup_cons,hx]at h;cases h;by_cases hc:(NameKind.free==NameKind.free&&env.scope.kind == .function&&env.kindOf n==some .cell)=true
   ·rw[if_pos hc];simp only[List.lookup_cons,hx];exact .inr trivial
   ·rw[if_neg hc];simp only[List.lookup_cons,hx];exact .inl trivial
  | false =>
   simp only[List.lookup_cons,hx]at h;by_cases hc:(k0==NameKind.free&&env.scope.kind == .function&&env.kindOf n==some .cell)=true
   ·rw[if_pos hc];simp only[List.lookup_cons,hx];exact ih h
   ·rw[if_neg hc];simp only[List.lookup_cons,hx];exact ih h
inductive kj(X:Cx)(sc:Scope):List Str->List (Option Nat)->Prop
 | nil:kj X sc [] []
 | own{x:Str}{N:List Str}{c:List (Option Nat)}:sc.names.lookup x=some .local->kj X sc N c->kj X sc (x::N) (none::c)
 | got{x:Str}{i:Nat}{N:List Str}{c:List (Option Nat)}:X.N[i]? = some x->sc.names.lookup x=some .free ->(X.env.kindOf x=some .cell\/X.env.kindOf x=some .free)->kj X sc N c->kj X sc (x::N) (some i::c)
def j6(c:List (Option Nat))(σ:St):St:=c.map fun o=>o.bind fun(i:Nat)=>(σ[i]?).join
theorem kj.len{X:Cx}{sc:Scope}{N:List Str}{c:List (Option Nat)}{σ:St}(h:kj X sc N c):(j6 c σ).length=N.length:=by
 unfold j6;rw[List.length_map]
 induction h with
 | nil=>rfl
 | own _ _ ih=>simp[ih]
 | got _ _ _ _ ih=>simp[ih]
theorem kj.at{X:Cx}{sc:Scope}{N:List Str}{c:List (Option Nat)}{σ:St}(h:kj X sc N c):∀{j:Nat}{x:Str}{v:V},N[j]? = some x ->(j6 c σ)[j]? = some (some v) ->
  ∃ i:Nat,X.N[i]? = some x/\σ[i]? = some (some v)/\sc.names.lookup x=some .free/\(X.env.kindOf x=some .cell\/X.env.kindOf x=some .free):=by
 induction h with
 | nil=>intro j x v h1;simp at h1
 | own _ _ ih =>
  intro j x v h1 h2;cases j with
  | zero=>simp[j6]at h2
  | succ j=>exact ih (by simpa using h1) (by simpa [j6]using h2)
 | @got y i N c g1 g2 g3 _ ih =>
  intro j x v h1 h2;cases j with
  | zero =>
   have e:y=x:=by simpa using h1
   subst e;refine⟨i,g1,?_,g2,g3⟩;have h2':(σ[i]?).join=some v:=by simpa [j6]using h2
   cases q:σ[i]? with
   | none=>rw[q]at h2';cases h2'
   | some o =>
    rw[q]at h2'
    have:o=some v:=h2'
    rw[this]
  | succ j=>exact ih (by simpa using h1) (by simpa [j6]using h2)
def blk(X:Cx)(N':List Str)(sc:Scope)(cl:List (Str×Addr))(C:Addr)(s₂:Shared)(H₂:Hp)(fp:List Addr):Cx :=
 { X with N:=N',s₀:=s₂,H₀:=H₂,env:=compEnvC sc cl C X.env,outer:=X.stack,ex:=fp,fn:=fun _=>false,pn:=[],xe:=fun _ _=>False }
def PTs(X:Cx)(ifs:List Expr)(t:TT):Prop :=
 ∀(pins:List (Addr×Obj))(s:Shared)(σ:St)(H:Hp)(Q:Bool->Hp->Prop),Inv X pins σ H s->t σ H Q ->
  wpAny (model X.prog X.w) X.A (forIn ifs true fun c r=>if r=true then do let ok <- isTrue c X.env (eval c X.env);pure (ForInStep.yield ok)else pure (ForInStep.yield r)) (TP X pins σ Q) X.xe s
def wV:TT:=fun _ H Q=>Q true H
theorem xo{X:Cx}:PTs X [] wV:=fun _ _ _ H _ I h=>wpAny_tests_nil ⟨H,I,h⟩
theorem xn{X:Cx}{c:Expr}{t:TT}(h:PT X c t):PTs X [c] t:=fun pins s σ H Q I q=>wpAny_tests_one (h pins s σ H Q I q)
def Fv(g:TG)(tst:TT)(te:TE)(σ0:St)(Q:VK)(J:It)(H1:Hp):Prop :=
 ∃ W:Nat->Nat->List V->St->Hp->Prop,(∃ m,W 0 m [] σ0 H1)/\∀ i m ys σ' H',W i m ys σ' H' ->
  (J.stop i H'/\ys.length<=sizeLine/\∀ D,H' D=none->Q (.ref D) (upd H' D (.lst ys))) \/
  (J.go i H'/\ys.length<sizeLine/\∃ N:List V->St->Hp->Prop,(∀ ys2 σ2 H2,N ys2 σ2 H2->∃ m',m'<m/\W (i+1) m' ys2 σ2 H2)/\∀ x H2,J.yld i H' x H2->g x σ' H2 fun σ2 H3=>tst σ2 H3 fun b H4 =>
   if b=true then te σ2 H4 fun y H5=>N (ys ++ [y]) σ2 H5 else N ys σ2 H4)
def px(cap:List (Option Nat))(wi:TI)(g:TG)(tst:TT)(te:TE):TE:=fun σ H Q=>wi σ H (Fv g tst te (j6 cap σ) Q)
theorem yT{prog:Program}{w:World}{A:Around}{R:Result->Shared->Prop}{s:Shared}{elt target iter:Expr}{ifs:List Expr}{scope:Scope}{pos:Pos}{it acc:Value}{env:Env}(I:Nat->Shared->Prop)
  (turn:∀ n s,I n s->wpAny (model prog w) A (pyNext it) (fun r s₁=>match r with
   | none=>R (.ok .next) s₁
   | some v=>wpAny (model prog w) A (letOwnedTupleGo target it v) (fun _ s₁'=>wpAny (model prog w) A (assign target env v) (fun _ s₂ =>
     wpAny (model prog w) A (forIn ifs true fun c r=>if r=true then do let ok <- isTrue c env (eval c env);pure (ForInStep.yield ok)else pure (ForInStep.yield r)) (fun ok s₃ =>
      if ok=true then wpAny (model prog w) A (eval elt env) (fun x s₄ =>
       wpAny (model prog w) A (call (.builtin "list.append") [acc,x]) (fun _ s₅=>∃ m,m<n/\I m s₅) (fun _ _=>False) s₄) (fun _ _=>False) s₃
      else ∃ m,m<n/\I m s₃) (fun _ _=>False) s₂) (fun _ _=>False) s₁') (fun _ _=>False) s₁) (fun _ _=>False) s)
  (n:Nat) (h:I n s) :
  codeAny (model prog w) A (.compLoop (.ListComp elt [⟨target,iter,ifs,0⟩] scope pos) 0 it acc env) R s:=by
 refine codeAny_loop rfl I (fun n s hI=>?_) n h
 show wpAny _ A ((compTurn (.ListComp elt [⟨target,iter,ifs,0⟩] scope pos) 0 it acc env).onRaise (fun x=>do noteFrame x env;theTreesLotGoes x)) _ _ s
 refine wpAny_noted ?_;rw[compTurn_list];refine wpAny_bind (wpAny_standAt (wpAny_bind (wpAny_mono (turn n s hI) (fun r s₁ h₁=>?_) fun _ _ h'=>h'.elim)))
 cases r with
 | none=>exact wpAny_pure h₁
 | some v =>
  refine wpAny_bind (wpAny_mono h₁ (fun _ s₁' h₁'=>?_) fun _ _ h'=>h'.elim)
  refine wpAny_bind (wpAny_mono h₁' (fun _ s₂ h₂=>wpAny_bind (wpAny_mono h₂ (fun ok s₃ h₃=>?_) fun _ _ h'=>h'.elim)) fun _ _ h'=>h'.elim)
  cases ok with
  | false=>exact wpAny_pure ⟨rfl,h₃⟩
  | true =>
   exact wpAny_bind (wpAny_bind (wpAny_mono h₃ (fun x s₄ h₄=>wpAny_bind (wpAny_mono h₄ (fun _ s₅ h₅=>wpAny_pure (wpAny_pure ⟨rfl,h₅⟩)) fun _ _ h'=>h'.elim)) fun _ _ h'=>h'.elim))
theorem uI{X:Cx}{pins:List (Addr×Obj)}{σ:St}{H:Hp}{s:Shared}{Q:VK}{tg iter elt:Expr}{ifs:List Expr}{sc:Scope}{p pos:Pos}{N':List Str}{cap:List (Option Nat)}{wi:TI}{g:TG}{tst:TT}{te:TE}{use:Option (Value->Sem Unit)}{Q':Value->Shared->Prop}
  (hc:X.calm=true) (hi:PI X tg iter wi) (fF:sc.kind = .function) (fG:∀ y∈sc.names,y.2 ≠ .cell) (f9:∀ y∈sc.names,y.2 = .local->sc.names.lookup y.1=some .local)
  (gy:∀ y∈sc.names,y.2 = .free->X.env.kindOf y.1=some .cell\/X.env.kindOf y.1=some .free) (oQ:kj X sc N' cap)
  (hb:∀ cl C s₂ H₂ fp,PG (blk X N' sc cl C s₂ H₂ fp) tg g/\PTs (blk X N' sc cl C s₂ H₂ fp) ifs tst/\PE (blk X N' sc cl C s₂ H₂ fp) elt te)
  (I:Inv X pins σ H s) (h:px cap wi g tst te σ H Q)
  (fin:∀ D C m H' s',Inv X pins σ H' s'->nX X pins H' C->s'.heap.Ns C m->Q (.ref D) H'->compPost (model X.prog X.w) X.A X.xe use Q' (.ref D) C (.ok .next) s')
  (hs:∀ x,foldedSetIterable iter X.env x=pure x) :
  wpAny (model X.prog X.w) X.A (comprehension (.ListComp elt [⟨tg,iter,ifs,0⟩] sc pos) sc X.env p (newList []) false (eval iter X.env) use) Q' X.xe s:=by
 obtain⟨cl,IF,uD,IG⟩:=wj (scope:=sc) (env:=X.env) fun q hq e=>I.ok.has q.1 (gy q hq e)
 refine wpAny_comprehension_free rfl hs IF fF f9 (thn (hi pins s σ H _ I h) fun v s1 h1=>thn h1 fun itv s2 h2=>?_)
 obtain⟨it,fp,tn,J,H2,e,I2,T,st2,f2,W,⟨m0,w0⟩,turn⟩:=h2;subst e;refine wpAny_newObj_type (wpAny_newFunctionEnv fG (by intro y hy;simp at hy) (fun h₁ D9 Bl=>?_) fF)
 dsimp only at D9 Bl ⊢
 generalize hHP:s2.heap.push { cls:=.type "list",dict:=none,data:=.seq ([]:List Value).toArray }=HP at D9 Bl ⊢
 have hC:HP.objs.size=s2.heap.objs.size+1:=by rw[<- hHP,Heap.size_push]
 obtain⟨D,hDn⟩:∃ D:Nat,s2.heap.objs.size=D:=⟨_,rfl⟩
 obtain⟨C,hCn⟩:∃ C:Nat,HP.objs.size=C:=⟨_,rfl⟩
 rw[hDn]at hC;rw[hCn]at hC D9 Bl ⊢;rw[hDn];have hDC:@Ne Addr D C:=jK (by omega)
 have old:∀ b o,s2.heap.get? b=some o->h₁.get? b=some o:=fun b o e =>
  Bl.extBut b o (jK (by have:=nq e;omega)) (Heap.get?_push_of_some _ (hHP▸Heap.get?_push_of_some _ e))
 have si:h₁.get? D=some { cls:=.type "list",data:=.seq ([]:List Value).toArray 0 } :=
  Bl.extBut _ _ hDC (Heap.get?_push_of_some _ (by rw[<- hHP,<- hDn];exact Heap.get?_push_size _ rfl))
 have okB:(blk X N' sc cl C s2 H2 fp).Ok:=by
  refine⟨I.ok.mod,fF,I.ok.glob,I.ok.blt,(by show s2.heap.objs.size<=C;omega),fun x y c h1 h2=>I.ok.inj x y c (uD x c h1) (uD y c h2),fun x hx=>?_,fun x c hx=>(nomatch hx),I.ok.hd,I.ok.frames,.inl rfl,fun b hb=>?_,
   fun b o e=>I2.bs b o e,Nat.le_trans I2.ok.bsz I2.sz,fun b o e hb=>?_,fun b hb=>?_,I2.stack,I2.wY⟩
  ·have hx':sc.names.lookup x=some .free:=by
    rcases hx with hx|hx
    ·rcases eU hx with z|z
     ·exact absurd rfl (fG _ (PySem.mem_of_lookup z))
     ·exact z.1
    ·rcases eU hx with z|z
     ·exact z
     ·exact z.1
   exact IG x (PySem.mem_of_lookup hx')
  ·obtain⟨o,ho,_⟩:=T.obj _ _ st2 b hb;refine⟨?_,fun x c e=>(f2 b hb).2.2.2.2.1 x c (uD x c e)⟩
   show @Ne Addr b C
   have:=nq ho
   exact jK (by omega)
  ·obtain⟨_,_,_,z,_⟩:=f2 b hb;rcases z with z|z
   ·exact I2.ok.AV b o e z
   ·have:=nq (show X.base.get? b=some o from e)
    have:=I2.ok.bsz
    omega
  ·intro hb';rcases List.mem_cons.mp (I2.qj b hb')with z|z
   ·exact(f2 b hb).2.1 z
   ·exact(f2 b hb).2.2.1 z
 have nD:H2 D=none:=I2.hok.fresh (by rw[hDn];exact Nat.le_refl _)
 have hb0:=hb cl C s2 H2 fp
 generalize hXB:blk X N' sc cl C s2 H2 fp=XB at okB hb0
 have eP:XB.prog=X.prog:=by rw[<- hXB];rfl
 have eW:XB.w=X.w:=by rw[<- hXB];rfl
 have eK:XB.K=X.K:=by rw[<- hXB];rfl
 have eA:XB.A=X.A:=by rw[<- hXB];rfl
 have eE:XB.env=compEnvC sc cl C X.env:=by rw[<- hXB];rfl
 have eX:XB.xe=fun _ _=>False:=by rw[<- hXB];rfl
 have eFs:XB.fs=frs X.stack:=by rw[<- hXB];rfl
 have eEx:XB.ex=fp:=by rw[<- hXB];rfl
 have eS:XB.s₀=s2:=by rw[<- hXB];rfl
 have eH:XB.H₀=H2:=by rw[<- hXB];rfl
 have ePn:XB.pn = []:=by rw[<- hXB];rfl
 have eCa:XB.calm=true:=by rw[<- hXB];exact hc
 have eN:XB.N=N':=by rw[<- hXB];rfl
 have eL:XB.env.locals=C:=by rw[eE];rfl
 have eCl:XB.env.cells=cl:=by rw[eE];rfl
 have J0:∀(x:Str)(c:Nat),cl.lookup x=some c->c<D:=fun x c e=>by
  obtain⟨v,z⟩:=I2.cell x c (uD x c e)
  have:=xU z
  omega
 have nfs:∀(b:Nat),D<=b->b ∉ XB.fs:=fun b hb z=>by
  rw[eFs]at z;obtain⟨_,o,ho,_⟩:=I2.stack.mem z
  have:=nq ho
  omega
 have fpD:∀(b:Nat),b∈fp->b<D:=fun b hb=>by
  obtain⟨o,ho,_⟩:=T.obj _ _ st2 b hb
  have:=nq ho
  omega
 have loop:∀ s3:Shared,s3 ={ s2 with heap:=h₁,toks:=s2.toks+([]:List (Str×Value)).length } ->
   codeAny (model X.prog X.w) X.A (.compLoop (.ListComp elt [⟨tg,iter,ifs,0⟩] sc pos) 0 (.ref it) (.ref D) (compEnvC sc cl C X.env)) (compPost (model X.prog X.w) X.A X.xe use Q' (.ref D) C) s3:=by
  rintro s3 rfl
  refine yT (fun n s'=>∃ i ys σ' H' its k,Inv XB [] σ' H' s'/\tn i s'.heap/\(∀ b∈fp,H' b=none)/\H' D=none/\s'.heap.get? D=some { cls:=.type "list",data:=.seq (its:List Value).toArray k }/\Vals ys its/\W i n ys σ' H') ?_ m0
   ⟨0,[],j6 cap σ,H2,[],0,?_,T.keep _ _ _ st2 fun b hb o e=>old b o e,fun b hb=>(f2 b hb).1,nD,si,.nil,w0⟩
  ·rintro n s4 ⟨i,ys,σ4,H4,its,k,I4,st4,fr4,d4,o4,v4,w4⟩
   have fpk:∀{H':Hp}{pl:List (Addr×Obj)},(∀ b∈fp,H' b=none) ->(∀ q∈pl,q.1 ∉ fp)->∀ b∈fp,nX XB pl H' b:=fun{H' pl} hn hpl b hb=>by
    refine⟨hn b hb,?_,?_,.inl (by rw[eEx];exact hb),fun x c e=>?_,fun q hq=>?_⟩
    ·rw[eL];have:=fpD b hb;exact jK (by omega)
    ·rw[eFs];intro z;rcases List.mem_cons.mp (I2.qj b z)with z|z
     ·exact(f2 b hb).2.1 z
     ·exact(f2 b hb).2.2.1 z
    ·rw[eCl]at e;exact(f2 b hb).2.2.2.2.1 x c (uD x c e)
    ·rw[ePn]at hq;intro z;exact hpl q (by simpa using hq) (z▸hb)
   have pD:∀ q ∈ [(D,({ cls:=.type "list",data:=.seq its.toArray k }:Obj))],q.1 ∉ fp:=fun q hq=>by
    have e:q=_:=List.mem_singleton.mp hq;subst e;intro z
    have:=fpD _ z
    omega
   have I4':Inv XB [(D,{ cls:=.type "list",data:=.seq its.toArray k })] σ4 H4 s4:=I4.jE fun q hq=>by
    have e:q=_:=List.mem_singleton.mp hq;subst e;refine⟨o4,d4,?_,nfs _ (Nat.le_refl _),fun v=>by simp⟩
    rw[eL];exact hDC
   have Kj:=I4';rw[<- eA,<- eP,<- eW];rcases turn i n ys σ4 H4 w4 with⟨stop,hz,qn⟩ |⟨go,hz,N,hN,step⟩
   ·rw[<- eP,<- eW,<- eK]at T;refine wpAny_mono (T.done XB rfl rfl rfl eCa i _ s4 σ4 H4 (fun _ _=>False) I4' (fpk fr4 pD) st4 stop) (fun r s5 ⟨hr,I5⟩=>?_) fun _ _ z=>z
    subst hr;rw[eP,eW,eA];obtain⟨o5,n5,_⟩:=I5.pin (D,{ cls:=.type "list",data:=.seq its.toArray k }) (List.mem_append_right _ (List.mem_singleton.mpr rfl));have u5:Un (frs X.stack) fp H2 H4 s2.heap s5.heap:=by
     have z:=I5.base;rw[eFs,eEx,eH,eS]at z;exact z
    have lt2:∀ b o,s2.heap.get? b=some o -> @Ne Addr b D:=fun b o e=>jK (by have:=nq e;omega)
    have ne5:∀ b u,H4 b=some u->b≠D:=fun b u e z=>by rw[z,d4]at e;cases e
    have hk5:HOk X.prog X.w H4 s5.heap:=by
     have z:=I5.hok;rw[eP,eW]at z;exact z
    have JW:=fin D C;obtain⟨mC,hNs,_⟩:=id I5.loc;rw[eL]at hNs;have IX:Inv X pins σ (upd H4 D (.lst ys)) s5:=by
     refine I2.I0 (s':=s5) (ch:=fp) ?_ ⟨u5.keep,u5.slot,fun b o e n hx=>?_,u5.there,fun b xs e=>?_,fun b o u e=>?_,fun b ps e=>?_⟩ ?_ I5.bare fun b hb=>⟨(f2 b hb).2.2.2.1,(f2 b hb).2.1,(f2 b hb).2.2.2.2.1,(f2 b hb).2.2.2.2.2⟩
     ·have z:=I5.os;rw[eS]at z;exact z
     ·rw[aj (lt2 b o e)];exact u5.free b o e n hx
     ·have z:=u5.mv b xs e;rw[aj (ne5 b _ z)];exact z
     ·have z:=u5.jQ b o u e;rw[aj (ne5 b _ z)];exact z
     ·obtain⟨more,z⟩:=u5.mw b ps e;exact⟨more,by rw[aj (ne5 b _ z)];exact z⟩
     ·intro a o e;by_cases ha:a=D
      ·subst ha;rw[au]at e;cases e;exact⟨hz,its,k,v4,o5⟩
      ·rw[aj ha]at e;exact(hk5 a o e).cX (fun _ _ _ q=>q) (fun b q=>by rw[aj (ne5 b _ q)];exact q) fun b xs q=>by rw[aj (ne5 b _ q)];exact q
    refine JW mC _ s5 IX ?_ hNs (qn D d4);have hCN:H4 C=none:=by
     have z:=I5.free;rw[eL]at z;exact z
    refine⟨by rw[aj (Ne.symm hDC)];exact hCN,?_,?_,.inr ?_,fun x c e=>?_,fun q hq=>?_⟩
    ·have:@LT.lt Nat _ X.env.locals s2.heap.objs.size:=I2.lt
     exact Iq (by omega)
    ·exact I2.Ip (by rw[hDn];omega)
    ·have:=I2.sz;omega
    ·obtain⟨v,z⟩:=I2.cell x c e
     have:=xU z
     exact jK (by omega)
    ·have:=nq (I2.pin q hq).1
     exact jK (by omega)
   ·have T':=T;rw[<- eP,<- eW,<- eK]at T';refine wpAny_mono (T'.item XB rfl rfl rfl eCa i _ s4 σ4 H4 (fun _ _=>False) I4' (fpk fr4 pD) st4 go) (fun r s5 ⟨u,hr,h5⟩=>?_) fun _ _ z=>z
    subst hr;refine thn h5 fun _ s6 hPP=>?_
    obtain⟨x,H6,I6,r6,y6,st6,fr6⟩:=hPP;have I6':=I6.pinned (fpk fr6 pD) (T.obj _ _ st6);obtain⟨hg0,ht0,he0⟩:=hb0;rw[<- eE];have hgo:=hg0 _ s6 σ4 H6 x u _ I6' r6 (step x H6 y6);rw[eX]at hgo;refine thn hgo fun _ s7 hPP=>?_
    obtain⟨σ7,H7,I7,q7⟩:=hPP;have hto:=ht0 _ s7 σ7 H7 _ I7 q7;rw[eX]at hto;refine thn hto fun b s8 hPP=>?_
    obtain⟨H8,I8,q8⟩:=hPP;have back:∀{σ9:St}{H9:Hp}{s9:Shared},Inv XB ([(D,{ cls:=.type "list",data:=.seq its.toArray k })]++mW fp s6.heap) σ9 H9 s9->tn (i+1) s9.heap/\(∀ b∈fp,H9 b=none)/\H9 D=none/\s9.heap.get? D=some { cls:=.type "list",data:=.seq its.toArray k }:=fun{σ9 H9 s9} I9=>by
     have z:=I9.pin (D,{ cls:=.type "list",data:=.seq its.toArray k }) (List.mem_append_right _ (List.mem_append_left _ (List.mem_singleton.mpr rfl)));refine⟨T.keep _ _ _ st6 fun b hb o e=>(I9.pin (b,o) (List.mem_append_right _ (List.mem_append_right _ (d5 hb e)))).1,fun b hb=>?_,z.2.1,z.1⟩
     obtain⟨o,e,_⟩:=T.obj _ _ st6 b hb;exact(I9.pin (b,o) (List.mem_append_right _ (List.mem_append_right _ (d5 hb e)))).2.1
    cases b with
    | false =>
     rw[if_neg Bool.false_ne_true]at q8 ⊢;obtain⟨m',hm,w8⟩:=hN _ _ _ q8;obtain⟨t1,t2,t3,t4⟩:=back I8;exact⟨m',hm,i+1,ys,σ7,H8,its,k,I8.jE (fun q hq=>nomatch hq),t1,t2,t3,t4,v4,w8⟩
    | true =>
     rw[if_pos rfl]at q8 ⊢;have heo:=he0 _ s8 σ7 H8 _ I8 q8;rw[eX]at heo;refine thn heo fun yv s9 hPP=>?_
     obtain⟨y,H9,I9,r9,n9⟩:=hPP;obtain⟨m',hm,w9⟩:=hN _ _ _ n9;obtain⟨t1,t2,t3,t4⟩:=back I9;have hsz:its.toArray.size<=sizeLine:=by
      have e:=v4.length;have e2:its.toArray.size=its.length:=by simp
      omega
     refine append_at (hsz:=hsz) t4 fun h' hs' hD'=>?_
     ·refine⟨m',hm,i+1,ys ++ [y],σ7,H9,its ++ [yv],k+1,?_,T.keep _ _ _ t1 fun b hb o e=>hs'.extBut b o (jK (fpD b hb)) e,t2,t3,?_,v4.append (.cons r9 .nil),w9⟩
      ·refine(I9.jE (pins':=[]) (fun q hq=>nomatch hq)).turned (t':=s9.toks) (it:=D) (fun b o hb e=>hs'.extBut b o hb e) t3 ?_ (.inr ?_) (fun x c e=>?_) fun q hq=>?_
       ·rw[eL];exact hDC
       ·rw[eS];omega
       ·rw[eCl]at e;exact jK (J0 x c e)
       ·rw[ePn]at hq;exact nomatch hq
      ·rw[hD'];simp
  ·
   refine⟨okB,by rw[eS],I2.bare,by rw[eFs,eEx,eH,eS];exact Un.kept old,⟨_,by rw[eL];exact D9,fun j x v h1 h2 h3=>?_⟩,fun x c e=>?_,?_,fun x c e=>?_,fun q hq=>?_,by rw[eP,eW];exact I2.hok.kept old,by rw[eN];exact oQ.len⟩
   ·rw[eN]at h1;obtain⟨i,g1,g2,g3,g4⟩:=oQ.at h1 h2;obtain⟨m,hn,hl⟩:=I2.loc;have hv:Vis X.env.scope x:=by
     rcases g4 with z|z
     ·exact .inr (.inl z)
     ·exact .inr (.inr z)
    obtain⟨u,r,l⟩:=hl i x v g1 g2 hv;refine⟨u,r,.inr ⟨?_,?_⟩⟩
    ·rw[eE];exact(jw g3).symm
    ·rcases l with⟨hk,_⟩ |⟨_,c,e,z⟩
     ·rcases g4 with y|y
      ·rw[y]at hk;cases hk
      ·rw[y]at hk;cases hk
     ·obtain⟨c',e'⟩:=IG x (PySem.mem_of_lookup g3)
      have:=uD x c' e'
      rw[e]at this;cases this;obtain⟨o,ho,hd⟩:=z;exact⟨c,by rw[eCl];exact e',o,old c o ho,hd⟩
   ·rw[eCl]at e;obtain⟨v,o,ho,hd⟩:=I2.cell x c (uD x c e);exact⟨v,o,old c o ho,hd⟩
   ·rw[eL];exact I2.hok.fresh (by rw[hDn];omega)
   ·rw[eCl]at e;exact I2.eh x c (uD x c e)
   ·rw[ePn]at hq;exact nomatch hq
 exact codeAny_compStart_list (loop _ rfl) (T.self X.A 0 _ _ _ (T.keep _ _ _ st2 fun b hb o e=>old b o e) (loop _ rfl))
theorem xN{X:Cx}{sc:Scope}(h:(sc.names.all fun y=>y.2 != .free ||(X.env.kindOf y.1==some .cell||X.env.kindOf y.1==some .free))=true) :
  ∀ y∈sc.names,y.2 = .free->X.env.kindOf y.1=some .cell\/X.env.kindOf y.1=some .free:=fun y hy e=>by
 have z:=List.all_eq_true.mp h y hy;rw[e]at z;simpa using z
theorem xv{X:Cx}{tg iter elt:Expr}{ifs:List Expr}{sc:Scope}{pos:Pos}{N':List Str}{cap:List (Option Nat)}{wi:TI}{g:TG}{tst:TT}{te:TE}
  (hc:X.calm=true) (hi:PI X tg iter wi) (oQ:kj X sc N' cap)
  (hb:∀ cl C s₂ H₂ fp,PG (blk X N' sc cl C s₂ H₂ fp) tg g/\PTs (blk X N' sc cl C s₂ H₂ fp) ifs tst/\PE (blk X N' sc cl C s₂ H₂ fp) elt te)
  (fF:sc.kind = .function:=by rfl) (fG:∀ y∈sc.names,y.2 ≠ .cell:=by decide) (f9:∀ y∈sc.names,y.2 = .local->sc.names.lookup y.1=some .local:=by decide)
  (gy:(sc.names.all fun y=>y.2 != .free ||(X.env.kindOf y.1==some .cell||X.env.kindOf y.1==some .free))=true:=by rfl)
  (hs:∀ x,foldedSetIterable iter X.env x=pure x:=by intro _;rfl):PE X (.ListComp elt [⟨tg,iter,ifs,0⟩] sc pos) (px cap wi g tst te):=by
 intro pins s σ H Q I h;rw[eval_ListComp];refine uI (use:=none) hc hi fF fG f9 (xN gy) oQ hb I h (fun D C m H' s' I' f' hn q=>?_) hs
 refine⟨m,hn,fun h' hs'=>⟨.ref D,H',?_,rfl,q⟩⟩
 exact I'.turned (t':=s'.toks) (it:=C) (fun b o hb e=>hs'.extBut b o hb e) f'.1 f'.2.1.symm.symm f'.2.2.2.1 f'.2.2.2.2.1 f'.2.2.2.2.2
theorem xq{X:Cx}{i:Nat}{y:Str}{tg iter elt:Expr}{ifs:List Expr}{sc:Scope}{pos mz py:Pos}{N':List Str}{cap:List (Option Nat)}{wi:TI}{g:TG}{tst:TT}{te:TE}
  (hN:X.N.Nodup) (hi':X.N[i]? = some y) (hy:Loc X.env.scope y)
  (hc:X.calm=true) (hi:PI X tg iter wi) (oQ:kj X sc N' cap)
  (hb:∀ cl C s₂ H₂ fp,PG (blk X N' sc cl C s₂ H₂ fp) tg g/\PTs (blk X N' sc cl C s₂ H₂ fp) ifs tst/\PE (blk X N' sc cl C s₂ H₂ fp) elt te)
  (hsw:swapsWith (.ListComp elt [⟨tg,iter,ifs,0⟩] sc pos) (some (.Name y py)) mz.line X.env=pure true:=by rfl)
  (hf:X.fn y=true\/X.env.scope.names.lookup y=some .local:=by first|exact .inl rfl|exact .inr rfl|assumption)
  (fF:sc.kind = .function:=by rfl) (fG:∀ y∈sc.names,y.2 ≠ .cell:=by decide) (f9:∀ y∈sc.names,y.2 = .local->sc.names.lookup y.1=some .local:=by decide)
  (gy:(sc.names.all fun y=>y.2 != .free ||(X.env.kindOf y.1==some .cell||X.env.kindOf y.1==some .free))=true:=by rfl)
  (hs:∀ x,foldedSetIterable iter X.env x=pure x:=by intro _;rfl):PS X (.Assign [.Name y py] (.ListComp elt [⟨tg,iter,ifs,0⟩] sc pos) mz) (iM (px cap wi g tst te) (g8 i)):=by
 intro pins s σ H Dn I h;rw[exec_Assign_Name_used _ _ _ _ hsw];refine wpAny_bind (wpAny_standAt (wpAny_bind ?_));show wpAny _ X.A (do let _ <- comprehension (.ListComp elt [⟨tg,iter,ifs,0⟩] sc pos) sc X.env _ (newList []) false (eval iter X.env) (some (assign (.Name y py) X.env))) _ _ s
 refine wpAny_bind (wpAny_mono (uI (use:=some (assign (.Name y py) X.env)) (Q:=fun x H1=>Dn.nx (σ.set i (some x)) H1) (Q':=fun _ s'=>SP X pins Dn .next s') hc hi fF fG f9 (xN gy) oQ hb I h (fun D C m H' s' I' f' hn q=>?_) hs)
  (fun _ s' hq=>wpAny_pure (wpAny_pure hq)) fun _ _ e=>e)
 obtain⟨o,es,ep,ho,hd,hr⟩:=id hn;have I2:=I'.pinned (fp:=[C]) (fun b hb=>by rw[List.mem_singleton.mp hb];exact f') fun b hb=>by
  rw[List.mem_singleton.mp hb];exact⟨o,ho,fun v=>by rw[hd];simp⟩
 refine wpAny_assign_Name (my I2 hN hi' hy (v:=.ref D) rfl (fun s2 I3=>?_) hf)
 have z:=(I3.pin (C,o) (List.mem_append_right _ (List.mem_append_right _ (d5 (List.mem_singleton.mpr rfl) ho)))).1;refine⟨m,⟨o,es,ep,z,hd,hr⟩,fun h' hs'=>⟨_,H',?_,q⟩⟩
 exact I3.jr.turned (t':=s2.toks) (it:=C) (fun b o hb e=>hs'.extBut b o hb e) f'.1 f'.2.1 f'.2.2.2.1 f'.2.2.2.2.1 f'.2.2.2.2.2
section
variable{X:Cx}
theorem pQ{K:W.Frag}{a:Addr}{xs:List V}{g:TG}{tst:TT}{te:TE}{σ:St}{H:Hp}{Q:VK}(Pv:Nat->List V->St->Hp->Prop)(h0:Pv 0 [] σ H)
  (hl:∀ i ys σ H,i<=xs.length->Pv i ys σ H->SqL K H a xs/\ys.length<sizeLine)
  (hs:∀ i x ys σ H,xs[i]? = some x->Pv i ys σ H->g x σ H fun σ2 H3=>tst σ2 H3 fun b H4=>if b=true then te σ2 H4 fun y H5=>Pv (i+1) (ys ++ [y]) σ2 H5 else Pv (i+1) ys σ2 H4)
  (hd:∀ ys σ H,Pv xs.length ys σ H->∀ D,H D=none->Q (.ref D) (upd H D (.lst ys))) :
  Fv g tst te σ Q (Itl K a) H:=by
 refine⟨fun i m ys σ H=>m=xs.length - i/\i<=xs.length/\Pv i ys σ H,⟨xs.length,by simp,Nat.zero_le _,h0⟩,?_⟩
 rintro i m ys σ H ⟨rfl,hi,p⟩
 obtain⟨q,hz⟩:=hl i ys σ H hi p;by_cases hlt:i<xs.length
 ·refine .inr ⟨⟨xs,xs[i],q,by simp[hlt]⟩,hz,Pv (i+1),fun ys' σ' H' p'=>⟨xs.length - (i+1),by omega,rfl,hlt,p'⟩,fun x H' y=>?_⟩
  obtain⟨e,y⟩:=y;subst e;exact hs i x ys σ _ (y xs q) p
 ·have e:i=xs.length:=by omega
  subst e;exact .inl ⟨⟨xs,q,Nat.le_refl _⟩,Nat.le_of_lt hz,hd ys σ H p⟩
def HG:V->Option Int->Option Int->Hp->VK->Prop:=fun x lo hi H Q=>∃ z,x = .str z/\z.length<=sizeLine/\Q (.str (Txt.slice z lo hi)) H
theorem FK:SlR X HG:=by
 intro pins s σ H x v vl vu lo hi sl Q I rx hs pl pu h;obtain⟨z,rfl,hz,q⟩:=h;obtain⟨t,rfl⟩:=rx;refine⟨"str",_,PySem.F.slot_str_getitem.lookup,typeIs_str s z t,?_⟩;obtain⟨o,h1,h2,h3⟩:=hs;have fin:∀(y:Str)(t' k:Nat),y=Txt.slice z lo hi->EP X pins σ Q (.str y t') { s with toks:=k }:=fun y t' k e=>by subst e;exact⟨.str _,H,I.tok k,⟨_,rfl⟩,q⟩
 cases pl with
 | none =>
  cases pu with
  | none=>exact wpAny_getItem_str_slice (l:=none) (u:=none) (st:=none) ⟨o,h1,h2,h3⟩ rfl (post_val_or_str ⟨Nat.le_trans (Txt.slice_le z _ _) hz,fun t' k=>fin _ t' k rfl⟩)
  | int j uj=>exact wpAny_getItem_str_slice (l:=none) (u:=some (j,uj)) (st:=none) ⟨o,h1,h2,h3⟩ rfl (post_val_or_str ⟨Nat.le_trans (Txt.slice_le z _ _) hz,fun t' k=>fin _ t' k rfl⟩)
 | int i ui =>
  cases pu with
  | none=>exact wpAny_getItem_str_slice (l:=some (i,ui)) (u:=none) (st:=none) ⟨o,h1,h2,h3⟩ rfl (post_val_or_str ⟨Nat.le_trans (Txt.slice_le z _ _) hz,fun t' k=>fin _ t' k rfl⟩)
  | int j uj=>exact wpAny_getItem_str_slice (l:=some (i,ui)) (u:=some (j,uj)) (st:=none) ⟨o,h1,h2,h3⟩ rfl (post_val_or_str ⟨Nat.le_trans (Txt.slice_le z _ _) hz,fun t' k=>fin _ t' k rfl⟩)
theorem u7{ys:List Str}:∀{us:List Value},Vals (ys.map V.str) us->StrsAre us ys:=by
 induction ys with
 | nil=>intro us r;rw[List.map_nil]at r;cases r;exact .nil
 | cons n ns ih =>
  intro us r;rw[List.map_cons]at r;cases r with
  | cons r1 r2 =>
   obtain⟨t,e⟩:=r1;subst e;exact .cons n t (ih r2)
def rJoin(K:W.Frag):V->List V->Hp->VK->Prop:=fun x xs H Q=>∃ sep l ys,x = .str sep/\xs = [.ref l]/\SqL K H l (ys.map V.str)/\(ys.map (·.length)).sum+ys.length*sep.length<=16777216/\Q (.str (Txt.join sep ys)) H
theorem DJ:MtR X "str.join" (rJoin X.K):=by
 intro pins s σ H x xs v us Q I rx rs h;obtain⟨sep,l,ys,rfl,rfl,hl,hw,q⟩:=h;obtain⟨t,rfl⟩:=rx;obtain⟨u,rfl,ru⟩:=Vals.one rs;cases ru;obtain⟨its,r,pl,hz⟩:=I.list hl;exact join_list pl.isList (by simpa using u7 r) hw fun t' k=>⟨.str _,H,I.tok k,⟨_,rfl⟩,q⟩
end
section
variable{prog:Program}{w:World}{A:Around}{E:Value->Shared->Prop}{s:Shared}
theorem yB:typeLookup (.type "list_reverseiterator") "__len__" = pure none:=by rw[typeLookup_type,builtinLookup_eq_fast];kernel_rfl
theorem Bm:typeLookup (.type "list_reverseiterator") "__length_hint__" = pure (some (.builtin "list_reverseiterator.__length_hint__")):=by rw[typeLookup_type,builtinLookup_eq_fast];kernel_rfl
theorem v9{R:Result->Shared->Prop}{I:Addr}{fp wr:List Addr}{n:Nat}{P:Nat->Value->Prop}{St:Nat->Heap->Prop}(W:Walks prog w A.in1 I fp wr n P St)(hT:∀ i (s:Shared),St i s.heap->s.TypeIs (.ref I) "list_reverseiterator")(S:Addr)(res:Value)(c₀:Nat)(hst:St 0 s.heap)(hSf:S ∉ fp)(hI:I∈fp)
  (hS:s.heap.get? S=some { cls:=.type "list",data:=.seq #[] c₀ })
  (hR:∀ s' ik c',Moved (S::wr) (fun g g'=>g'=g) s s'->s'.heap.get? S=some { cls:=.type "list",dict:=none,data:=.seq ik c',slots:=#[] }->ItemsOf P ik n->R (.ok (.ret res)) s') (hn:n<=sizeLine) :
  wpAny (model prog w) A.in1 (Builtin.List.listExtendWith (.ref S) (.ref I) res)
   (fun fin s'=>match fin with | .done f=>R (.ok f) s' | .again c'=>c'.quiet=true/\codeAny (model prog w) A c' R s') (fun e s'=>R (.error e) s') s:=by
 have hSI:S≠I:=fun e=>hSf (e▸hI)
 have h1:Builtin.List.listSameRef (.ref S) (.ref I)=false:=by simp[Builtin.List.listSameRef,hSI]
 unfold Builtin.List.listExtendWith;refine wpAny_bind (wpAny_typeOf (hT 0 _ hst) ?_);rw[if_neg (by rw[h1];decide)]
 refine wpAny_bind (W.self 0 _ _ _ hst ?_);refine wpAny_bind (wpAny_holding ?_);unfold Builtin.List.listLengthHint;refine wpAny_bind (wpAny_specialOf (hT 0 _ hst) yB ?_);show wpAny _ A.in1 (specialOf (Value.ref I) (Str.ofString "__length_hint__") >>= _) _ _ _;refine wpAny_bind (wpAny_specialOf (hT 0 _ hst) Bm ?_)
 generalize hid:("list_reverseiterator.__length_hint__":String)=id0
 wp_delta
 rw[show splitId id0=some ("list_reverseiterator","__length_hint__")from by subst hid;decide +kernel]
 subst hid;refine wpAny_bind (wpAny_isInstance (b:=true) (hT 0 _ hst) (by rw[isSubtype_type];kernel_rfl) ?_)
 refine wpAny_pure ?_;rw[if_neg (by decide)]
 exact wpAny_pure ⟨plainId_quiet F.plain_extend_loop _,codeAny_extend_loopS W.toS hn _ hSf _ n 0 _ _ _ rfl (Nat.zero_le _) hst hS (ItemsOf.nil P) fun s' ik c' hm hS' si=>hR s' ik c' hm hS' si⟩
theorem Bf{R:Result->Shared->Prop}{I:Addr}{fp wr:List Addr}{n:Nat}{P:Nat->Value->Prop}{St:Nat->Heap->Prop}(W:Walks prog w A.in1 I fp wr n P St)(hT:∀ i (s:Shared),St i s.heap->s.TypeIs (.ref I) "list_reverseiterator")(S:Addr)(hst:St 0 s.heap)(hSf:S ∉ fp)(hI:I∈fp)
  (hS:s.heap.get? S=some { cls:=.type "list",data:=.seq #[] })
  (hR:∀ s' ik c',Moved (S::wr) (fun g g'=>g'=g) s s'->s'.heap.get? S=some { cls:=.type "list",dict:=none,data:=.seq ik c',slots:=#[] }->ItemsOf P ik n->R (.ok (.ret .none)) s') (hn:n<=sizeLine) :
  wpAny (model prog w) A.in1 (Builtin.«list.__init__» ⟨[.ref S,.ref I],[]⟩)
   (fun fin s'=>match fin with | .done f=>R (.ok f) s' | .again c'=>c'.quiet=true/\codeAny (model prog w) A c' R s') (fun e s'=>R (.error e) s') s:=by
 show wpAny _ A.in1 (do let old <- Builtin.List.listItems (.ref S);Builtin.List.listUpdate (.ref S) (fun _=>#[]);letGo old.toList.reverse;Builtin.List.listExtendWith (.ref S) (.ref I) .none) _ _ s
 refine wpAny_bind ?_;unfold Builtin.List.listItems;refine wpAny_bind (wpAny_seqItems hS rfl (wpAny_pure ?_));show wpAny _ A.in1 (updateSeq S (fun _=>#[]) >>= fun _=>letGo (#[]:Array Value).toList.reverse >>= fun _=>Builtin.List.listExtendWith (.ref S) (.ref I) .none) _ _ s
 refine wpAny_bind (wpAny_updateSeq hS rfl ?_);have hS₂:=Heap.get?_update_self (Obj.mapSeq (fun _=>(#[]:Array Value))) hS rfl
 have oth:∀ b o,b≠S->s.heap.get? b=some o ->(s.heap.update S (Obj.mapSeq (fun _=>(#[]:Array Value)))).get? b=some o :=
  fun b o hb e=>(Heap.get?_update_other _ _ (Ne.symm hb)).trans e
 refine wpAny_bind (wpAny_letGo ?_);refine v9 (hn:=hn) W hT S .none _ (W.frame 0 s.heap _ hst fun b hb o e=>oth b o (fun h=>hSf (h▸hb)) e) hSf hI hS₂ fun s' ik c' hm hS' si=>?_
 exact hR s' ik c' (Moved.trans (fun _ _ _ h1 h2=>h2.trans h1) ((Moved.refl (wr:=S::wr) (G:=fun g g'=>g'=g) (fun _=>rfl)).then_heap (Nat.le_refl _) fun b o hb e=>oth b o (fun h=>hb (by rw[h];exact List.mem_cons_self)) e) hm) hS' si
theorem oX{Q:Value->Shared->Prop}{I:Addr}{fp wr:List Addr}{n:Nat}{P:Nat->Value->Prop}{St:Nat->Heap->Prop}(W:Walks prog w A.in1.in1 I fp wr n P St)(hT:∀ i (s:Shared),St i s.heap->s.TypeIs (.ref I) "list_reverseiterator")(hst:St 0 s.heap)(hfp:∀ b∈fp,b<s.heap.objs.size)(hI:I∈fp)
  (hQ:∀ s' ik c',Moved (s.heap.objs.size::wr) (fun g g'=>g'=g) { s with heap:=s.heap.push { cls:=.type "list",data:=.seq #[] } } s' ->
   s'.heap.get? s.heap.objs.size=some { cls:=.type "list",dict:=none,data:=.seq ik c',slots:=#[] }->ItemsOf P ik n->Q (.ref s.heap.objs.size) s') (hn:n<=sizeLine) :
  wpAny (model prog w) A (call (.type "list") [.ref I]) Q E s:=by
 have hSf:s.heap.objs.size ∉ fp:=fun hm=>Nat.lt_irrefl _ (hfp _ hm)
 refine callType_codes (Q₁:=fun obj s₁=>obj = .ref s.heap.objs.size/\s₁ ={ s with heap:=s.heap.push { cls:=.type "list",data:=.seq #[] } }) F.called_list (F.typeCall_list_1 _) F.entry_list_init
  (code_list_new _ ⟨rfl,rfl⟩) fun obj s₁ h₁=>?_
 obtain⟨rfl,rfl⟩:=h₁;have hS:(s.heap.push { cls:=.type "list",data:=.seq #[] }).get? s.heap.objs.size=some { cls:=.type "list",data:=.seq #[] }:=Heap.get?_push_size _ rfl;refine⟨⟨_,hS,rfl⟩,F.args_list_init_2 _ _,Bf (hn:=hn) W hT _ (W.frame 0 s.heap _ hst fun b _ o e=>Heap.get?_push_of_some _ e) hSf hI hS fun s' ik c' hm hS' si=>?_⟩
 exact⟨rfl,hQ s' ik c' hm hS' si⟩
end
def mx(K:W.Frag)(te:TE):TE:=fun σ H Q=>te σ H fun x H1=>∃ l ys,x = .ref l/\SqL K H1 l ys/\∀ q,H1 q=none->Q (.ref q) (upd H1 q (.lst ys.reverse))
theorem za{its:Array Value}{acc:Array Value}{ys:List V}(r:Vals ys its.toList)(h:ItemsOf (fun i v=>its[its.size - 1 - i]? = some v) acc its.size):Vals ys.reverse acc.toList:=by
 have e:acc.toList=its.toList.reverse:=by
  apply List.ext_getElem?
  intro i;by_cases hi:i<its.size
  ·have h1:i<acc.size:=by rw[h.1];exact hi
   have h2:=h.2 i acc[i] (by simp[h1])
   rw[List.getElem?_reverse (by simpa using hi)]
   simp only[Array.length_toList,Array.getElem?_toList];rw[h2];simp[h1]
  ·have h1:¬ i<acc.size:=by rw[h.1];exact hi
   rw[List.getElem?_eq_none (by simpa using h1),List.getElem?_eq_none (by simpa using hi)]
 rw[e];exact Vals.reverse r
theorem mX{X:Cx}{e:Expr}{te:TE}{p1 p2 i6 pos:Pos}(hc:X.calm=true)(hg1:Gl X "list")(hm1:X.mg "list" = none)(hg2:Gl X "reversed")(hm2:X.mg "reversed" = none)(he:PE X e te)
  (hs1:starEach [e] X.env = [(false,eval e X.env)]:=by rfl) (hs2:starEach [.Call (.Name "reversed" p2) [e] [] i6] X.env = [(false,eval (.Call (.Name "reversed" p2) [e] [] i6) X.env)]:=by rfl) :
  PE X (.Call (.Name "list" p1) [.Call (.Name "reversed" p2) [e] [] i6] [] pos) (mx X.K te):=by
 intro pins s σ H Q I h;refine wpAny_Call_Name_kw (jb I hg1 hm1 boot_list ?_);refine PyProof.Rows.callWith_type1 ?_ hs2 rfl;rw[hs2];show wpAny _ _ (spliced ((false,eval (.Call (.Name "reversed" p2) [e] [] i6) X.env)::backTo pos (starEach [] X.env))) _ _ s;refine Calls.spliced_cons ?_;refine wpAny_Call_Name_kw (jb I hg2 hm2 boot_reversed ?_);refine PyProof.Rows.callWith_type1 ?_ hs1 rfl;rw[hs1];show wpAny _ _ (spliced ((false,eval e X.env)::backTo i6 (starEach [] X.env))) _ _ s;refine Calls.spliced_cons (thn (he pins s σ H _ I h) fun u s1 hPP=>?_)
 obtain⟨x,H1,I1,r1,l,ys,ex,hl,q⟩:=hPP;subst ex;cases r1;refine Calls.spliced_nil ?_;obtain⟨its,rv,pl,hz⟩:=I1.list hl;have hlt:l<s1.heap.objs.size:=by obtain⟨_,e,_⟩:=pl.isList;exact Heap.lt_size e
 refine call_reversed_list pl.isList (Calls.spliced_nil ?_);have W:=Walks.listRev (prog:=X.prog) (w:=X.w) (A:=X.A.in1.in1) (show X.A.in1.in1.handled=none from I.ok.hd hc) s1.heap.objs.size l (Nat.ne_of_lt hlt) its.toArray;refine oX (s:={ s1 with heap:=s1.heap.push (revObj l ((its.toArray.size:Int) - 1)) }) W (fun i s' st=>st.2.1.typeIs) ⟨Nat.zero_le _,⟨_,Heap.get?_push_size _ rfl,rfl,by simp[revObj]⟩,pl.isList.push _⟩ (fun b hb=>?_) (by simp) (fun s' ik c' hm hS' si=>?_) ?_
 ·show b<(s1.heap.push _).objs.size;rw[Heap.size_push];rcases List.mem_cons.mp hb with z|z
  ·rw[z];exact Nat.lt_succ_self _
  ·rw[List.mem_singleton.mp z];exact Nat.lt_succ_of_lt hlt
 ·rw[Moved.eq_with hm];have kp:∀ b o,s1.heap.get? b=some o->s'.heap.get? b=some o:=fun b o e=>hm.heap b o (fun z=>by
   have hb:@LT.lt Nat _ b s1.heap.objs.size:=Heap.lt_size e;rcases List.mem_cons.mp z with z|z
   ·rw[z]at hb;simp only[Heap.size_push]at hb;omega
   ·rw[List.mem_singleton.mp z]at hb;omega) (Heap.get?_push_of_some _ (Heap.get?_push_of_some _ e))
  have hv:Vals ys.reverse ik.toList:=za (its:=its.toArray) (by simpa using rv) si
  have hf:H1 ((s1.heap.push (revObj l ((its.toArray.size:Int) - 1))).objs.size)=none:=I1.hok.fresh (by rw[Heap.size_push];omega)
  refine⟨.ref _,_,I1.laid (t':=s'.toks) (h':=s'.heap) (o:=.lst ys.reverse) kp (by rw[Heap.size_push];omega) ⟨by rw[List.length_reverse];exact hz,ik.toList,c',hv,by simpa using hS'⟩,rfl,q _ hf⟩
 ·have e:=rv.length;rw[List.size_toArray];omega
section
variable{X:Cx}
def B1(_ j:Int):Prop:=0<j/\j<18446744073709551616
theorem uf:OpR X (binaryOp .FloorDiv) (rI B1 fun i j=>.int (i / j)):=opI fun i j _ _ _ _ _ hc q=>by
 obtain⟨h1,h2⟩:=hc;have e:i.fdiv j=i / j:=Int.fdiv_eq_ediv_of_nonneg _ (by omega)
 refine floordiv_int (by omega) (by rw[e];exact q) (.inl (PyProof.noPylong_of_log2 ?_))
 have h3:j.natAbs<2 ^ 64:=by omega
 have h4:j.natAbs≠0:=by omega
 exact Nat.lt_trans ((Nat.log2_lt h4).mpr h3) (by decide)
end
def dk(s n:Int)(l:Addr):List (Key×V):=[(.inr "seed",.int s),(.inr "number",.int n),(.inr "left",.ref l)]
theorem Eh{s n:Int}{l:Addr}:dC (dk s n l) (.inr "seed":Key)=some (.int s):=by kernel_rfl
theorem yP{s n:Int}{l:Addr}:dC (dk s n l) (.inr "number":Key)=some (.int n):=by kernel_rfl
theorem xO{s n:Int}{l:Addr}:dC (dk s n l) (.inr "left":Key)=some (.ref l):=by kernel_rfl
theorem vn{s n m:Int}{l:Addr}:putK (dk s n l) (.inr "number":Key) (.int m)=dk s m l:=by kernel_rfl
theorem Aj{s n m:Int}{l:Addr}:putK (dk s n l) (.inr "seed":Key) (.int m)=dk m n l:=by kernel_rfl
structure cm(H:Hp)(d l:Addr)(s n:Int)(ls:List Int):Prop where
 hd:H d=some (.dK (dk s n l))
 hl:H l=some (.lst (ls.map V.int))
 s0:0<=s
 s1:s<2147483647
 n0:0<=n
 l0:∀ x∈ls,0<=x
def ki(H:Hp)(d l:Addr):Prop:=∃ s n ls,cm H d l s n ls
def Kp(d l:Addr)(H H':Hp):Prop:=∀ b o,H b=some o->b≠d->b≠l->H' b=some o
theorem Kp.refl{d l:Addr}{H:Hp}:Kp d l H H:=fun _ _ h _ _=>h
theorem cm.ne{H:Hp}{d l:Addr}{s n:Int}{ls:List Int}(D:cm H d l s n ls):d≠l:=iS D.hd D.hl (by intro z;cases z)
theorem cm.num{H:Hp}{d l:Addr}{s n m:Int}{ls:List Int}(D:cm H d l s n ls)(h:0<=m):cm (upd H d (.dK (putK (dk s n l) (.inr "number":Key) (.int m)))) d l s m ls :=
 ⟨by rw[au,vn],by rw[aj D.ne.symm];exact D.hl,D.s0,D.s1,h,D.l0⟩
theorem cm.Jn{H:Hp}{d l:Addr}{s n m:Int}{ls:List Int}(D:cm H d l s n ls)(h:0<=m)(h2:m<2147483647):cm (upd H d (.dK (putK (dk s n l) (.inr "seed":Key) (.int m)))) d l m n ls :=
 ⟨by rw[au,Aj],by rw[aj D.ne.symm];exact D.hl,h,h2,D.n0,D.l0⟩
theorem cm.list{H:Hp}{d l:Addr}{s n:Int}{ls ls':List Int}(D:cm H d l s n ls)(h:∀ x∈ls',0<=x):cm (upd H l (.lst (ls'.map V.int))) d l s n ls' :=
 ⟨by rw[aj D.ne];exact D.hd,au,D.s0,D.s1,D.n0,h⟩
theorem Kp.Fy{d l:Addr}{H H1:Hp}{o:HO}(a:Kp d l H H1):Kp d l H (upd H1 d o):=fun c u h h1 h2=>by rw[aj h1];exact a c u h h1 h2
theorem Kp.Jk{d l:Addr}{H H1:Hp}{o:HO}(a:Kp d l H H1):Kp d l H (upd H1 l o):=fun c u h h1 h2=>by rw[aj h2];exact a c u h h1 h2
theorem jm.new{p:Addr}{H H1:Hp}{o:HO}(a:jm H H1)(hp:H1 p=none):jm H (upd H1 p o):=fun c u h=>by
 have z:=a c u h;rw[aj (aM z hp)];exact z
theorem ki.new{d l p:Addr}{H:Hp}{o:HO}(D:ki H d l)(hp:H p=none):ki (upd H p o) d l:=by
 obtain⟨s,n,ls,D⟩:=D;exact⟨s,n,ls,by rw[aj (aM D.hd hp)];exact D.hd,by rw[aj (aM D.hl hp)];exact D.hl,D.s0,D.s1,D.n0,D.l0⟩
def zm:Sp:=fun vs H Q _=>∃(d l:Addr)(m:Int),vs = [.ref d,.int m]/\ki H d l/\0<m/\m<18446744073709551616 /\
 ∀(r:Int)(H':Hp),0<=r->r<m->ki H' d l->Kp d l H H'->Q (.int r) H'
def zo(K:W.Frag):Sp:=fun vs H Q _=>∃(a:Addr)(ns:List Int)(b:Int),vs = [.ref a,.int b]/\SqL K H a (ns.map V.int)/\ns.length<=63/\0<=b/\b<=63 /\
 ∀(d l:Addr)(H':Hp),H d=none->H l=none->ki H' d l->jm H H'->Q (.ref d) H'
theorem yd{c:TT}{tb:TS}{D:Ends}{σ:St}{H:Hp}(I:Nat->St->Hp->Prop){m:Nat}(h0:I m σ H)(yM:∀ m σ H,I m σ H->D.nx σ H)
  (hs:∀ m σ H,I m σ H->D.nx σ H->c σ H fun b H1=>if b=true then ∃ N:St->Hp->Prop,(∀ σ' H',N σ' H'->∃ m',m'<m/\I m' σ' H')/\tb { D with nx:=N,ct:=N,bk:=D.nx } σ H1 else D.nx σ H1):u3 c tb D σ H :=
 ⟨I,⟨m,h0⟩,fun m σ H h=>hs m σ H h (yM m σ H h)⟩
theorem cm.Bq{H:Hp}{d l:Addr}{s n:Int}{ls:List Int}(D:cm H d l s n ls):fI H d (.str "seed") (some (.int s)):=by
 have z:=fI.k (k:=(Sum.inr "seed":Key)) D.hd;rw[Eh]at z;exact z
theorem cm.IL{H:Hp}{d l:Addr}{s n:Int}{ls:List Int}(D:cm H d l s n ls):fI H d (.str "number") (some (.int n)):=by
 have z:=fI.k (k:=(Sum.inr "number":Key)) D.hd;rw[yP]at z;exact z
theorem cm.Fl{H:Hp}{d l:Addr}{s n:Int}{ls:List Int}(D:cm H d l s n ls):fI H d (.str "left") (some (.ref l)):=by
 have z:=fI.k (k:=(Sum.inr "left":Key)) D.hd;rw[xO]at z;exact z
theorem cm.Ig{H:Hp}{d l:Addr}{s n m:Int}{ls:List Int}(D:cm H d l s n ls):tu H d (.str "number") (.int m) (upd H d (.dK (putK (dk s n l) (.inr "number":Key) (.int m)))) :=
 tu.k (k:=(Sum.inr "number":Key)) D.hd (aB (by show 3<=1000;decide))
theorem cm.Ie{H:Hp}{d l:Addr}{s n m:Int}{ls:List Int}(D:cm H d l s n ls):tu H d (.str "seed") (.int m) (upd H d (.dK (putK (dk s n l) (.inr "seed":Key) (.int m)))) :=
 tu.k (k:=(Sum.inr "seed":Key)) D.hd (aB (by show 3<=1000;decide))
theorem mod_lt{x m:Int}(h:0<m):0<=x % m/\x % m<m:=⟨Int.emod_nonneg _ (by omega),Int.emod_lt_of_pos _ h⟩
end L2
namespace L2
theorem BH(ns:List Int)(lo hi:Option Int):∃ cs:List Int,ji (ns.map V.int) lo hi=cs.map V.int/\cs.length<=ns.length:=by
 refine⟨(ns.drop (HT.sIx ns.length 0 lo)).take (HT.sIx ns.length ns.length hi - HT.sIx ns.length 0 lo),?_,?_⟩
 ·unfold ji;rw[List.length_map,<- List.map_drop,<- List.map_take]
 ·rw[List.length_take,List.length_drop];exact Nat.le_trans (Nat.min_le_right _ _) (Nat.sub_le _ _)
theorem int_at{ns:List Int}{i:Nat}{x:V}(h:(ns.map V.int)[i]? = some x):∃ z,x = .int z:=by
 rw[List.getElem?_map]at h;cases e:ns[i]? with
 | none=>rw[e]at h;cases h
 | some z=>rw[e]at h;exact⟨z,(Option.some.inj h).symm⟩
theorem D3{ns:List Int}{i:Nat}{x:V}(h:(ns.map V.int)[i]? = some x):∃ z,x = .int z/\z∈ns:=by
 rw[List.getElem?_map]at h;cases e:ns[i]? with
 | none=>rw[e]at h;cases h
 | some z=>rw[e]at h;exact⟨z,(Option.some.inj h).symm,List.mem_of_getElem? e⟩
end L2
namespace L2
open PySem
theorem Hk{α:Type}{xs:List α}{i:Int}(h0:0<=i)(h1:i<xs.length):∃ v,atI xs i=some v/\v∈xs:=by
 obtain⟨n,rfl⟩:∃ n:Nat,i=n:=⟨i.toNat,by omega⟩
 have h2:n<xs.length:=by omega
 refine⟨xs[n],?_,List.getElem_mem h2⟩;unfold atI ixN;rw[if_pos h0,if_pos h1];simp[h2]
theorem bH{n:Nat}(h:n<=10000):n<=sizeLine:=by
 have:(10000:Nat)<=sizeLine:=by decide
 omega
end L2
namespace L2
end L2
namespace L2
open PySem PySem.Spec PyProof.Rows
def strsOf:List Expr->Option (List Str)
 | []=>some []
 | .Constant (.str x) _ _::r=>(strsOf r).map (x :: ·)
 | _=>none
theorem xx{X:Cx}:∀{es:List Expr}{ws:List Str},strsOf es=some ws->PA X es (fun _ H Q=>Q (ws.map V.str) H)
 | [],ws,h=>by
  cases h;exact fU
 | e::es,ws,h=>by
  unfold strsOf at h
  split at h
  ·rename_i h1;cases h1
  ·rename_i x j pos r h1;cases h1;cases e1:strsOf es with
   | none=>rw[e1]at h;cases h
   | some ws' =>
    rw[e1]at h;cases h;exact ck cD (xx e1)
  ·cases h
end L2
namespace L2
theorem Ed{i:Nat}{x:V}{σ:St}{H:Hp}{A B:St->Hp->Prop}(h:A (σ.set i (some x)) H):g8 i x σ H fun σ2 H3=>wV σ2 H3 fun b H4=>if b=true then A σ2 H4 else B σ2 H4:=by
 show if true=true then A (σ.set i (some x)) H else B (σ.set i (some x)) H
 rw[if_pos rfl];exact h
end L2
namespace L2
end L2
namespace L2
open PySem PySem.Spec PyProof.Rows
section
variable{X:Cx}
def gG(z:Str)(n:Nat):Str:=⟨(List.replicate n z.cps).foldl (· ++ ·) #[]⟩
theorem tR(c:Array Nat):∀(n:Nat)(acc:Array Nat),((List.replicate n c).foldl (· ++ ·) acc).size=acc.size+n*c.size
 | 0,acc=>by simp
 | n+1,acc=>by
  rw[List.replicate_succ,List.foldl_cons,tR c n,Array.size_append,Nat.add_mul];omega
theorem fD(z:Str)(n:Nat):(gG z n).length=n*z.length:=by
 have h:=tR z.cps n #[];simpa [gG,Str.length]using h
theorem vt:OpR X (binaryOp .Mult) (fun x y H Q=>∃ z n,x = .str z/\y = .int n/\0<=n/\n<=1000/\z.length<=1000/\Q (.str (gG z n.toNat)) H):=by
 intro pins s σ H x y v u Q I rx ry h;obtain⟨z,n,rfl,rfl,n0,n1,hz,q⟩:=h;obtain⟨t,rfl⟩:=rx;obtain⟨t',rfl⟩:=ry;have fin:∀(y:Str)(t' k:Nat),y=gG z n.toNat->EP X pins σ Q (.str y t') { s with toks:=k }:=fun y t' k e=>by subst e;exact⟨.str _,H,I.tok k,⟨_,rfl⟩,q⟩
 have hp:((z.length:Int)*n)<=1000000:=by
  have h1:(z.length:Int)*n<=1000*n:=Int.mul_le_mul_of_nonneg_right (by omega) n0
  omega
 refine P.mul_str ?_ (fun h1 _=>?_) (fun h1 _=>?_) ?_
 ·rw[decide_eq_false (by omega),decide_eq_false (by omega)];rfl
 ·have h2:(1000:Int) <=(2 ^ 63 - 1) / n:=by
   rw[Int.le_ediv_iff_mul_le (by omega)]
   omega
  omega
 ·unfold Builtin.Str.tooLong;have h2:z.length*n.toNat<=1000000:=by
   have e:((z.length*n.toNat:Nat):Int) =(z.length:Int)*n:=by rw[Int.natCast_mul,Int.toNat_of_nonneg n0]
   omega
  have:sizeLine=16777216:=sizeLine_eq
  exact decide_eq_false (by omega)
 ·by_cases h1:n<1
  ·rw[if_pos h1];have e:n.toNat=0:=by omega
   exact⟨by decide,fin _ _ _ (by rw[e];rfl)⟩
  ·rw[if_neg h1];by_cases h2:(n==1||z.length==0)=true
   ·rw[if_pos h2];refine fin z t s.toks ?_;have h3:n=1\/z.length=0:=by simpa using h2
    rcases h3 with h3|h3
    ·subst h3;show z =⟨#[]++z.cps⟩;simp
    ·have e1:z.cps = #[]:=by simpa [Str.length]using h3
     have e2:=fD z n.toNat;rw[h3]at e2;have e3:(gG z n.toNat).cps = #[]:=by simpa [Str.length]using e2
     exact Str.ext' (by rw[e1,e3])
   ·rw[if_neg h2];refine⟨?_,fin _ _ _ rfl⟩;have e:=fD z n.toNat;have h3:n.toNat*z.length<=1000000:=by
     have e:((n.toNat*z.length:Nat):Int) =(z.length:Int)*n:=by rw[Int.natCast_mul,Int.toNat_of_nonneg n0,Int.mul_comm]
     omega
    have:sizeLine=16777216:=sizeLine_eq
    show(gG z n.toNat).length<=sizeLine;omega
end
end L2
namespace L2
open PySem
def lH(n:Nat):Nat:=97+n % 26
def cT(c1 c2:Str)(turn k:Nat):Str:=c1++⟨#[lH (turn+7*k)]⟩++c2++gG "x" (k % 2)++gG "y" (k / 26)
theorem nP(c1 c2:Str)(turn k:Nat):(cT c1 c2 turn k).cps.toList=c1.cps.toList++lH (turn+7*k) ::(c2.cps.toList++(gG "x" (k % 2)).cps.toList++(gG "y" (k / 26)).cps.toList):=by
 simp[cT,Str.cps_append]
theorem iJ(c1 c2:Str)(turn k:Nat):(cT c1 c2 turn k).length=c1.length+1+c2.length+k % 2+k / 26:=by
 unfold cT;rw[Str.length_append,Str.length_append,Str.length_append,Str.length_append,fD,fD,show(⟨#[lH (turn+7*k)]⟩:Str).length=1 from rfl,show(Str.ofString "x").length=1 from by decide +kernel,show(Str.ofString "y").length=1 from by decide +kernel]
 omega
theorem Ja{a:List Nat}{x y:Nat}{b c:List Nat}(h:a++x::b=a++y::c):x=y:=by
 have:=List.append_cancel_left h
 exact(List.cons.inj this).1
theorem yH{turn k j:Nat}(hk:k<52)(hj:j<52)(h:lH (turn+7*k)=lH (turn+7*j)):k % 26=j % 26:=by
 unfold lH at h;omega
theorem xf:(gG "y" 1).cps.toList = [121]:=by decide +kernel
theorem tQ(z:Str):(gG z 0).cps.toList = []:=by simp[gG]
theorem qi{c1 c2:Str}{turn k j:Nat}(hk:k<52)(hj:j<52)(hne:k≠j){e f:Str}(he:e=Str.empty\/e = "q")(hf:f=Str.empty\/f = "q"):cT c1 c2 turn k++e≠cT c1 c2 turn j++f:=by
 intro h;have hc:(cT c1 c2 turn k).cps.toList++e.cps.toList =(cT c1 c2 turn j).cps.toList++f.cps.toList:=by
  have:=congrArg (fun z:Str=>z.cps.toList) h
  simpa [Str.cps_append]using this
 have hl:(cT c1 c2 turn k).length+e.length =(cT c1 c2 turn j).length+f.length:=by
  rw[<- Str.length_append,h,Str.length_append]
 rw[nP,nP]at hc;simp only[List.append_assoc,List.cons_append]at hc;have hm:=yH hk hj (Ja hc);have h1:k % 2=j % 2:=by rw[<- Nat.mod_mod_of_dvd k (by decide:2∣26),hm,Nat.mod_mod_of_dvd j (by decide:2∣26)]
 have hd:(k / 26=0/\j / 26=1)\/(k / 26=1/\j / 26=0):=by omega
 rw[iJ,iJ]at hl;have l0:Str.empty.length=0:=rfl;have lq:(Str.ofString "q").length=1:=by decide +kernel
 have tail:=(List.cons.inj (List.append_cancel_left hc)).2;rw[h1]at tail;have iQ:=List.append_cancel_left (List.append_cancel_left tail);have eq:(Str.ofString "q").cps.toList = [113]:=by decide +kernel
 have ee:Str.empty.cps.toList = []:=rfl;rcases hd with⟨d1,d2⟩ |⟨d1,d2⟩
 ·rw[d1,d2,tQ,xf]at iQ;rcases he with rfl|rfl
  ·rw[ee]at iQ;simp at iQ
  ·rw[eq]at iQ
   have:=congrArg List.head? iQ
   simp at this
 ·rw[d1,d2,tQ,xf]at iQ;rcases hf with rfl|rfl
  ·rw[ee]at iQ;simp at iQ
  ·rw[eq]at iQ
   have:=congrArg List.head? iQ
   simp at this
theorem nodup_range{f:Nat->Str}{n:Nat}(h:∀ i j,i<n->j<n->i≠j->f i≠f j):((List.range n).map f).Nodup:=by
 rw[List.nodup_iff_pairwise_ne,List.pairwise_map];refine List.Pairwise.imp_of_mem ?_ (List.nodup_iff_pairwise_ne.mp List.nodup_range);intro i j hi hj hne;exact h i j (List.mem_range.mp hi) (List.mem_range.mp hj) hne
theorem yC{ws:List Str}{i:Nat}{w:Str}(h:ws.Nodup)(hw:w ∉ ws):(ws.set i w).Nodup:=by
 induction ws generalizing i with
 | nil=>simp
 | cons a r ih =>
  obtain⟨h1,h2⟩:=List.nodup_cons.mp h;have hw1:w≠a:=fun z=>hw (by simp[z])
  have hw2:w ∉ r:=fun z=>hw (List.mem_cons_of_mem _ z)
  cases i with
  | zero=>exact List.nodup_cons.mpr ⟨hw2,h2⟩
  | succ i =>
   refine List.nodup_cons.mpr ⟨fun z=>?_,ih h2 hw2⟩
   rcases List.mem_or_eq_of_mem_set z with z|z
   ·exact h1 z
   ·exact hw1 z.symm
end L2
namespace L2
open PySem
theorem D4{w:Str}{ws:List Str}(h:inV (.str w) (ws.map V.str)=false):w ∉ ws:=fun hm=>by
 unfold inV at h;rw[List.any_eq_false]at h;exact h (.str w) (List.mem_map.mpr ⟨w,hm,rfl⟩) (show(w==w)=true from beq_self_eq_true w)
def wordOf(kept:List Str)(c1 c2:Str)(turn k:Nat):Str:=cT c1 c2 turn k++(if inV (.str (cT c1 c2 turn k)) (kept.map V.str)=true then("q":Str)else Str.empty)
theorem yc{kept:List Str}{c1 c2:Str}{turn k j:Nat}(hk:k<52)(hj:j<52)(hne:k≠j):wordOf kept c1 c2 turn k≠wordOf kept c1 c2 turn j:=by
 unfold wordOf;refine qi hk hj hne ?_ ?_
 ·split
  ·exact .inr rfl
  ·exact .inl rfl
 ·split
  ·exact .inr rfl
  ·exact .inl rfl
theorem uY{kept:List Str}{c1 c2:Str}{turn k:Nat}(h1:c1.length<=5)(h2:c2.length<=5)(hk:k<52):1 <=(wordOf kept c1 c2 turn k).length/\(wordOf kept c1 c2 turn k).length<=20:=by
 unfold wordOf;rw[Str.length_append,iJ];have l0:Str.empty.length=0:=rfl;have lq:(Str.ofString "q").length=1:=by decide +kernel
 split <;> omega
end L2
namespace L2
open PySem PySem.Spec PyProof.Rows
abbrev Mk1:=Str×List Str
abbrev Kd:=Str×List Mk1
def A1(ks:List Kd)(k:Str):List Mk1:=match ks.find? (fun x=>decide (x.1=k))with
 | some x=>x.2
 | none=>[]
section
variable{prog:Program}{w:World}{A:Around}{E:Value->Shared->Prop}{s:Shared}
theorem oz{it t:Addr}{i:Nat}{items:Array Value}{x:Value}{Q:Value->Shared->Prop}(hit:s.heap.IsTupleIter it t i)(ht:s.heap.IsTuple t items)(hx:items[i]? = some x)
  (hQ:∀ h',h'.IsTupleIter it t (i+1)->Heap.SameBut it s.heap h'->Q x { s with heap:=h' }):wpAny (model prog w) A (Builtin.SmallTypes.nextOf (.ref it)) Q E s:=by
 obtain⟨o,ho,hc,hd⟩:=id hit;obtain⟨ol,hol,_,nl,hdl⟩:=ht;unfold Builtin.SmallTypes.nextOf;refine wpAny_bind (wpAny_callSpecial?_slot (name:=Str.ofString "__next__") hit.typeIs F.slot_tuple_iterator_next
  (wpAny_call_entry F.slot_tuple_iterator_next hit.typeIs F.entry_tuple_iterator_next ?_ (F.args_tuple_iterator_next_1 _)))
 show wpAny _ _ (field (.ref it) 0 >>= _) _ _ s;refine wpAny_bind (wpAny_field ho hd (x:=.ref t) rfl ?_);show wpAny _ _ (if(Value.ref t==Value.none)=true then _ else _) _ _ s
 rw[if_neg (show ¬((Value.ref t==Value.none)=true)from Bool.false_ne_true)];show wpAny _ _ (field (.ref it) 1 >>= _) _ _ s;refine wpAny_bind (wpAny_field ho hd (x:=.int i 0) rfl ?_);show wpAny _ _ (seqItems? (.ref t) >>= _) _ _ s;refine wpAny_bind (wpAny_seqItems hol hdl ?_);simp only[Int.toNat_natCast,hx];refine wpAny_bind (wpAny_setField ho hd (by simp) (wpAny_pure ⟨x,rfl,wpAny_pure (hQ _ ?_ (Heap.SameBut.update ..))⟩))
 exact⟨_,Heap.get?_update_self _ ho (Obj.isFreed_of_fields (Obj.data_mapFields hd _)),(Obj.cls_mapFields ..).trans hc,by
  rw[Obj.data_mapFields hd];simp[rawInt]⟩
theorem rK{it t:Addr}{i:Nat}{items:Array Value}{Q:Value->Shared->Prop}(hh:A.handled=none)(hit:s.heap.IsTupleIter it t i)(ht:s.heap.IsTuple t items)(hx:items[i]? = none)
  (hE:∀ h' e,Heap.ExtBut it s.heap h' ->(∃ o,h'.get? e=some o/\o.cls = .type "StopIteration")->E (.ref e) { s with heap:=h' }):wpAny (model prog w) A (Builtin.SmallTypes.nextOf (.ref it)) Q E s:=by
 obtain⟨o,ho,hc,hd⟩:=id hit;obtain⟨ol,hol,_,nl,hdl⟩:=ht;unfold Builtin.SmallTypes.nextOf;refine wpAny_bind (wpAny_callSpecial?_slot (name:=Str.ofString "__next__") hit.typeIs F.slot_tuple_iterator_next
  (wpAny_call_entry F.slot_tuple_iterator_next hit.typeIs F.entry_tuple_iterator_next ?_ (F.args_tuple_iterator_next_1 _)))
 show wpAny _ _ (field (.ref it) 0 >>= _) _ _ s;refine wpAny_bind (wpAny_field ho hd (x:=.ref t) rfl ?_);show wpAny _ _ (if(Value.ref t==Value.none)=true then _ else _) _ _ s
 rw[if_neg (show ¬((Value.ref t==Value.none)=true)from Bool.false_ne_true)];show wpAny _ _ (field (.ref it) 1 >>= _) _ _ s;refine wpAny_bind (wpAny_field ho hd (x:=.int i 0) rfl ?_);show wpAny _ _ (seqItems? (.ref t) >>= _) _ _ s;refine wpAny_bind (wpAny_seqItems hol hdl ?_);simp only[Int.toNat_natCast,hx];refine wpAny_bind (wpAny_rule (wpAny_bind (wpAny_setField ho hd (by simp) ?_)))
 show wpAny _ _ (newExc (.type "StopIteration") [] >>= _) _ _ _;refine wpAny_bind ?_;simp only[newExc,newTuple];refine wpAny_bind (wpAny_newObj_type ?_ (by size_fits))
 refine wpAny_bind (m:=firstArgMember _ _) (wpAny_of_eq (a:=Value.none) (by first|rfl |(simp only[firstArgMember];rfl)) ?_)
 refine wpAny_newObj_type ?_ (by size_fits)
 simp only[raiseNew];refine wpAny_bind (wpAny_handled ?_)
 first|rw[show A.in1.handled=none from hh]|rw[hh]
 refine wpAny_bind (wpAny_pure (wpAny_throw ?_));exact hE _ _ (((Heap.SameBut.update ..).extBut.push _).push _) ⟨_,Heap.get?_push_size _ rfl,rfl⟩
def aX(h:Heap)(tp:Bool)(it l:Addr)(k:Nat):Prop:=if tp=true then h.IsTupleIter it l k else h.IsListIter it l k
def bz(h:Heap)(tp:Bool)(l:Addr)(items:Array Value):Prop:=if tp=true then h.IsTuple l items else h.IsList l items
theorem aX.at{h h':Heap}{tp:Bool}{it l:Addr}{k:Nat}(x:aX h tp it l k)(e:∀ o,h.get? it=some o->h'.get? it=some o):aX h' tp it l k:=by
 cases tp with
 | true=>obtain⟨o,ho,r⟩:=(show h.IsTupleIter it l k from x);exact(show h'.IsTupleIter it l k from⟨o,e o ho,r⟩)
 | false=>obtain⟨o,ho,r⟩:=(show h.IsListIter it l k from x);exact(show h'.IsListIter it l k from⟨o,e o ho,r⟩)
theorem bz.at{h h':Heap}{tp:Bool}{l:Addr}{items:Array Value}(x:bz h tp l items)(e:∀ o,h.get? l=some o->h'.get? l=some o):bz h' tp l items:=by
 cases tp with
 | true=>obtain⟨o,ho,r⟩:=(show h.IsTuple l items from x);exact(show h'.IsTuple l items from⟨o,e o ho,r⟩)
 | false=>obtain⟨o,ho,r⟩:=(show h.IsList l items from x);exact(show h'.IsList l items from⟨o,e o ho,r⟩)
theorem aX.obj{h:Heap}{tp:Bool}{it l:Addr}{k:Nat}(x:aX h tp it l k):∃ o,h.get? it=some o/\∀ v,o.data ≠ .cell v:=by
 cases tp with
 | true=>obtain⟨o,ho,_,hd⟩:=(show h.IsTupleIter it l k from x);exact⟨o,ho,fun v=>by rw[hd];simp⟩
 | false=>obtain⟨o,ho,_,hd⟩:=(show h.IsListIter it l k from x);exact⟨o,ho,fun v=>by rw[hd];simp⟩
theorem next_item{tp:Bool}{it l:Addr}{i:Nat}{items:Array Value}{x:Value}{Q:Value->Shared->Prop}(hit:aX s.heap tp it l i)(hl:bz s.heap tp l items)(hx:items[i]? = some x)
  (hQ:∀ h',aX h' tp it l (i+1)->Heap.SameBut it s.heap h'->Q x { s with heap:=h' }):wpAny (model prog w) A (Builtin.SmallTypes.nextOf (.ref it)) Q E s:=by
 cases tp with
 | true=>exact oz hit hl hx hQ
 | false=>exact wpAny_nextOf_list_item hit hl hx hQ
theorem next_end{tp:Bool}{it l:Addr}{i:Nat}{items:Array Value}{Q:Value->Shared->Prop}(hh:A.handled=none)(hit:aX s.heap tp it l i)(hl:bz s.heap tp l items)(hx:items[i]? = none)
  (hE:∀ h' e,Heap.ExtBut it s.heap h' ->(∃ o,h'.get? e=some o/\o.cls = .type "StopIteration")->E (.ref e) { s with heap:=h' }):wpAny (model prog w) A (Builtin.SmallTypes.nextOf (.ref it)) Q E s:=by
 cases tp with
 | true=>exact rK hh hit hl hx hE
 | false=>exact wpAny_nextOf_list_end hh hit hl hx hE
theorem yY{z TI TO i1 i2 l1 l2:Addr}{t1 t2:Bool}{k1 k2:Nat}{xs ys:Array Value}{x y a b:Value}{Q:Option Value->Shared->Prop}(D:ZipApart z TI TO i1 i2 l1 l2)
  (hz:IsZip s.heap z TI TO .none) (hTI:IsPair s.heap TI (.ref i1) (.ref i2)) (hTO:IsPair s.heap TO a b)
  (h1:aX s.heap t1 i1 l1 k1) (h2:aX s.heap t2 i2 l2 k2) (hl1:bz s.heap t1 l1 xs) (hl2:bz s.heap t2 l2 ys) (hx:xs[k1]? = some x) (hy:ys[k2]? = some y)
  (hQ:∀ h',IsZip h' z TI TO (rawInt s.heap.objs.size)->IsPair h' TO x y->aX h' t1 i1 l1 (k1+1)->aX h' t2 i2 l2 (k2+1)->IsPair h' s.heap.objs.size x y->h'.objs.size=s.heap.objs.size+1 ->
   (∀ c o,c≠z->c≠TO->c≠i1->c≠i2->s.heap.get? c=some o->h'.get? c=some o)->Q (some (.ref s.heap.objs.size)) { s with heap:=h' }) :
  wpAny (model prog w) A (pyNext (.ref z)) Q E s:=by
 have hT:s.TypeIs (.ref z) "zip":=⟨_,hz,rfl⟩;unfold pyNext;refine wpAny_bind (wpAny_attempt (wpAny_callSpecial?_slot (name:=Str.ofString "__next__") hT F.slot_zip_next
  (wpAny_call_entry F.slot_zip_next hT F.entry_zip_next ?_ (F.args_zip_next_1 _))))
 show wpAny _ _ (field (.ref z) 2 >>= _) _ _ _;refine wpAny_bind (wpAny_field hz rfl (x:=.bool false) rfl ?_);show wpAny _ _ (field (.ref z) 3 >>= _) _ _ _;refine wpAny_bind (wpAny_field hz rfl (x:=.ref TI) rfl ?_);refine wpAny_bind (wpAny_seqItems hTI rfl ?_);show wpAny _ _ (Builtin.SmallTypes.ownedTupleIsFree (.ref z) >>= _) _ _ _;refine wpAny_bind ?_;unfold Builtin.SmallTypes.ownedTupleIsFree;refine wpAny_bind (wpAny_field hz rfl (x:=.none) rfl (wpAny_pure ?_));simp only[if_true];refine wpAny_bind (wpAny_rule ?_);refine wpAny_bind (wpAny_field hz rfl (x:=.ref TO) rfl ?_);refine wpAny_bind (wpAny_setField_rec hz (by simp) fun h₁ hz₁ hs₁=>?_)
 replace hz₁:IsZip h₁ z TI TO .ellipsis:=hz₁
 refine wpAny_bind ?_;simp only[List.zipIdx_cons,List.zipIdx_nil,List.forIn_cons,List.forIn_nil];refine wpAny_bind (wpAny_bind (wpAny_onRaise ?_));show wpAny _ _ (Builtin.SmallTypes.nextOf (.ref i1) >>= _) _ _ _;refine wpAny_bind (next_item (h1.at fun o e=>hs₁.extBut _ o D.i1z e) (hl1.at fun o e=>hs₁.extBut _ o D.l1z e) hx fun h₂ h1₂ hs₂=>wpAny_pure ?_)
 have Bp:IsPair h₂ TO a b:=hs₂.extBut _ _ D.TOi1 (hs₁.extBut _ _ D.TOz hTO);refine wpAny_bind (wpAny_seqItems Bp rfl ?_);refine wpAny_bind (wpAny_updateSeq_pair Bp fun h₃ Ec hs₃=>?_)
 replace Ec:IsPair h₃ TO x b:=Ec
 refine wpAny_bind (wpAny_letGo (wpAny_pure ?_));refine wpAny_bind (wpAny_bind (wpAny_onRaise ?_));show wpAny _ _ (Builtin.SmallTypes.nextOf (.ref i2) >>= _) _ _ _;refine wpAny_bind (next_item (h2.at fun o e=>hs₃.extBut _ o D.TOi2.symm (hs₂.extBut _ o D.i12.symm (hs₁.extBut _ o D.i2z e)))
  (hl2.at fun o e=>hs₃.extBut _ o D.l2TO (hs₂.extBut _ o D.l2i1 (hs₁.extBut _ o D.l2z e))) hy fun h₄ h2₄ hs₄=>wpAny_pure ?_)
 have II:IsPair h₄ TO x b:=hs₄.extBut _ _ D.TOi2 Ec;refine wpAny_bind (wpAny_seqItems II rfl ?_);refine wpAny_bind (wpAny_updateSeq_pair II fun h₅ Eb hs₅=>?_)
 replace Eb:IsPair h₅ TO x y:=Eb
 refine wpAny_bind (wpAny_letGo (wpAny_pure (wpAny_pure ?_)));refine wpAny_bind (wpAny_seqItems Eb rfl ?_);refine wpAny_bind (wpAny_newTuple ?_);have hsz:h₅.objs.size=s.heap.objs.size:=by rw[hs₅.1,hs₄.1,hs₃.1,hs₂.1,hs₁.1]
 have hz₅:IsZip h₅ z TI TO .ellipsis:=hs₅.extBut _ _ D.TOz.symm (hs₄.extBut _ _ D.i2z.symm (hs₃.extBut _ _ D.TOz.symm (hs₂.extBut _ _ D.i1z.symm hz₁)));have hk₅:∀ c o,c≠z->c≠TO->c≠i1->c≠i2->s.heap.get? c=some o->h₅.get? c=some o:=fun c o c1 c2 c3 c4 e =>
  hs₅.extBut _ _ c2 (hs₄.extBut _ _ c4 (hs₃.extBut _ _ c2 (hs₂.extBut _ _ c3 (hs₁.extBut _ _ c1 e))))
 have h1₅:aX h₅ t1 i1 l1 (k1+1):=h1₂.at fun o e=>hs₅.extBut _ o D.TOi1.symm (hs₄.extBut _ o D.i12 (hs₃.extBut _ o D.TOi1.symm e))
 have h2₅:aX h₅ t2 i2 l2 (k2+1):=h2₄.at fun o e=>hs₅.extBut _ o D.TOi2.symm e
 have Iz:z<h₅.objs.size:=Heap.lt_size hz₅;show wpAny _ _ (Builtin.SmallTypes.ownedTupleHandOut (.ref z) (.ref h₅.objs.size) >>= _) _ _ _;refine wpAny_bind ?_;unfold Builtin.SmallTypes.ownedTupleHandOut;have hz₆:IsZip (h₅.push { cls:=.type "tuple",data:=.seq #[x,y] }) z TI TO .ellipsis:=Heap.get?_push_of_some _ hz₅;refine wpAny_bind (wpAny_setField_rec hz₆ (by simp) fun h₇ hz₇ hs₇=>?_)
 replace hz₇:IsZip h₇ z TI TO (rawInt h₅.objs.size):=hz₇
 refine wpAny_setField_rec hz₇ (by simp) fun h₈ hz₈ hs₈=>?_
 replace hz₈:IsZip h₈ z TI TO (rawInt h₅.objs.size):=hz₈
 have up:∀ c o,c≠z->h₅.get? c=some o->h₈.get? c=some o:=fun c o c1 e=>hs₈.extBut _ _ c1 (hs₇.extBut _ _ c1 (Heap.get?_push_of_some _ e))
 have hT₈:IsPair h₈ h₅.objs.size x y:=hs₈.extBut _ _ (Nat.ne_of_gt Iz) (hs₇.extBut _ _ (Nat.ne_of_gt Iz) (Heap.get?_push_size _ rfl));have hz8:h₈.objs.size=h₅.objs.size+1:=by rw[hs₈.1,hs₇.1,Heap.size_push]
 rw[hsz]at hz₈ hT₈ hz8;refine wpAny_pure ⟨_,rfl,wpAny_pure ?_⟩;show Q (some (.ref h₅.objs.size)) _;rw[hsz];exact hQ h₈ hz₈ (up _ _ D.TOz Eb) (h1₅.at fun o e=>up _ o D.i1z e) (h2₅.at fun o e=>up _ o D.i2z e) hT₈ hz8 fun c o c1 c2 c3 c4 e=>up c o c1 (hk₅ c o c1 c2 c3 c4 e)
theorem B5{z TI TO i1 i2 l1 l2:Addr}{t1 t2:Bool}{k1 k2:Nat}{xs ys:Array Value}{a b:Value}{Q:Option Value->Shared->Prop}(hh:A.handled=none)(D:ZipApart z TI TO i1 i2 l1 l2)
  (hz:IsZip s.heap z TI TO .none) (hTI:IsPair s.heap TI (.ref i1) (.ref i2)) (hTO:IsPair s.heap TO a b)
  (h1:aX s.heap t1 i1 l1 k1) (h2:aX s.heap t2 i2 l2 k2) (hl1:bz s.heap t1 l1 xs) (hl2:bz s.heap t2 l2 ys) (yM:xs[k1]? = none\/ys[k2]? = none)
  (hQ:∀ h',(∀ c o,c≠z->c≠TO->c≠i1->c≠i2->s.heap.get? c=some o->h'.get? c=some o)->Q none { s with heap:=h' }):wpAny (model prog w) A (pyNext (.ref z)) Q E s:=by
 have hT:s.TypeIs (.ref z) "zip":=⟨_,hz,rfl⟩;have fin:∀ h' e,(∀ c o,c≠z->c≠TO->c≠i1->c≠i2->s.heap.get? c=some o->h'.get? c=some o) ->(∃ o,h'.get? e=some o/\o.cls = .type "StopIteration") ->
   wpAny (model prog w) A (do if <- isInstance (.ref e) (.type "StopIteration")then pure none else throw (.ref e)) Q E { s with heap:=h' }:=fun h' e hk he=>by
  obtain⟨o,ho,hc⟩:=he;refine wpAny_bind (wpAny_isInstance (T:="StopIteration") (b:=true) ⟨o,ho,hc⟩ isSubtype_stop ?_);exact wpAny_pure (hQ _ hk)
 unfold pyNext;refine wpAny_bind (wpAny_attempt (wpAny_callSpecial?_slot (name:=Str.ofString "__next__") hT F.slot_zip_next
  (wpAny_call_entry F.slot_zip_next hT F.entry_zip_next ?_ (F.args_zip_next_1 _))))
 show wpAny _ _ (field (.ref z) 2 >>= _) _ _ _;refine wpAny_bind (wpAny_field hz rfl (x:=.bool false) rfl ?_);show wpAny _ _ (field (.ref z) 3 >>= _) _ _ _;refine wpAny_bind (wpAny_field hz rfl (x:=.ref TI) rfl ?_);refine wpAny_bind (wpAny_seqItems hTI rfl ?_);show wpAny _ _ (Builtin.SmallTypes.ownedTupleIsFree (.ref z) >>= _) _ _ _;refine wpAny_bind ?_;unfold Builtin.SmallTypes.ownedTupleIsFree;refine wpAny_bind (wpAny_field hz rfl (x:=.none) rfl (wpAny_pure ?_));simp only[if_true];refine wpAny_bind (wpAny_rule ?_);refine wpAny_bind (wpAny_field hz rfl (x:=.ref TO) rfl ?_);refine wpAny_bind (wpAny_setField_rec hz (by simp) fun h₁ hz₁ hs₁=>?_)
 replace hz₁:IsZip h₁ z TI TO .ellipsis:=hz₁
 refine wpAny_bind ?_;simp only[List.zipIdx_cons,List.zipIdx_nil,List.forIn_cons,List.forIn_nil];refine wpAny_bind (wpAny_bind (wpAny_onRaise ?_));show wpAny _ _ (Builtin.SmallTypes.nextOf (.ref i1) >>= _) _ _ _;cases hx:xs[k1]? with
 | none =>
  refine wpAny_bind (next_end hh (h1.at fun o e=>hs₁.extBut _ o D.i1z e) (hl1.at fun o e=>hs₁.extBut _ o D.l1z e) hx fun h₂ e hs₂ he=>?_)
  obtain⟨oe,hoe,hce⟩:=he;have hz₂:IsZip h₂ z TI TO .ellipsis:=hs₂ _ _ D.i1z.symm hz₁;have hez:e≠z:=fun x=>by subst x;rw[hz₂]at hoe;cases hoe;simp at hce
  refine wpAny_setField_rec hz₂ (by simp) fun h₃ _ hs₃=>fin h₃ e (fun c o c1 _ c3 _ x=>hs₃.extBut _ _ c1 (hs₂ _ _ c3 (hs₁.extBut _ _ c1 x))) ⟨oe,hs₃.extBut _ _ hez hoe,hce⟩
 | some x =>
  have hy:ys[k2]? = none:=by rcases yM with h|h;rw[hx]at h;cases h;exact h
  refine wpAny_bind (next_item (h1.at fun o e=>hs₁.extBut _ o D.i1z e) (hl1.at fun o e=>hs₁.extBut _ o D.l1z e) hx fun h₂ h1₂ hs₂=>wpAny_pure ?_)
  have Bp:IsPair h₂ TO a b:=hs₂.extBut _ _ D.TOi1 (hs₁.extBut _ _ D.TOz hTO);refine wpAny_bind (wpAny_seqItems Bp rfl ?_);refine wpAny_bind (wpAny_updateSeq_pair Bp fun h₃ Ec hs₃=>?_)
  refine wpAny_bind (wpAny_letGo (wpAny_pure ?_));refine wpAny_bind (wpAny_bind (wpAny_onRaise ?_));show wpAny _ _ (Builtin.SmallTypes.nextOf (.ref i2) >>= _) _ _ _;refine wpAny_bind (next_end hh (h2.at fun o e=>hs₃.extBut _ o D.TOi2.symm (hs₂.extBut _ o D.i12.symm (hs₁.extBut _ o D.i2z e)))
   (hl2.at fun o e=>hs₃.extBut _ o D.l2TO (hs₂.extBut _ o D.l2i1 (hs₁.extBut _ o D.l2z e))) hy fun h₄ e hs₄ he=>?_)
  obtain⟨oe,hoe,hce⟩:=he;have hz₄:IsZip h₄ z TI TO .ellipsis:=hs₄ _ _ D.i2z.symm (hs₃.extBut _ _ D.TOz.symm (hs₂.extBut _ _ D.i1z.symm hz₁));have hez:e≠z:=fun x=>by subst x;rw[hz₄]at hoe;cases hoe;simp at hce
  refine wpAny_setField_rec hz₄ (by simp) fun h₅ _ hs₅=>fin h₅ e (fun c o c1 c2 c3 c4 x=>hs₅.extBut _ _ c1 (hs₄ _ _ c4 (hs₃.extBut _ _ c2 (hs₂.extBut _ _ c3 (hs₁.extBut _ _ c1 x))))) ⟨oe,hs₅.extBut _ _ hez hoe,hce⟩
end
def kindOf(ks:List Kd)(m:Str):V:=match ks.find? (fun x=>decide (m∈x.2.map (·.1)))with
 | some x=>.str x.1
 | none=>.non
def marks(rs:List Str):List (Key×V):=rs.map fun s=>(.inr s,.bl true)
theorem Inv.lS{X:Cx}{pins:List (Addr×Obj)}{σ:St}{H:Hp}{s:Shared}{h':Heap}{t':Nat}{fp:List Addr}(I:Inv X pins σ H s)(k:∀ b o,b ∉ fp->s.heap.get? b=some o->h'.get? b=some o)(hf:∀ b∈fp,nX X pins H b) :
  Inv X pins σ H { s with heap:=h',toks:=t' }:=by
 have nit:∀ b u,H b=some u->b ∉ fp:=fun b u e z=>by
  have:=(hf b z).1
  rw[e]at this;cases this
 refine I.step (g':=s.gens) (d':=s.drawn) (ch:=fp) (fun b hb=>?_) (fun b o _ _ hc e _=>k b o hc e) (fun b o _ _ hc e _=>⟨o.slots,k b o hc e⟩) (fun _ _ _ _ n=>n)
  (fun b o hc e=>⟨o,k b o hc e⟩) (fun _ _ e=>e) (fun _ _ _ e=>e) (fun b ps e=>⟨#[],by rw[e];simp⟩) (fun m hm=>?_) (fun b u e=>?_) I.bare
 ·obtain⟨f0,f1,f2,f3,f4,f5⟩:=hf b hb;exact⟨f3,f1,f4,f5⟩
 ·obtain⟨o,es,ep,ho,r⟩:=hm;exact⟨o,es,ep,k _ o (fun z=>(hf _ z).2.1 rfl) ho,r⟩
 ·refine(I.hok b u e).cX (fun c v hc q=>k c v ?_ q) (fun _ q=>q) fun _ _ q=>q
  rcases hc with z|z
  ·rw[z];exact nit b u e
  ·exact nit c _ z
def SqB(K:W.Frag)(tp:Bool)(H:Hp)(a:Addr)(xs:List V):Prop:=if tp=true then SqT K H a xs else SqL K H a xs
theorem Inv.qI{X:Cx}{pins:List (Addr×Obj)}{σ:St}{H:Hp}{s:Shared}{tp:Bool}{a:Addr}{xs:List V}(I:Inv X pins σ H s)(h:SqB X.K tp H a xs):∃ its:List Value,Vals xs its/\bz s.heap tp a its.toArray/\xs.length<=sizeLine:=by
 cases tp with
 | true =>
  obtain⟨its,r,p,z⟩:=I.tuple (show SqT X.K H a xs from h);exact⟨its,r,(show s.heap.IsTuple a its.toArray from p),z⟩
 | false =>
  obtain⟨its,r,p,z⟩:=I.list (show SqL X.K H a xs from h);exact⟨its,r,p.isList,z⟩
theorem Inv.mJ{X:Cx}{pins:List (Addr×Obj)}{σ:St}{H:Hp}{s:Shared}{tp:Bool}{a:Addr}{xs ys:List V}(I:Inv X pins σ H s)(h:SqB X.K tp H a xs)(h2:SqB X.K tp H a ys):xs=ys:=by
 cases tp with
 | true=>exact I.pq (show SqT X.K H a xs from h) (show SqT X.K H a ys from h2)
 | false=>exact I.uy (show SqL X.K H a xs from h) (show SqL X.K H a ys from h2)
def Itz(K:W.Frag)(t1 t2:Bool)(l1 l2:Addr):It :=
 ⟨fun i H=>∃ xs ys x y,SqB K t1 H l1 xs/\SqB K t2 H l2 ys/\xs[i]? = some x/\ys[i]? = some y,
   fun i H v H'=>∃(p:Addr)(x y:V),H p=none/\v = .ref p/\H'=upd H p (.tup [x,y])/\(∀ xs,SqB K t1 H l1 xs->xs[i]? = some x)/\∀ ys,SqB K t2 H l2 ys->ys[i]? = some y,
   fun i H=>∃ xs ys,SqB K t1 H l1 xs/\SqB K t2 H l2 ys/\(xs.length<=i\/ys.length<=i)⟩
theorem zc{P:Program}{w:World}{K:W.Frag}{elts:List Expr}{x1}{pos:Pos}{t1 t2:Bool}(z TI TO i1 i2 l1 l2:Addr)(D:ZipApart z TI TO i1 i2 l1 l2) :
  Turn P w K (.Tuple elts x1 pos) (Itz K t1 t2 l1 l2) [z,TI,TO,i1,i2] z (fun i h=>IsZip h z TI TO .none/\IsPair h TI (.ref i1) (.ref i2)/\(∃ a b,IsPair h TO a b)/\aX h t1 i1 l1 i/\aX h t2 i2 l2 i) where
 mem:=by simp
 obj:=by
  rintro i h ⟨h1,h2,⟨a,b,h3⟩,h4,h5⟩ c hc
  simp only[List.mem_cons,List.not_mem_nil,or_false]at hc;rcases hc with rfl|rfl|rfl|rfl|rfl
  ·exact⟨_,h1,fun v e=>by cases e⟩
  ·exact⟨_,h2,fun v e=>by cases e⟩
  ·exact⟨_,h3,fun v e=>by cases e⟩
  ·exact h4.obj
  ·exact h5.obj
 keep:=by
  rintro i h h' ⟨h1,h2,⟨a,b,h3⟩,h4,h5⟩ k
  exact⟨k z (by simp) _ h1,k TI (by simp) _ h2,⟨a,b,k TO (by simp) _ h3⟩,h4.at fun o e=>k i1 (by simp) o e,h5.at fun o e=>k i2 (by simp) o e⟩
 item:=by
  intro X hP hw hK hc i pins s σ H E I hf st hg;subst hP hw hK;obtain⟨h1,h2,⟨a,b,h3⟩,h4,h5⟩:=st;obtain⟨xs,ys,x,y,q1,q2,e1,e2⟩:=hg;obtain⟨Iw,rv1,o1,z1⟩:=I.qI q1;obtain⟨dP,rv2,o2,z2⟩:=I.qI q2;obtain⟨u1,hu1,ru1⟩:=rv1.get e1;obtain⟨u2,hu2,ru2⟩:=rv2.get e2;refine yY D h1 h2 h3 h4 h5 o1 o2 (x:=u1) (y:=u2) (by simpa using hu1) (by simpa using hu2) fun h' hz' JT JQ JP hp' JH hk'=>⟨_,rfl,?_⟩
  refine wpAny_letOwnedTupleGo_zip hz' fun h'' JG G7=>?_
  have hn:=I.hok.fresh (Nat.le_refl s.heap.objs.size);have lz:z<s.heap.objs.size:=Heap.lt_size h1;have lTI:TI<s.heap.objs.size:=Heap.lt_size h2;have lTO:TO<s.heap.objs.size:=Heap.lt_size h3;obtain⟨oi1,JV,_⟩:=h4.obj;obtain⟨oi2,JU,_⟩:=h5.obj;have li1:i1<s.heap.objs.size:=Heap.lt_size JV;have li2:i2<s.heap.objs.size:=Heap.lt_size JU;have GR:∀ b ∈ [z,TI,TO,i1,i2],b≠s.heap.objs.size:=fun b hb=>by
   simp only[List.mem_cons,List.not_mem_nil,or_false]at hb;rcases hb with rfl|rfl|rfl|rfl|rfl
   ·exact Nat.ne_of_lt lz
   ·exact Nat.ne_of_lt lTI
   ·exact Nat.ne_of_lt lTO
   ·exact Nat.ne_of_lt li1
   ·exact Nat.ne_of_lt li2
  have up:∀ c o,c≠z->h'.get? c=some o->h''.get? c=some o:=fun c o hc e=>G7.extBut _ _ hc e
  have I1:Inv X pins σ (upd H s.heap.objs.size (.tup [x,y])) { s with heap:=s.heap.push { cls:=.type "tuple",data:=.seq #[u1,u2] } } :=
   I.laid (t':=s.toks) (fun b u e=>Heap.get?_push_of_some _ e) (Nat.le_refl _) ⟨by show 2<=sizeLine;decide,[u1,u2],.cons ru1 (.cons ru2 .nil),⟨⟨_,Heap.get?_push_size _ rfl,rfl,_,rfl⟩,_,Heap.get?_push_size _ rfl,rfl⟩⟩
  have hf':∀ b ∈ [z,TI,TO,i1,i2],nX X pins (upd H s.heap.objs.size (.tup [x,y])) b:=fun b hb=>by
   obtain⟨f0,r⟩:=hf b hb;exact⟨by rw[aj (GR b hb)];exact f0,r⟩
  have I2:Inv X pins σ (upd H s.heap.objs.size (.tup [x,y])) { s with heap:=h'' }:=by
   refine I1.lS (h':=h'') (t':=s.toks) (fun b o hb e=>?_) hf'
   simp only[List.mem_cons,List.not_mem_nil,or_false,not_or]at hb;obtain⟨b1,b2,b3,b4,b5⟩:=hb;rcases Heap.get?_push_cases e with⟨rfl,rfl⟩|e'
   ·exact up _ _ b1 hp'
   ·exact up _ _ b1 (hk' b o b1 b3 b4 b5 e')
  refine⟨.ref s.heap.objs.size,upd H s.heap.objs.size (.tup [x,y]),I2,rfl,⟨_,x,y,hn,rfl,rfl,fun zs hz=>by rw[I.mJ hz q1];exact e1,fun zs hz=>by rw[I.mJ hz q2];exact e2⟩,?_,fun b hb=>(hf' b hb).1⟩
  exact⟨JG,up _ _ D.TIz (hk' TI _ D.TIz D.TITO D.TIi1 D.TIi2 h2),⟨_,_,up _ _ D.TOz JT⟩,JQ.at fun o e=>up _ _ D.i1z e,JP.at fun o e=>up _ _ D.i2z e⟩
 done:=by
  intro X hP hw hK hc i pins s σ H E I hf st hg;subst hP hw hK;obtain⟨h1,h2,⟨a,b,h3⟩,h4,h5⟩:=st;obtain⟨xs,ys,q1,q2,yM⟩:=hg;obtain⟨Iw,rv1,o1,z1⟩:=I.qI q1;obtain⟨dP,rv2,o2,z2⟩:=I.qI q2;have g1:=rv1.length;have g2:=rv2.length;refine B5 (I.ok.hd hc) D h1 h2 h3 h4 h5 o1 o2 ?_ fun h' k=>⟨rfl,I.lS (t':=s.toks) (fun b o hb e=>?_) hf⟩
  ·rcases yM with e|e
   ·left;simp;omega
   ·right;simp;omega
  ·simp only[List.mem_cons,List.not_mem_nil,or_false,not_or]at hb;exact k b o hb.1 hb.2.2.1 hb.2.2.2.1 hb.2.2.2.2 e
 self:=fun _ _ _ _ _ st h=>wpAny_pyIter_zip st.1 h
def itc(tp:Bool):String:=if tp=true then "tuple_iterator" else "list_iterator"
theorem g7{prog:Program}{w:World}{A:Around}{E:Value->Shared->Prop}{s:Shared}{tp:Bool}{l:Addr}{xs:Array Value}{Q:Value->Shared->Prop}(h:bz s.heap tp l xs)
  (hQ:Q (.ref s.heap.objs.size) { s with heap:=s.heap.push { cls:=.type (itc tp),data:=.fields #[.ref l,.int 0 0] } }):wpAny (model prog w) A (pyIter (.ref l)) Q E s:=by
 cases tp with
 | true=>exact wpAny_pyIter_tuple (show s.heap.IsTuple l xs from h) hQ
 | false=>exact wpAny_pyIter_list (show s.heap.IsList l xs from h) hQ
abbrev zH1(t1:Bool)(h:Heap)(l1:Addr):Heap:=h.push { cls:=.type (itc t1),data:=.fields #[.ref l1,.int 0 0] }
abbrev zH2(t1 t2:Bool)(h:Heap)(l1 l2:Addr):Heap:=(zH1 t1 h l1).push { cls:=.type (itc t2),data:=.fields #[.ref l2,.int 0 0] }
abbrev zH3(t1 t2:Bool)(h:Heap)(l1 l2:Addr):Heap:=(zH2 t1 t2 h l1 l2).push { cls:=.type "tuple",data:=.seq #[.ref h.objs.size,.ref (zH1 t1 h l1).objs.size] }
abbrev zH4(t1 t2:Bool)(h:Heap)(l1 l2:Addr):Heap:=(zH3 t1 t2 h l1 l2).push { cls:=.type "tuple",data:=.seq #[.none,.none] }
abbrev zH5(t1 t2:Bool)(h:Heap)(l1 l2:Addr):Heap:=(zH4 t1 t2 h l1 l2).push { cls:=.type "zip",data:=.fields #[.none,.bool false,.bool false,.ref (zH2 t1 t2 h l1 l2).objs.size,.ref (zH3 t1 t2 h l1 l2).objs.size] }
theorem oB(t1 t2:Bool)(l1 l2:Addr)(xs ys:Array Value) :
  Meets (Builtin.«zip.__new__» ⟨[.type "zip",.ref l1,.ref l2],[]⟩) (fun _ R s=>bz s.heap t1 l1 xs/\bz s.heap t2 l2 ys /\
   R (.ok (.ret (.ref (zH4 t1 t2 s.heap l1 l2).objs.size))) { s with heap:=zH5 t1 t2 s.heap l1 l2 }) :=
 .of_wp fun prog w A R s h=>by
  obtain⟨hp,g,d,tk,os⟩:=s;obtain⟨hl1,hl2,h⟩:=h;have JI:=sub_zip;have hL1:bz (Shared.heap ⟨hp,g,d,tk,os⟩) t1 l1 xs:=hl1;have hL2:bz (Shared.heap ⟨hp.push { cls:=.type (itc t1),data:=.fields #[.ref l1,.int 0 0] },g,d,tk,os⟩) t2 l2 ys:=hl2.at fun o e=>Heap.get?_push_of_some _ e
  wp_walk using g7 hL1,g7 hL2
  exact⟨_,rfl,h⟩
theorem gE{h:Heap}{tp:Bool}{l it:Addr}(e:h.get? it=some { cls:=.type (itc tp),data:=.fields #[.ref l,.int 0 0] }):aX h tp it l 0:=by
 cases tp with
 | true=>exact(show h.IsTupleIter it l 0 from⟨_,e,rfl,rfl⟩)
 | false=>exact(show h.IsListIter it l 0 from⟨_,e,rfl,rfl⟩)
theorem sH{prog:Program}{w:World}{A:Around}{E:Value->Shared->Prop}{s:Shared}{t1 t2:Bool}{l1 l2:Addr}{xs ys:Array Value}{Q:Value->Shared->Prop}(hl1:bz s.heap t1 l1 xs)(hl2:bz s.heap t2 l2 ys)
  (h:∀ h',IsZip h' (s.heap.objs.size+4) (s.heap.objs.size+2) (s.heap.objs.size+3) .none->IsPair h' (s.heap.objs.size+2) (.ref s.heap.objs.size) (.ref (s.heap.objs.size+1)) ->
   IsPair h' (s.heap.objs.size+3) .none .none->aX h' t1 s.heap.objs.size l1 0->aX h' t2 (s.heap.objs.size+1) l2 0 ->
   (∀ c o,s.heap.get? c=some o->h'.get? c=some o)->Q (.ref (s.heap.objs.size+4)) { s with heap:=h' }) :
  wpAny (model prog w) A (call (.type "zip") [.ref l1,.ref l2]) Q E s:=by
 refine callType_new F.called_zip (by decide) (F.typeCall_zip_2 _ _) (F.newCall_zip_2 _ _) (fun obj=>F.args_object_init_3 obj _ _) F.entry_zip_new
  (oB t1 t2 l1 l2 xs ys) ⟨hl1,hl2,?_⟩
 have z1:(zH1 t1 s.heap l1).objs.size=s.heap.objs.size+1:=Heap.size_push ..;have z2:(zH2 t1 t2 s.heap l1 l2).objs.size=s.heap.objs.size+2:=by rw[Heap.size_push,z1]
 have z3:(zH3 t1 t2 s.heap l1 l2).objs.size=s.heap.objs.size+3:=by rw[Heap.size_push,z2]
 have z4:(zH4 t1 t2 s.heap l1 l2).objs.size=s.heap.objs.size+4:=by rw[Heap.size_push,z3]
 have g5:(zH5 t1 t2 s.heap l1 l2).get? (zH4 t1 t2 s.heap l1 l2).objs.size=some _:=Heap.get?_push_size _ rfl;have g4:(zH5 t1 t2 s.heap l1 l2).get? (zH3 t1 t2 s.heap l1 l2).objs.size=some _:=Heap.get?_push_of_some _ (Heap.get?_push_size _ rfl);have g3:(zH5 t1 t2 s.heap l1 l2).get? (zH2 t1 t2 s.heap l1 l2).objs.size=some _:=Heap.get?_push_of_some _ (Heap.get?_push_of_some _ (Heap.get?_push_size _ rfl));have g2:(zH5 t1 t2 s.heap l1 l2).get? (zH1 t1 s.heap l1).objs.size=some _:=Heap.get?_push_of_some _ (Heap.get?_push_of_some _ (Heap.get?_push_of_some _ (Heap.get?_push_size _ rfl)));have g1:(zH5 t1 t2 s.heap l1 l2).get? s.heap.objs.size=some _:=Heap.get?_push_of_some _ (Heap.get?_push_of_some _ (Heap.get?_push_of_some _ (Heap.get?_push_of_some _ (Heap.get?_push_size _ rfl))));show _/\_;rw[z2,z3,z4]at g5;rw[z1,z2]at g3;rw[z3]at g4;rw[z1]at g2;rw[z4];exact⟨⟨_,g5,rfl⟩,h _ g5 g3 g4 (gE g1) (gE g2) fun c o x =>
  Heap.get?_push_of_some _ (Heap.get?_push_of_some _ (Heap.get?_push_of_some _ (Heap.get?_push_of_some _ (Heap.get?_push_of_some _ x))))⟩
def D7(K:W.Frag)(t1 t2:Bool)(ta:TA):TI:=fun σ H R=>ta σ H fun vs H1=>∃ l1 l2,vs = [.ref l1,.ref l2]/\(∃ xs,SqB K t1 H1 l1 xs)/\(∃ ys,SqB K t2 H1 l2 ys)/\R (Itz K t1 t2 l1 l2) H1
theorem bz.obj{h:Heap}{tp:Bool}{l:Addr}{xs:Array Value}(x:bz h tp l xs):∃ o,h.get? l=some o:=by
 cases tp with
 | true=>obtain⟨o,ho,_⟩:=(show h.IsTuple l xs from x);exact⟨o,ho⟩
 | false=>obtain⟨o,ho,_⟩:=(show h.IsList l xs from x);exact⟨o,ho⟩
theorem tD{n l1 l2:Nat}(h1:l1<n)(h2:l2<n):ZipApart (n+4) (n+2) (n+3) n (n+1) l1 l2:=by
 constructor <;>(intro z;refine absurd (show @Eq Nat _ _ from z) ?_;omega)
theorem Gk{X:Cx}{elts:List Expr}{x1}{pos':Pos}{a b:Expr}{ta:TA}{p pos:Pos}{t1 t2:Bool}(hg:Gl X "zip")(hm:X.mg "zip" = none)(d9:bootBuiltins "zip" = some (.type "zip"))(ha:PA X [a,b] ta)(hs:starEach [a,b] X.env = [(false,eval a X.env),(false,eval b X.env)]:=by rfl)(hs2:starEach [b] X.env = [(false,eval b X.env)]:=by rfl) :
  PI X (.Tuple elts x1 pos') (.Call (.Name "zip" p) [a,b] [] pos) (D7 X.K t1 t2 ta):=by
 intro pins s σ H R I h;refine Call_ (jb I hg hm d9 (PyProof.Rows.callWith_type1 (thn (ha pos pins s σ H _ I h) fun us s1 ⟨vs,H1,I1,r1,q1⟩=>?_) (by rw[hs,hs2]) (by rw[hs2];rfl)))
 obtain⟨l1,l2,e,⟨xs,q2⟩,⟨ys,q3⟩,q⟩:=q1;subst e;obtain⟨u1,u2,rfl,ru1,ru2⟩:=vals2 r1;cases ru1;cases ru2;obtain⟨Iw,rv1,o1,z1⟩:=I1.qI q2;obtain⟨dP,rv2,o2,z2⟩:=I1.qI q3;obtain⟨ob1,e1⟩:=o1.obj;obtain⟨ob2,e2⟩:=o2.obj;have g1:l1<s1.heap.objs.size:=Heap.lt_size e1;have g2:l2<s1.heap.objs.size:=Heap.lt_size e2;refine sH o1 o2 fun h' hz hTI hTO hi1 hi2 hk=>wpAny_pyIter_zip hz ?_
 refine⟨_,[s1.heap.objs.size+4,s1.heap.objs.size+2,s1.heap.objs.size+3,s1.heap.objs.size,s1.heap.objs.size+1],_,_,H1,rfl,I1.kept (t':=s1.toks) hk,zc _ _ _ _ _ l1 l2 ?_,⟨hz,hTI,⟨_,_,hTO⟩,hi1,hi2⟩,fun c hc=>?_,q⟩
 ·exact tD g1 g2
 ·have hc':s1.heap.objs.size<=c:=by
   simp only[List.mem_cons,List.not_mem_nil,or_false]at hc;rcases hc with rfl|rfl|rfl|rfl|rfl <;> first|exact Nat.le_add_right _ _|exact Nat.le_refl _
  exact I1.Bt hc' (I1.hok.fresh hc')
theorem yl{ws:List Str}{t:Nat}(h:ws.Nodup):(ws.drop t++ws.take t).Nodup :=
 (List.perm_append_comm (l₁:=ws.take t) (l₂:=ws.drop t)).nodup_iff.mp (by rw[List.take_append_drop];exact h)
theorem ki.other{H:Hp}{d l q:Addr}{o:HO}(D:ki H d l)(h1:q≠d)(h2:q≠l):ki (upd H q o) d l:=by
 obtain⟨s,n,ls,D⟩:=D;exact⟨s,n,ls,by rw[aj h1.symm];exact D.hd,by rw[aj h2.symm];exact D.hl,D.s0,D.s1,D.n0,D.l0⟩
def names(ks:List Kd):List Str:=ks.flatMap fun k=>k.2.map (·.1)
theorem take_one{xs:List Str}{i:Nat}{x:Str}(h:xs[i]? = some x):xs.take i ++ [x]=xs.take (i+1):=by rw[List.take_add_one,h];rfl
theorem bb{X:Cx}{K:W.Frag}{es:List Expr}{k:Nat}{pos:Pos}{t:TGs}{n:Nat}(hK:X.K=K)(hc:X.calm=true)(h:PGs X es t)
  (hn:(assignEach es X.env).length=n:=by rfl) (hst:(assignEach es X.env).findIdx? (·.1)=none:=by rfl):PG X (.Tuple es k pos) (Hh K n t):=hK▸Gn hc h hn hst
section
variable{prog:Program}{w:World}{A:Around}{E:Value->Shared->Prop}{s:Shared}
theorem yO{e it l:Addr}{tp:Bool}{i:Nat}{items:Array Value}{x old:Value}{Q:Option Value->Shared->Prop}
  (he:IsEnum s.heap e it i old) (hit:aX s.heap tp it l i) (hl:bz s.heap tp l items) (hx:items[i]? = some x) (hne:e≠it)
  (hQ:∀ h',IsEnumOut h' e it ((i:Int)+1) x s.heap.objs.size->aX h' tp it l (i+1)->h'.get? s.heap.objs.size=some { cls:=.type "tuple",data:=.seq #[.int i s.toks,x] }->h'.objs.size=s.heap.objs.size+1 ->
   (∀ b o,b≠e->b≠it->s.heap.get? b=some o->h'.get? b=some o)->Q (some (.ref s.heap.objs.size)) { s with heap:=h',toks:=s.toks+1 }):wpAny (model prog w) A (pyNext (.ref e)) Q E s:=by
 have hT:s.TypeIs (.ref e) "enumerate":=⟨_,he,rfl⟩;obtain⟨hp,g,d,tk,os⟩:=s;unfold pyNext;refine wpAny_bind (wpAny_attempt (wpAny_callSpecial?_slot (name:=Str.ofString "__next__") hT F.slot_enumerate_next (wpAny_call_entry F.slot_enumerate_next hT F.entry_enumerate_next ?_ (F.args_enumerate_next_1 _))));show wpAny _ _ (field (.ref e) 2 >>= _) _ _ _;refine wpAny_bind (wpAny_field he rfl (x:=.ref it) rfl ?_);refine wpAny_bind (next_item hit hl hx fun h1 JO hs1=>?_)
 have he1:IsEnum h1 e it i old:=(hs1.2 e hne).trans he;show wpAny _ _ (field (.ref e) 3 >>= _) _ _ ⟨h1,g,d,tk,os⟩;refine wpAny_bind (wpAny_field he1 rfl (x:=rawInt i) rfl ?_);show wpAny _ _ (field (.ref e) 4 >>= _) _ _ ⟨h1,g,d,tk,os⟩;refine wpAny_bind (wpAny_field he1 rfl (x:=.none) rfl ?_);show wpAny _ _ (mkInt i >>= _) _ _ ⟨h1,g,d,tk,os⟩;refine wpAny_bind (wpAny_mkInt ?_);show wpAny _ _ (setField (.ref e) 3 (rawInt ((i:Int)+1)) >>= _) _ _ ⟨h1,g,d,tk+1,os⟩;refine wpAny_bind (wpAny_setField_rec he1 (by simp) fun h2 he2 hs2=>?_)
 replace hs2:Heap.SameBut e h1 h2:=hs2
 replace he2:IsEnum h2 e it ((i:Int)+1) old:=he2
 show wpAny _ _ (setField (.ref e) 4 .none >>= _) _ _ ⟨h2,g,d,tk+1,os⟩;refine wpAny_bind (wpAny_setField_rec he2 (by simp) fun h3 he3 hs3=>?_)
 replace hs3:Heap.SameBut e h2 h3:=hs3
 replace he3:IsEnum h3 e it ((i:Int)+1) old:=he3
 show wpAny _ _ (newTuple [.int i tk,x] >>= _) _ _ ⟨h3,g,d,tk+1,os⟩;refine wpAny_bind (wpAny_newTuple ?_);have he4:IsEnum (h3.push { cls:=.type "tuple",data:=.seq #[.int i tk,x] }) e it ((i:Int)+1) old:=Heap.get?_push_of_some _ he3;have hsz:h3.objs.size=hp.objs.size:=by rw[hs3.1,hs2.1,hs1.1]
 have hel:e<hp.objs.size:=Heap.lt_size he;have ht4:(h3.push { cls:=.type "tuple",data:=.seq #[.int i tk,x] }).get? hp.objs.size=some { cls:=.type "tuple",data:=.seq #[.int i tk,x] }:=by rw[<- hsz];exact Heap.get?_push_size _ rfl
 have hz4:(h3.push { cls:=.type "tuple",data:=.seq #[.int i tk,x] }).objs.size=hp.objs.size+1:=by rw[Heap.size_push,hsz]
 have hk4:∀ b o,b≠e->b≠it->hp.get? b=some o ->(h3.push { cls:=.type "tuple",data:=.seq #[.int i tk,x] }).get? b=some o:=fun b o hbe hbi hb=>Heap.get?_push_of_some _ (hs3.extBut b o hbe (hs2.extBut b o hbe (hs1.extBut b o hbi hb)))
 have IC:aX (h3.push { cls:=.type "tuple",data:=.seq #[.int i tk,x] }) tp it l (i+1):=JO.at fun o eo=>Heap.get?_push_of_some _ (hs3.extBut _ o hne.symm (hs2.extBut _ o hne.symm eo))
 generalize h3.push { cls:=.type "tuple",data:=.seq #[.int i tk,x] }=h4 at he4 ht4 hz4 hk4 IC
 show wpAny _ _ (Builtin.SmallTypes.ownedTupleIsFree (.ref e) >>= _) _ _ ⟨h4,g,d,tk+1,os⟩;rw[hsz];refine wpAny_bind ?_;unfold Builtin.SmallTypes.ownedTupleIsFree;refine wpAny_bind (wpAny_field he4 rfl (x:=.none) rfl (wpAny_pure ?_));simp only[if_true];refine wpAny_bind (wpAny_rule ?_);refine wpAny_bind (wpAny_field he4 rfl (x:=old) rfl ?_);refine wpAny_bind (wpAny_setField_rec he4 (by simp) fun h5 he5 hs5=>?_)
 replace hs5:Heap.SameBut e h4 h5:=hs5
 replace he5:IsEnum h5 e it ((i:Int)+1) x:=he5
 show wpAny _ _ (Builtin.SmallTypes.ownedTupleHandOut (.ref e) (.ref hp.objs.size) >>= _) _ _ ⟨h5,g,d,tk+1,os⟩;refine wpAny_bind ?_;unfold Builtin.SmallTypes.ownedTupleHandOut;refine wpAny_bind (wpAny_setField_rec he5 (by simp) fun h6 he6 hs6=>?_)
 replace hs6:Heap.SameBut e h5 h6:=hs6
 replace he6:IsEnumOut h6 e it ((i:Int)+1) x hp.objs.size:=he6
 refine wpAny_setField_rec he6 (by simp) fun h7 he7 hs7=>?_
 replace hs7:Heap.SameBut e h6 h7:=hs7
 replace he7:IsEnumOut h7 e it ((i:Int)+1) x hp.objs.size:=he7
 have up:∀ c o,c≠e->h4.get? c=some o->h7.get? c=some o:=fun c o hc z=>hs7.extBut _ _ hc (hs6.extBut _ _ hc (hs5.extBut _ _ hc z))
 refine wpAny_bind (wpAny_letGo (wpAny_pure ⟨_,rfl,wpAny_pure (hQ h7 he7 (IC.at fun o eo=>up _ o hne.symm eo) (up _ _ (Nat.ne_of_gt hel) ht4) ?_ fun b o hbe hbi hb=>up b o hbe (hk4 b o hbe hbi hb))⟩))
 rw[hs7.1,hs6.1,hs5.1,hz4]
theorem By{e it l:Addr}{tp:Bool}{i:Nat}{items:Array Value}{old:Value}{Q:Option Value->Shared->Prop}(hh:A.handled=none)
  (he:IsEnum s.heap e it i old) (hit:aX s.heap tp it l i) (hl:bz s.heap tp l items) (hx:items[i]? = none) (hQ:∀ h',Heap.ExtBut it s.heap h'->Q none { s with heap:=h' }):wpAny (model prog w) A (pyNext (.ref e)) Q E s:=by
 have hT:s.TypeIs (.ref e) "enumerate":=⟨_,he,rfl⟩;unfold pyNext;refine wpAny_bind (wpAny_attempt (wpAny_callSpecial?_slot (name:=Str.ofString "__next__") hT F.slot_enumerate_next (wpAny_call_entry F.slot_enumerate_next hT F.entry_enumerate_next ?_ (F.args_enumerate_next_1 _))));show wpAny _ _ (field (.ref e) 2 >>= _) _ _ _;refine wpAny_bind (wpAny_field he rfl (x:=.ref it) rfl ?_);refine wpAny_bind (next_end hh hit hl hx fun h' x he' hx'=>?_)
 obtain⟨o,ho,hc⟩:=hx';refine wpAny_bind (wpAny_isInstance (T:="StopIteration") (b:=true) ⟨o,ho,hc⟩ isSubtype_stop ?_);exact wpAny_pure (hQ _ he')
abbrev eH1(tp:Bool)(h:Heap)(l:Addr):Heap:=h.push { cls:=.type (itc tp),data:=.fields #[.ref l,.int 0 0] }
abbrev eH2(tp:Bool)(h:Heap)(l:Addr):Heap:=(eH1 tp h l).push { cls:=.type "enumerate",data:=.fields #[.none,.bool false,.ref h.objs.size,rawInt 0,.none,.none] }
theorem ni(tp:Bool)(l:Addr)(xs:Array Value) :
  Meets (Builtin.«enumerate.__new__» ⟨[.type "enumerate",.ref l],[]⟩) (fun _ R s=>bz s.heap tp l xs/\R (.ok (.ret (.ref (eH1 tp s.heap l).objs.size))) { s with heap:=eH2 tp s.heap l }) :=
 .of_wp fun prog w A R s h=>by
  obtain⟨hp,g,d,tk,os⟩:=s;obtain⟨hl,h⟩:=h;have JI:=sub_enumerate;have hL:bz (Shared.heap ⟨hp,g,d,tk,os⟩) tp l xs:=hl
  wp_walk
  refine wpAny_stack_any fun st=>wpAny_pure ?_
  split
  ·rename_i c _ _ _ _ _
   cases(c==Value.type "enumerate")
   ·wp_walk using g7 hL
    exact⟨_,rfl,h⟩
   ·wp_walk using g7 hL
    exact⟨_,rfl,h⟩
  ·wp_walk using g7 hL
   exact⟨_,rfl,h⟩
theorem oY{tp:Bool}{l:Addr}{xs:Array Value}{Q:Value->Shared->Prop}(hl:bz s.heap tp l xs)
  (h:∀ h',IsEnum h' (s.heap.objs.size+1) s.heap.objs.size 0 .none->aX h' tp s.heap.objs.size l 0 ->(∀ b o,s.heap.get? b=some o->h'.get? b=some o)->Q (.ref (s.heap.objs.size+1)) { s with heap:=h' }) :
  wpAny (model prog w) A (call (.type "enumerate") [.ref l]) Q E s:=by
 refine callType_new F.called_enumerate (by decide) (F.typeCall_enumerate_1 _) (F.newCall_enumerate_1 _) (fun obj=>F.args_object_init_2 obj _) F.entry_enumerate_new (ni tp l xs) ⟨hl,?_⟩
 have z1:(eH1 tp s.heap l).objs.size=s.heap.objs.size+1:=Heap.size_push ..;have g2:(eH2 tp s.heap l).get? (eH1 tp s.heap l).objs.size=some _:=Heap.get?_push_size _ rfl;have g1:(eH2 tp s.heap l).get? s.heap.objs.size=some _:=Heap.get?_push_of_some _ (Heap.get?_push_size _ rfl);show _/\_;rw[z1]at g2 ⊢;exact⟨⟨_,g2,rfl⟩,h _ g2 (gE g1) fun c o x=>Heap.get?_push_of_some _ (Heap.get?_push_of_some _ x)⟩
end
def Ite(K:W.Frag)(tp:Bool)(l:Addr):It :=
 ⟨fun i H=>∃ xs x,SqB K tp H l xs/\xs[i]? = some x,
   fun i H v H'=>∃(p:Addr)(x:V),H p=none/\v = .ref p/\H'=upd H p (.tup [.int i,x])/\∀ xs,SqB K tp H l xs->xs[i]? = some x,
   fun i H=>∃ xs,SqB K tp H l xs/\xs.length<=i⟩
theorem yg{P:Program}{w:World}{K:W.Frag}{elts:List Expr}{x1}{pos:Pos}{tp:Bool}(e it l:Addr)(hne:e≠it) :
  Turn P w K (.Tuple elts x1 pos) (Ite K tp l) [e,it] e (fun i h=>(∃ old,IsEnum h e it i old)/\aX h tp it l i) where
 mem:=by simp
 obj:=by
  rintro i h ⟨⟨old,h1⟩,h2⟩ c hc
  simp only[List.mem_cons,List.not_mem_nil,or_false]at hc;rcases hc with rfl|rfl
  ·exact⟨_,h1,fun v e=>by cases e⟩
  ·exact h2.obj
 keep:=by
  rintro i h h' ⟨⟨old,h1⟩,h2⟩ k
  exact⟨⟨old,k e (by simp) _ h1⟩,h2.at fun o z=>k it (by simp) o z⟩
 item:=by
  intro X hP hw hK hc i pins s σ H E I hf st hg;subst hP hw hK;obtain⟨⟨old,h1⟩,h2⟩:=st;obtain⟨xs,x,q1,e1⟩:=hg;obtain⟨its,rv,o1,z1⟩:=I.qI q1;obtain⟨u1,hu1,ru1⟩:=rv.get e1;refine yO h1 h2 o1 (x:=u1) (by simpa using hu1) hne fun h' ho' hi' hT' JH hk'=>⟨_,rfl,?_⟩
  refine wpAny_letOwnedTupleGo_enum ho' fun h'' JR G7=>?_
  have hn:=I.hok.fresh (Nat.le_refl s.heap.objs.size);have le:e<s.heap.objs.size:=Heap.lt_size h1;obtain⟨oi,goi,_⟩:=h2.obj;have li:it<s.heap.objs.size:=Heap.lt_size goi;have GR:∀ b ∈ [e,it],b≠s.heap.objs.size:=fun b hb=>by
   simp only[List.mem_cons,List.not_mem_nil,or_false]at hb;rcases hb with rfl|rfl
   ·exact Nat.ne_of_lt le
   ·exact Nat.ne_of_lt li
  have up:∀ c o,c≠e->h'.get? c=some o->h''.get? c=some o:=fun c o hc z=>G7.extBut _ _ hc z
  have I1:Inv X pins σ (upd H s.heap.objs.size (.tup [.int i,x])) { s with heap:=s.heap.push { cls:=.type "tuple",data:=.seq #[.int i s.toks,u1] },toks:=s.toks+1 } :=
   I.laid (t':=s.toks+1) (fun b u z=>Heap.get?_push_of_some _ z) (Nat.le_refl _) ⟨by show 2<=sizeLine;decide,[.int i s.toks,u1],.cons ⟨_,rfl⟩ (.cons ru1 .nil),⟨⟨_,Heap.get?_push_size _ rfl,rfl,_,rfl⟩,_,Heap.get?_push_size _ rfl,rfl⟩⟩
  have hf':∀ b ∈ [e,it],nX X pins (upd H s.heap.objs.size (.tup [.int i,x])) b:=fun b hb=>by
   obtain⟨f0,r⟩:=hf b hb;exact⟨by rw[aj (GR b hb)];exact f0,r⟩
  have I2:Inv X pins σ (upd H s.heap.objs.size (.tup [.int i,x])) { s with heap:=h'',toks:=s.toks+1 }:=by
   refine I1.lS (h':=h'') (t':=s.toks+1) (fun b o hb z=>?_) hf'
   simp only[List.mem_cons,List.not_mem_nil,or_false,not_or]at hb;obtain⟨b1,b2⟩:=hb;rcases Heap.get?_push_cases z with⟨rfl,rfl⟩|z'
   ·exact up _ _ b1 hT'
   ·exact up _ _ b1 (hk' b o b1 b2 z')
  refine⟨.ref s.heap.objs.size,upd H s.heap.objs.size (.tup [.int i,x]),I2,rfl,⟨_,x,hn,rfl,rfl,fun zs hz=>by rw[I.mJ hz q1];exact e1⟩,?_,fun b hb=>(hf' b hb).1⟩
  exact⟨⟨_,by simpa using JR⟩,hi'.at fun o z=>up _ _ hne.symm z⟩
 done:=by
  intro X hP hw hK hc i pins s σ H E I hf st hg;subst hP hw hK;obtain⟨⟨old,h1⟩,h2⟩:=st;obtain⟨xs,q1,yM⟩:=hg;obtain⟨its,rv,o1,z1⟩:=I.qI q1;have g1:=rv.length;refine By (I.ok.hd hc) h1 h2 o1 (by simp;omega) fun h' k=>⟨rfl,I.lS (t':=s.toks) (fun b o hb z=>?_) hf⟩
  simp only[List.mem_cons,List.not_mem_nil,or_false,not_or]at hb;exact k b o hb.2 z
 self:=fun _ _ _ _ _ st h=>let⟨⟨_,z⟩,_⟩:=st;wpAny_pyIter_enum z h
def xK(K:W.Frag)(tp:Bool)(ta:TA):TI:=fun σ H R=>ta σ H fun vs H1=>∃ l,vs = [.ref l]/\(∃ xs,SqB K tp H1 l xs)/\R (Ite K tp l) H1
theorem C6{X:Cx}{elts:List Expr}{x1}{pos':Pos}{a:Expr}{ta:TA}{p pos:Pos}{tp:Bool}(hg:Gl X "enumerate")(hm:X.mg "enumerate" = none)(d9:bootBuiltins "enumerate" = some (.type "enumerate"))(ha:PA X [a] ta)(hs:starEach [a] X.env = [(false,eval a X.env)]:=by rfl) :
  PI X (.Tuple elts x1 pos') (.Call (.Name "enumerate" p) [a] [] pos) (xK X.K tp ta):=by
 intro pins s σ H R I h;refine Call_ (jb I hg hm d9 (PyProof.Rows.callWith_type1 (thn (ha pos pins s σ H _ I h) fun us s1 ⟨vs,H1,I1,r1,q1⟩=>?_) hs rfl))
 obtain⟨l,e,⟨xs,q2⟩,q⟩:=q1;subst e;obtain⟨u1,rfl,ru1⟩:=vals1 r1;cases ru1;obtain⟨its,rv,o1,z1⟩:=I1.qI q2;refine oY o1 fun h' he hi hk=>wpAny_pyIter_enum he ?_
 refine⟨_,[s1.heap.objs.size+1,s1.heap.objs.size],_,_,H1,rfl,I1.kept (t':=s1.toks) hk,yg _ _ l (fun z=>absurd (show @Eq Nat _ _ from z) (by omega)),⟨⟨_,he⟩,hi⟩,fun c hc=>?_,q⟩
 have hc':s1.heap.objs.size<=c:=by
  simp only[List.mem_cons,List.not_mem_nil,or_false]at hc;rcases hc with rfl|rfl <;> first|exact Nat.le_add_right _ _|exact Nat.le_refl _
 exact I1.Bt hc' (I1.hok.fresh hc')
end L2
namespace PySem
open Sem (wp)
end PySem
namespace L2
open PySem PySem.Spec PyProof.Rows
section
variable{X:Cx}{pins:List (Addr×Obj)}{σ:St}{H:Hp}{s:Shared}{a:Addr}{u u':HO}
theorem Inv.zP(I:Inv X pins σ H s)(ha:H a=some u)(h1:∀ xs,u ≠ .tup xs)(h2:∀ c,u ≠ .own c)(h3:∀ ps,u ≠ .tbl ps)(hz:∀ o v,X.H₀ a≠some (.frz o v))(new:bt X.prog X.w (upd H a u') s.heap a u'):Inv X pins σ (upd H a u') s:=by
 have ne:∀{b:Addr},H b=none->b≠a:=fun{b} e z=>by rw[z,ha]at e;cases e
 refine⟨I.ok,I.os,I.bare,⟨I.base.keep,I.base.slot,fun b o e n hx=>?_,I.base.there,fun b xs e=>?_,fun b o v e=>?_,fun b ps e=>?_⟩,I.loc,I.cell,?_,fun x c e=>?_,fun p hp=>?_,fun b o e=>?_,I.len⟩
 ·have:=I.base.free b o e n hx
  rw[aj (ne this)];exact this
 ·have:=I.base.mv b xs e
  rw[aj fun z=>by rw[z,ha]at this;exact h1 xs (Option.some.inj this)]
  exact this
 ·have:=I.base.jQ b o v e
  rw[aj fun z=>by rw[z]at e;exact hz o v e]
  exact this
 ·obtain⟨more,this⟩:=I.base.mw b ps e;refine⟨more,?_⟩;rw[aj fun z=>by rw[z,ha]at this;exact h3 _ (Option.some.inj this)]
  exact this
 ·rw[aj (ne I.free)];exact I.free
 ·rw[aj (ne (I.eh x c e))];exact I.eh x c e
 ·obtain⟨p1,p2,p3⟩:=I.pin p hp;exact⟨p1,by rw[aj (ne p2)];exact p2,p3⟩
 ·by_cases hb:b=a
  ·subst hb;rw[au]at e;cases e;exact new
  ·rw[aj hb]at e;refine(I.hok b o e).cX (fun _ _ _ q=>q) (fun c q=>?_) fun c xs q=>?_
   ·rw[aj fun z=>by rw[z,ha]at q;exact h2 _ (Option.some.inj q)];exact q
   ·rw[aj fun z=>by rw[z,ha]at q;exact h1 _ (Option.some.inj q)];exact q
theorem Inv.freeze{kvs:List (Key×V)}(I:Inv X pins σ H s)(ha:H a=some (.dK kvs)):(∀ o v,X.H₀ a≠some (.frz o v))/\∃ o,Inv X pins σ (upd H a (.frz o (.dK kvs))) s:=by
 have hz:∀ o v,X.H₀ a≠some (.frz o v):=fun o v e=>by
  have:=I.base.jQ a o v e
  rw[ha]at this;cases this
 obtain⟨z,hs,vs,r,o,es,ep,e,c⟩:=(show bt X.prog X.w H s.heap a (.dK kvs)from I.hok a _ ha);exact⟨hz,o,I.zP ha (fun _ z=>nomatch z) (fun _ z=>nomatch z) (fun _ z=>nomatch z) hz ⟨e,z,hs,vs,r,o,es,ep,e,c⟩⟩
end
end L2
namespace PySem
open Sem (wp)
end PySem
namespace PySem
open Sem (wp)
open Builtin Builtin.ObjectAttr
inductive uQ(h:Heap)(S:List Str)(bmB:List Value):List Value->Prop
 | base:uQ h S bmB bmB
 | own{A:Addr}{c0:Value}{dd:Option Addr}{cd:ClassData}{sl:Array (Option Value)}{mA:Str->Option Value}{tl:List Value} :
   h.get? A=some { cls:=c0,dict:=dd,data:=.cls cd,slots:=sl }->h.Ns cd.ns mA ->(∀ n∈S,mA n=none)->uQ h S bmB tl->uQ h S bmB (.ref A::tl)
section
variable{M:Model}{prog:Program}{w:World}{A:Around}{E:Value->Shared->Prop}{h:Heap}{g:Array GenState}{d:Drawn}{t:Nat}{os:OsState}
variable{nm q:Str}{C N x:Addr}{bs bm bmB:List Value}{sn:List Str}{sub:List Value}{ab Hc:Bool}{col:Option Bool}{dd:Option Addr}{k0 k1 k2 k3 k5:Option Value}{B newId sa owner:String}
 {mN mA:Str->Option Value} {name:Str} {v:Value} {S:List Str}
end
end PySem
namespace PySem
open Sem (wp)
open Builtin Builtin.ObjectAttr
section
variable{prog:Program}{w:World}{A:Around}{E:Value->Shared->Prop}{h:Heap}{g:Array GenState}{d:Drawn}{t:Nat}{os:OsState}
variable{nm q:Str}{C N x:Addr}{bs bm bmB:List Value}{sn:List Str}{sub:List Value}{ab Hc:Bool}{col:Option Bool}{dd:Option Addr}{k0 k1 k2 k3 k5:Option Value}{B newId:String}
 {mN mA:Str->Option Value} {name:Str} {v:Value} {S:List Str} {o:Obj}
end
end PySem
namespace PySem
open Sem (wp)
def Hr(h:Heap)(e:Addr)(cls:Value)(dx:Option Addr)(y:Value):Prop :=
 ∃ o vs a0,h.get? e=some o/\o.cls=cls/\o.dict=dx/\o.data = .fields vs/\vs[0]? = some a0/\vs[1]? = some y
end PySem
namespace L2
open PySem PySem.Spec PyProof.Rows
abbrev bmV:List Value:=[.type "ValueError",.type "Exception",.type "BaseException",.type "object"]
abbrev xS(fn:List Str):List Str:="__setattr__" :: "__getattribute__" :: "__getattr__" :: "__class__" :: fn
structure Hl(K:W.Frag)(fn:List Str)(C:Addr)(bm:List Value)(ini:Option Addr):Prop where
 all:∀ h:Heap,K.In h->∃ nm q N bs sn sub ab col dd k0 k1 k2 k3 k5 mN,h.get? C=some (excClassObj nm q C N bs bm true sn sub ab col dd k0 k1 k2 k3 k5 "ValueError.__new__")/\h.Ns N mN /\
  (∀ n∈xS fn,mN n=none)/\mN "__init__" = ini.map Value.ref/\uQ h ("__init__" :: xS fn) bmV bm
 cl:∃ cd,W.clsIn K C=some cd/\cd.mro = .ref C::bm
 ty:W.typeIn K (.ref C)=some (.type "type")
def lT(K:W.Frag)(S:List Str)(bmB:List Value):List Value->Bool
 | []=>bmB == []
 | v::r=>(v::r)==bmB||match v with
  | .ref A=>(match K.lookup A with
   | some ⟨_,_,.cls cd,_⟩=>W.nsOkIn K cd.ns&&S.all (fun n=>W.nsIn K cd.ns n==some none)&&lT K S bmB r
   | _=>false)
  | _=>false
theorem tI{K:W.Frag}{h:Heap}{S:List Str}{bmB:List Value}(X:K.In h):∀{l:List Value},lT K S bmB l=true->uQ h S bmB l
 | [],e=>by rw[<- beq_iff_eq.mp e];exact .base
 | v::r,e=>by
  unfold lT at e;rcases Bool.or_eq_true_iff.mp e with q|q
  ·rw[beq_iff_eq.mp q];exact .base
  ·split at q
   ·split at q
    ·rename_i ho;rw[Bool.and_eq_true,Bool.and_eq_true]at q;exact .own (X _ _ ho) (.of_isNs (W.isNs_of_in X q.1.1)) (fun n hn=>W.nsMap_none_of_in X q.1.1 (beq_iff_eq.mp (List.all_eq_true.mp q.1.2 n hn))) (tI X q.2)
    ·cases q
   ·cases q
def IZ:Data->Option ClassData
 | .cls cd=>some cd
 | _=>none
theorem yU{d:Data}{cd:ClassData}(h:IZ d=some cd):d = .cls cd:=by
 cases d <;> first|exact congrArg Data.cls (Option.some.inj h)|cases h
def y3(K:W.Frag)(fn:List Str)(C:Addr)(bm:List Value)(ini:Option Addr)(sl:Array (Option Value))(cd:ClassData):Bool :=
 cd.mro == .ref C::bm&&sl.size==6&&sl[4]? == some (some (.builtin "ValueError.__new__")) && !cd.hasDel&&cd.hasDict&&lT K ("__init__" :: xS fn) bmV bm&&W.nsOkIn K cd.ns &&
  (xS fn).all (fun n=>W.nsIn K cd.ns n==some none)&&W.nsIn K cd.ns "__init__" == some (ini.map Value.ref)
def qh(K:W.Frag)(fn:List Str)(C:Addr)(bm:List Value)(ini:Option Addr):Bool:=(K.lookup C).any fun o=>o.cls == .type "type" && (IZ o.data).any (y3 K fn C bm ini o.slots)
theorem any_some{α:Type}{o:Option α}{f:α->Bool}(h:o.any f=true):∃ a,o=some a/\f a=true:=by
 cases o with
 | none=>cases h
 | some a=>exact⟨a,rfl,h⟩
theorem six{α:Type}{l:List α}(h:l.length=6):∃ a b c d e f,l = [a,b,c,d,e,f]:=by
 cases l with
 | nil=>cases h
 | cons a l=>cases l with
  | nil=>cases h
  | cons b l=>cases l with
   | nil=>cases h
   | cons c l=>cases l with
    | nil=>cases h
    | cons d l=>cases l with
     | nil=>cases h
     | cons e l=>cases l with
      | nil=>cases h
      | cons f l=>exact⟨a,b,c,d,e,f,by rw[List.length_eq_zero_iff.mp (show l.length=0 by simpa using h)]⟩
theorem vA{K:W.Frag}{h:Heap}{N:Addr}{mg:Str->Option Value}{n:Str}{v:Value}(X:K.In h)(G:h.Ns N mg)(e:W.nsIn K N n=some (some v)):mg n=some v:=by
 obtain⟨o,es,ep,ho,hd,_,hf⟩:=G;unfold W.nsIn at e
 split at e
 ·rename_i c d es' n' sl q
  have:=X _ _ q
  rw[ho]at this;cases this;cases hd
  split at e
  ·rename_i e1 he;cases e;rw[<- hf];unfold nsFind findBy;rw[<- Array.find?_toList,he];rfl
  ·split at e <;> cases e
 ·cases e
theorem wR{K:W.Frag}{fn:List Str}{C:Addr}{bm:List Value}{ini:Option Addr}(q:qh K fn C bm ini=true):Hl K fn C bm ini:=by
 unfold qh at q;obtain⟨⟨cl,dd,da,sl⟩,ho,q⟩:=any_some q;rw[Bool.and_eq_true]at q;obtain⟨q0,q⟩:=q;obtain⟨cd,hcd,q⟩:=any_some q;have e0:cl = .type "type":=eq_of_beq q0;have e1:da = .cls cd:=yU hcd;subst e0 e1;unfold y3 at q;simp only[Bool.and_eq_true,beq_iff_eq,Bool.not_eq_true']at q;obtain⟨⟨⟨⟨⟨⟨⟨⟨hm,h6⟩,h4⟩,IE⟩,ID⟩,ht⟩,hok⟩,hS⟩,hni⟩:=q;obtain⟨nm,bs,mro,ns,qn,hd,sn,sub,ab,col,del⟩:=cd;dsimp only at hm IE hok hni ID hS;subst hm IE ID;obtain⟨l⟩:=sl;obtain⟨k0,k1,k2,k3,k4,k5,rfl⟩:=six (l:=l) h6;obtain rfl:k4=some (.builtin "ValueError.__new__"):=Option.some.inj h4;refine⟨fun h X=>?_,⟨_,by unfold W.clsIn;rw[ho],rfl⟩,by show(K.lookup _).map (·.cls)=_;rw[ho];rfl⟩
 refine⟨nm,qn,ns,bs,sn,sub,ab,col,dd,k0,k1,k2,k3,k5,_,X _ _ ho,.of_isNs (W.isNs_of_in X hok),fun n hn=>W.nsMap_none_of_in X hok (by simpa using List.all_eq_true.mp hS n hn),?_,tI X ht⟩
 cases ini with
 | none=>exact W.nsMap_none_of_in X hok hni
 | some f=>exact vA X (.of_isNs (W.isNs_of_in X hok)) hni
def XAt(a C:Addr)(dx:Option Addr)(b:Bool)(h:Heap):Prop:=∃ y,Hr h a (.ref C) dx y/\(b=true->y = .none)
def XD(dx:Addr)(fs:List (Str×V))(h:Heap):Prop:=∃ mA,h.Ns1 dx mA/\(∀ f,iy (fs.lookup f) (mA f))/\PySem.Within mA (fs.map (·.1))
def ExH(H:Hp)(a C:Addr)(b:Bool)(fs:List (Str×V)):Prop:=(fs = []/\H a=some (.ext (XAt a C none b)))\/∃ dx,dx≠a/\H a=some (.ext (XAt a C (some dx) b))/\H dx=some (.ext (XD dx fs))
section
variable{P:Program}{w:World}{H H':Hp}{h h':Heap}{a C d:Addr}{dx:Option Addr}{b:Bool}{fs:List (Str×V)}
theorem XD.ok(x:XD d fs h):bt P w H h d (.ext (XD d fs)):=by
 refine⟨x,?_,fun h1 h2 ⟨mA,⟨o,es,ep,e,r⟩,z⟩ k=>⟨mA,⟨o,es,ep,k o e,r⟩,z⟩⟩
 obtain⟨mA,⟨o,es,ep,e,r⟩,z⟩:=x;exact⟨o,e⟩
end
end L2
namespace PySem
open Sem (wp)
end PySem
namespace L2
open PySem PySem.Spec PyProof.Rows
theorem len0{P:List Value->Prop}(h:P [])(us:List Value)(e:us.length=0):P us:=by rw[List.length_eq_zero_iff.mp e];exact h
theorem DO{P:List Value->Prop}(h:∀ a,P [a])(us:List Value)(e:us.length=1):P us:=by
 cases us with
 | nil=>cases e
 | cons a r=>exact len0 (P:=fun r=>P (a::r)) (h a) r (Nat.succ.inj e)
theorem rP{P:List Value->Prop}(h:∀ a b,P [a,b])(us:List Value)(e:us.length=2):P us:=by
 cases us with
 | nil=>cases e
 | cons a r=>exact DO (P:=fun r=>P (a::r)) (h a) r (Nat.succ.inj e)
theorem oE{P:List Value->Prop}(h:∀ a b c,P [a,b,c])(us:List Value)(e:us.length=3):P us:=by
 cases us with
 | nil=>cases e
 | cons a r=>exact rP (P:=fun r=>P (a::r)) (h a) r (Nat.succ.inj e)
theorem GP{P:List Value->Prop}(h:∀ a b c d,P [a,b,c,d])(us:List Value)(e:us.length=4):P us:=by
 cases us with
 | nil=>cases e
 | cons a r=>exact oE (P:=fun r=>P (a::r)) (h a) r (Nat.succ.inj e)
theorem Ir{P:List Value->Prop}(h:∀ a b c d e,P [a,b,c,d,e])(us:List Value)(e:us.length=5):P us:=by
 cases us with
 | nil=>cases e
 | cons a r=>exact GP (P:=fun r=>P (a::r)) (h a) r (Nat.succ.inj e)
inductive T where
 | n|b (x:Bool)|i (x:Int)|s (x:Str)|t (xs:List T)|l (xs:List T)|d (ks:List (Key×T))|cY|z (ns:List Int)|ty (x:String)|k (ws:List Str)|q|fd (o:Obj) (vs:List (Key×V)) (ks:List (Key×T))|xc (C:Addr) (ns:List Str) (ts:List T)|rm (u:Int)|ob (C:Addr) (ns:List Str) (ts:List T)|dp (a:Addr) (ks:List (Key×T))|lp (a:Addr) (xs:List T)
abbrev Dl:=List (Addr×Addr)
def FzL(K:W.Frag)(H:Hp)(a:Addr)(xs:List V):Prop:=(∃ o,H a=some (.frz o (.lst xs))) \/
  ∃(o:Obj)(its:Array Value)(n:Nat),K.lookup a=some o/\o.cls = .type "list" /\ o.dict=none/\o.data = .seq its n/\its.size<=sizeLine/\Vals xs its.toList
theorem FzL.sq{K:W.Frag}{H:Hp}{a:Addr}{xs:List V}(h:FzL K H a xs):SqL K H a xs:=by
 rcases h with h|h
 ·exact .inl (.inr h)
 ·exact .inr h
def pe(a C dx:Addr)(h:Heap):Prop:=h.get? a=some (W.instObj C dx)
def ObH(H:Hp)(a C:Addr)(fs:List (Str×V)):Prop:=∃ dx,dx≠a/\H a=some (.ext (pe a C dx))/\H dx=some (.ext (XD dx fs))
mutual
inductive aC(K:W.Frag)(dl:Dl)(H:Hp):V->T->List Addr->Prop where
 | n:aC K dl H .non .n []
 | b(x:Bool):aC K dl H (.bl x) (.b x) []
 | i(x:Int):aC K dl H (.int x) (.i x) []
 | s(x:Str):aC K dl H (.str x) (.s x) []
 | ty(x:String):aC K dl H (.ty x) (.ty x) []
 | t{a:Addr}{vs:List V}{ts:List T}{F:List Addr}:H a=some (.tup vs)->av K dl H vs ts F->aC K dl H (.ref a) (.t ts) F
 | l{a:Addr}{vs:List V}{ts:List T}{F:List Addr}:H a=some (.lst vs)->av K dl H vs ts F->aC K dl H (.ref a) (.l ts) (a::F)
 | d{a:Addr}{vs:List (Key×V)}{ts:List (Key×T)}{F:List Addr}:H a=some (.dK vs)->aK K dl H vs ts F->aC K dl H (.ref a) (.d ts) (a::F)
 | x{a l:Addr}:(a,l)∈dl->aC K dl H (.ref a) .cY []
 | z{a:Addr}{ns:List Int}:FzL K H a (ns.map V.int)->aC K dl H (.ref a) (.z ns) []
 | q{a:Addr}{xs:List V}:H a=some (.lst xs)->aC K dl H (.ref a) .q []
 | fd{a:Addr}{o:Obj}{vs:List (Key×V)}{ts:List (Key×T)}:H a=some (.frz o (.dK vs))->aK K dl H vs ts []->aC K dl H (.ref a) (.fd o vs ts) []
 | k{a:Addr}{ws:List Str}:(∀ H':Hp,SqT K H' a (ws.map V.str))->aC K dl H (.ref a) (.k ws) []
 | e{a C:Addr}{b:Bool}{ns:List Str}{vs:List V}{ts:List T}:ExH H a C b (ns.zip vs)->av K dl H vs ts []->aC K dl H (.ref a) (.xc C ns ts) []
 | rm{a:Addr}{x u:Int}:H a=some (.room x)->x<=u->aC K dl H (.ref a) (.rm u) []
 | ob{a C:Addr}{ns:List Str}{vs:List V}{ts:List T}:ObH H a C (ns.zip vs)->av K dl H vs ts []->aC K dl H (.ref a) (.ob C ns ts) []
 | dp{a:Addr}{vs:List (Key×V)}{ts:List (Key×T)}{F:List Addr}:H a=some (.dK vs)->aK K dl H vs ts F->aC K dl H (.ref a) (.dp a ts) (a::F)
 | lp{a:Addr}{vs:List V}{ts:List T}{F:List Addr}:H a=some (.lst vs)->av K dl H vs ts F->aC K dl H (.ref a) (.lp a ts) (a::F)
inductive av(K:W.Frag)(dl:Dl)(H:Hp):List V->List T->List Addr->Prop where
 | nil:av K dl H [] [] []
 | cons{v:V}{x:T}{vs:List V}{ts:List T}{F G:List Addr}:aC K dl H v x F->av K dl H vs ts G->av K dl H (v::vs) (x::ts) (F++G)
inductive aK(K:W.Frag)(dl:Dl)(H:Hp):List (Key×V)->List (Key×T)->List Addr->Prop where
 | nil:aK K dl H [] [] []
 | cons{k:Key}{v:V}{x:T}{vs:List (Key×V)}{ts:List (Key×T)}{F G:List Addr}:aC K dl H v x F->aK K dl H vs ts G->aK K dl H ((k,v)::vs) ((k,x)::ts) (F++G)
end
structure TF(H H':Hp):Prop where
 t:∀ a vs,H a=some (.tup vs)->H' a=some (.tup vs)
 f:∀ a o u,H a=some (.frz o u)->H' a=some (.frz o u)
 x:∀ a φ,H a=some (.ext φ)->H' a=some (.ext φ)
 q:∀ a xs,H a=some (.lst xs)->∃ ys,H' a=some (.lst ys)
 r:∀ a x,H a=some (.room x)->∃ y,y<=x/\H' a=some (.room y)
theorem ObH.tf{H H':Hp}{a C:Addr}{fs:List (Str×V)}(h:ObH H a C fs)(k:TF H H'):ObH H' a C fs:=by
 obtain⟨d,h1,h2,h3⟩:=h;exact⟨d,h1,k.x _ _ h2,k.x _ _ h3⟩
theorem ExH.tf{H H':Hp}{a C:Addr}{b:Bool}{fs:List (Str×V)}(h:ExH H a C b fs)(k:TF H H'):ExH H' a C b fs:=by
 rcases h with⟨h1,h2⟩ |⟨d,h1,h2,h3⟩
 ·exact .inl ⟨h1,k.x _ _ h2⟩
 ·exact .inr ⟨d,h1,k.x _ _ h2,k.x _ _ h3⟩
theorem FzL.tf{K:W.Frag}{H H':Hp}{a:Addr}{vs:List V}(h:FzL K H a vs)(k:TF H H'):FzL K H' a vs:=by
 rcases h with⟨o,h⟩|h
 ·exact .inl ⟨o,k.f _ _ _ h⟩
 ·exact .inr h
theorem bW{α:Type}{p:α->Prop}:∀ b∈([]:List α),p b:=fun _ h=>absurd h List.not_mem_nil
theorem aC.cX{K:W.Frag}{dl dl':Dl}{H H':Hp}(k:TF H H')(hd:∀ p∈dl,p∈dl'){v:V}{t:T}{F:List Addr}(h:aC K dl H v t F):(∀ b∈F,∀ o,H b=some o->H' b=some o)->aC K dl' H' v t F :=
 aC.rec (motive_1:=fun v t F _=>(∀ b∈F,∀ o,H b=some o->H' b=some o)->aC K dl' H' v t F) (motive_2:=fun v t F _=>(∀ b∈F,∀ o,H b=some o->H' b=some o)->av K dl' H' v t F) (motive_3:=fun v t F _=>(∀ b∈F,∀ o,H b=some o->H' b=some o)->aK K dl' H' v t F)
  (fun _=>.n) (fun x _=>.b x) (fun x _=>.i x) (fun x _=>.s x) (fun x _=>.ty x) (fun h _ ih q=>.t (k.t _ _ h) (ih q))
  (fun h _ ih q=>.l (q _ List.mem_cons_self _ h) (ih fun b hb=>q b (List.mem_cons_of_mem _ hb))) (fun h _ ih q=>.d (q _ List.mem_cons_self _ h) (ih fun b hb=>q b (List.mem_cons_of_mem _ hb)))
  (fun h _=>.x (hd _ h)) (fun h _=>.z (h.tf k)) (fun h _=>Exists.elim (k.q _ _ h) fun _ e=>.q e) (fun h _ ih _=>.fd (k.f _ _ _ h) (ih bW)) (fun h _=>.k h) (fun h _ ih _=>.e (h.tf k) (ih bW))
  (fun h hx _=>Exists.elim (k.r _ _ h) fun _ e=>.rm e.2 (Int.le_trans e.1 hx)) (fun h _ ih _=>.ob (h.tf k) (ih bW)) (fun h _ ih q=>.dp (q _ List.mem_cons_self _ h) (ih fun b hb=>q b (List.mem_cons_of_mem _ hb))) (fun h _ ih q=>.lp (q _ List.mem_cons_self _ h) (ih fun b hb=>q b (List.mem_cons_of_mem _ hb)))
  (fun _=>.nil) (fun _ _ i1 i2 q=>.cons (i1 fun b hb=>q b (List.mem_append_left _ hb)) (i2 fun b hb=>q b (List.mem_append_right _ hb)))
  (fun _=>.nil) (fun _ _ i1 i2 q=>.cons (i1 fun b hb=>q b (List.mem_append_left _ hb)) (i2 fun b hb=>q b (List.mem_append_right _ hb))) h
theorem av.ind{K:W.Frag}{dl:Dl}{H:Hp}{M:List V->List T->List Addr->Prop}(nil:M [] [] [])(cons:∀ v x vs ts F G,aC K dl H v x F->av K dl H vs ts G->M vs ts G->M (v::vs) (x::ts) (F++G)){vs:List V}{ts:List T}{F:List Addr}(h:av K dl H vs ts F):M vs ts F :=
 av.rec (motive_1:=fun _ _ _ _=>True) (motive_2:=fun v t F _=>M v t F) (motive_3:=fun _ _ _ _=>True) trivial (fun _=>trivial) (fun _=>trivial) (fun _=>trivial) (fun _=>trivial) (fun _ _ _=>trivial) (fun _ _ _=>trivial) (fun _ _ _=>trivial)
  (fun _=>trivial) (fun _=>trivial) (fun _=>trivial) (fun _ _ _=>trivial) (fun _=>trivial) (fun _ _ _=>trivial) (fun _ _=>trivial) (fun _ _ _=>trivial) (fun _ _ _=>trivial) (fun _ _ _=>trivial) nil (fun h r _ ih=>cons _ _ _ _ _ _ h r ih) trivial (fun _ _ _ _=>trivial) h
theorem aK.ind{K:W.Frag}{dl:Dl}{H:Hp}{M:List (Key×V)->List (Key×T)->List Addr->Prop}(nil:M [] [] [])(cons:∀ k v x vs ts F G,aC K dl H v x F->aK K dl H vs ts G->M vs ts G->M ((k,v)::vs) ((k,x)::ts) (F++G)){vs:List (Key×V)}{ts:List (Key×T)}{F:List Addr}(h:aK K dl H vs ts F):M vs ts F :=
 aK.rec (motive_1:=fun _ _ _ _=>True) (motive_2:=fun _ _ _ _=>True) (motive_3:=fun v t F _=>M v t F) trivial (fun _=>trivial) (fun _=>trivial) (fun _=>trivial) (fun _=>trivial) (fun _ _ _=>trivial) (fun _ _ _=>trivial) (fun _ _ _=>trivial)
  (fun _=>trivial) (fun _=>trivial) (fun _=>trivial) (fun _ _ _=>trivial) (fun _=>trivial) (fun _ _ _=>trivial) (fun _ _=>trivial) (fun _ _ _=>trivial) (fun _ _ _=>trivial) (fun _ _ _=>trivial) trivial (fun _ _ _ _=>trivial) nil (fun h r _ ih=>cons _ _ _ _ _ _ _ h r ih) h
theorem av.cX{K:W.Frag}{dl dl':Dl}{H H':Hp}(k:TF H H')(hd:∀ p∈dl,p∈dl'){vs:List V}{ts:List T}{F:List Addr}(h:av K dl H vs ts F):(∀ b∈F,∀ o,H b=some o->H' b=some o)->av K dl' H' vs ts F :=
 h.ind (M:=fun vs ts F=>(∀ b∈F,∀ o,H b=some o->H' b=some o)->av K dl' H' vs ts F) (fun _=>.nil) (fun _ _ _ _ _ _ h _ ih q=>.cons (h.cX k hd fun b hb=>q b (List.mem_append_left _ hb)) (ih fun b hb=>q b (List.mem_append_right _ hb)))
theorem aK.cX{K:W.Frag}{dl dl':Dl}{H H':Hp}(k:TF H H')(hd:∀ p∈dl,p∈dl'){vs:List (Key×V)}{ts:List (Key×T)}{F:List Addr}(h:aK K dl H vs ts F):(∀ b∈F,∀ o,H b=some o->H' b=some o)->aK K dl' H' vs ts F :=
 h.ind (M:=fun vs ts F=>(∀ b∈F,∀ o,H b=some o->H' b=some o)->aK K dl' H' vs ts F) (fun _=>.nil) (fun _ _ _ _ _ _ _ h _ ih q=>.cons (h.cX k hd fun b hb=>q b (List.mem_append_left _ hb)) (ih fun b hb=>q b (List.mem_append_right _ hb)))
theorem km{H:Hp}{F G:List Addr}(h:∀ b∈F,(∃ xs,H b=some (.lst xs))\/∃ ks,H b=some (.dK ks))(r:∀ b∈G,(∃ xs,H b=some (.lst xs))\/∃ ks,H b=some (.dK ks)):∀ b∈F++G,(∃ xs,H b=some (.lst xs))\/∃ ks,H b=some (.dK ks):=fun b hb=>(List.mem_append.mp hb).elim (h b) (r b)
theorem aC.there{K:W.Frag}{dl:Dl}{H:Hp}{v:V}{t:T}{F:List Addr}(h:aC K dl H v t F):∀ b∈F,(∃ xs,H b=some (.lst xs))\/∃ ks,H b=some (.dK ks) :=
 aC.rec (motive_1:=fun _ _ F _=>∀ b∈F,(∃ xs,H b=some (.lst xs))\/∃ ks,H b=some (.dK ks)) (motive_2:=fun _ _ F _=>∀ b∈F,(∃ xs,H b=some (.lst xs))\/∃ ks,H b=some (.dK ks)) (motive_3:=fun _ _ F _=>∀ b∈F,(∃ xs,H b=some (.lst xs))\/∃ ks,H b=some (.dK ks))
  bW (fun _=>bW) (fun _=>bW) (fun _=>bW) (fun _=>bW) (fun _ _ ih=>ih)
  (fun h _ ih b hb=>(List.mem_cons.mp hb).elim (fun e=>by rw[e];exact .inl ⟨_,h⟩) (ih b)) (fun h _ ih b hb=>(List.mem_cons.mp hb).elim (fun e=>by rw[e];exact .inr ⟨_,h⟩) (ih b))
  (fun _=>bW) (fun _=>bW) (fun _=>bW) (fun _ _ _=>bW) (fun _=>bW) (fun _ _ _=>bW)
  (fun _ _=>bW) (fun _ _ _=>bW) (fun h _ ih b hb=>(List.mem_cons.mp hb).elim (fun e=>by rw[e];exact .inr ⟨_,h⟩) (ih b)) (fun h _ ih b hb=>(List.mem_cons.mp hb).elim (fun e=>by rw[e];exact .inl ⟨_,h⟩) (ih b))
  bW (fun _ _ i1 i2=>km i1 i2) bW (fun _ _ i1 i2=>km i1 i2) h
theorem av.there{K:W.Frag}{dl:Dl}{H:Hp}{vs:List V}{ts:List T}{F:List Addr}(h:av K dl H vs ts F):∀ b∈F,(∃ xs,H b=some (.lst xs))\/∃ ks,H b=some (.dK ks):=h.ind (M:=fun _ _ F=>∀ b∈F,(∃ xs,H b=some (.lst xs))\/∃ ks,H b=some (.dK ks)) bW (fun _ _ _ _ _ _ h _ ih=>km h.there ih)
def Nd(dl:Dl)(b:Addr):Prop:=∀ p∈dl,b≠p.1/\b≠p.2
def Dls(dl:Dl)(H:Hp):Prop:=∀ p∈dl,ki H p.1 p.2
theorem Dls.nd{dl:Dl}{H:Hp}(D:Dls dl H){b:Addr}{o:HO}(h:H b=some o)(h1:∀ xs,o ≠ .lst xs)(h2:∀ ks,o ≠ .dK ks):Nd dl b:=fun p hp=>by
 obtain⟨s,n,ls,Q⟩:=D p hp;exact⟨iS h Q.hd (h2 _),iS h Q.hl (h1 _)⟩
theorem Dls.nd0{dl:Dl}{H:Hp}(D:Dls dl H){b:Addr}(h:H b=none):Nd dl b:=fun p hp=>by
 obtain⟨s,n,ls,Q⟩:=D p hp;exact⟨(aM Q.hd h).symm,(aM Q.hl h).symm⟩
def NR(o:HO):Prop:=∀ x,o ≠ .room x
structure Evo(dl:Dl)(H H':Hp):Prop where
 k:∀ b o,H b=some o->Nd dl b->NR o->H' b=some o
 d:Dls dl H'
 r:∀ a x,H a=some (.room x)->∃ y,y<=x/\H' a=some (.room y)
theorem NR.of{H:Hp}{b:Addr}{o:HO}(h:(∃ xs,H b=some (.lst xs))\/∃ ks,H b=some (.dK ks))(e:H b=some o):NR o:=fun x z=>by
 rcases h with⟨_,h⟩ |⟨_,h⟩
 ·rw[e,z]at h;cases h
 ·rw[e,z]at h;cases h
theorem Evo.refl{dl:Dl}{H:Hp}(D:Dls dl H):Evo dl H H:=⟨fun _ _ h _ _=>h,D,fun _ x h=>⟨x,Int.le_refl _,h⟩⟩
theorem Evo.trans{dl:Dl}{H H1 H2:Hp}(a:Evo dl H H1)(b:Evo dl H1 H2):Evo dl H H2:=⟨fun c o h n r=>b.k c o (a.k c o h n r) n r,b.d,fun c x h=>let⟨y,hy,e⟩:=a.r c x h;let⟨z,hz,e'⟩:=b.r c y e;⟨z,Int.le_trans hz hy,e'⟩⟩
theorem Evo.tf{dl:Dl}{H H':Hp}(e:Evo dl H H')(D:Dls dl H):TF H H' :=
 ⟨fun a vs h=>e.k a _ h (D.nd h (fun _ z=>nomatch z) fun _ z=>nomatch z) (fun _ z=>nomatch z),fun a o u h=>e.k a _ h (D.nd h (fun _ z=>nomatch z) fun _ z=>nomatch z) (fun _ z=>nomatch z),fun a φ h=>e.k a _ h (D.nd h (fun _ z=>nomatch z) fun _ z=>nomatch z) (fun _ z=>nomatch z),fun a xs h=>(by
  by_cases hn:Nd dl a
  ·exact⟨xs,e.k a _ h hn (fun _ z=>nomatch z)⟩
  ·unfold Nd at hn;obtain⟨p,hp,z⟩:∃ p∈dl,¬(a≠p.1/\a≠p.2):=Classical.byContradiction fun c=>hn fun p hp=>Classical.byContradiction fun z=>c ⟨p,hp,z⟩
   obtain⟨s,n,ls,Q⟩:=D p hp;obtain⟨s',n',ls',Q'⟩:=e.d p hp;have h1:a≠p.1:=iS h Q.hd (fun z=>nomatch z)
   have h2:a=p.2:=Classical.byContradiction fun z'=>z ⟨h1,z'⟩
   exact⟨_,by rw[h2];exact Q'.hl⟩),e.r⟩
theorem Evo.new{dl:Dl}{H H1:Hp}{p:Addr}{o:HO}(e:Evo dl H H1)(hp:H1 p=none):Evo dl H (upd H1 p o) :=
 ⟨fun c u h n r=>by rw[aj (aM (e.k c u h n r) hp)];exact e.k c u h n r,fun q hq=>(e.d q hq).new hp,fun c x h=>let⟨y,hy,e'⟩:=e.r c x h;⟨y,hy,by rw[aj (aM e' hp)];exact e'⟩⟩
theorem Evo.free{dl:Dl}{H H':Hp}(e:Evo dl H H'){p:Addr}(hp:H' p=none):H p=none:=by
 cases q:H p with
 | none=>rfl
 | some o =>
  by_cases hn:NR o
  ·rw[e.k p o q (e.d.nd0 hp) hn]at hp;cases hp
  ·obtain⟨x,hx⟩:∃ x,o = .room x:=Classical.byContradiction fun c=>hn fun x z=>c ⟨x,z⟩
   subst hx;obtain⟨y,_,e'⟩:=e.r p x q;rw[e']at hp;cases hp
structure Rp(K:W.Frag)(dl:Dl)(H:Hp)(v:V)(t:T)(F:List Addr):Prop where
 r:aC K dl H v t F
 n:∀ b∈F,Nd dl b
structure Rps(K:W.Frag)(dl:Dl)(H:Hp)(vs:List V)(ts:List T)(F:List Addr):Prop where
 r:av K dl H vs ts F
 n:∀ b∈F,Nd dl b
theorem Rp.evo{K:W.Frag}{dl:Dl}{H H':Hp}{v:V}{t:T}{F:List Addr}(h:Rp K dl H v t F)(D:Dls dl H)(e:Evo dl H H'):Rp K dl H' v t F :=
 ⟨h.r.cX (e.tf D) (fun _ q=>q) fun b hb o q=>e.k b o q (h.n b hb) (.of (h.r.there b hb) q),h.n⟩
theorem Rps.evo{K:W.Frag}{dl:Dl}{H H':Hp}{v:List V}{t:List T}{F:List Addr}(h:Rps K dl H v t F)(D:Dls dl H)(e:Evo dl H H'):Rps K dl H' v t F :=
 ⟨h.r.cX (e.tf D) (fun _ q=>q) fun b hb o q=>e.k b o q (h.n b hb) (.of (h.r.there b hb) q),h.n⟩
inductive Sl where
 | no|o (t:T)|r (t:T)
abbrev Sq:=List Sl
def Sl.get:Sl->Option T
 | .no=>none
 | .o t=>some t
 | .r t=>some t
structure RdR(K:W.Frag)(dl:Dl)(H:Hp)(σ:St)(q:Sq):Prop where
 d:Dls dl H
 g:∀(i:Nat)(x:Sl)(t:T),q[i]? = some x->x.get=some t->∃ v F,σ[i]? = some (some v)/\Rp K dl H v t F
theorem RdR.evo{K:W.Frag}{dl:Dl}{H H':Hp}{σ:St}{q:Sq}(h:RdR K dl H σ q)(e:Evo dl H H'):RdR K dl H' σ q :=
 ⟨e.d,fun i x t h1 h2=>let⟨v,F,h3,h4⟩:=h.g i x t h1 h2;⟨v,F,h3,h4.evo h.d e⟩⟩
abbrev QE:=Sq ->(T->Prop)->Prop
abbrev QT:=Sq ->(Bool->Prop)->Prop
abbrev QA:=Sq ->(List T->Prop)->Prop
def iP(K:W.Frag)(te:TE)(tq:QE):Prop:=∀(dl:Dl)(H:Hp)(σ:St)(q:Sq)(Q:T->Prop)(R:V->Hp->Prop),RdR K dl H σ q->tq q Q ->
 (∀ v t F H',Evo dl H H'->Rp K dl H' v t F->Q t->R v H')->te σ H R
def k9(K:W.Frag)(te:TE)(tq:QE):Prop:=∀(dl:Dl)(H:Hp)(σ:St)(q:Sq)(Q:T->Prop)(R:V->Hp->Prop),RdR K dl H σ q->tq q Q ->
 (∀ v t F H',Evo dl H H'->Rp K dl H' v t F ->(∀ b∈F,H b=none)->F.Nodup->Q t->R v H')->te σ H R
def k8(K:W.Frag)(te:TT)(tq:QT):Prop:=∀(dl:Dl)(H:Hp)(σ:St)(q:Sq)(Q:Bool->Prop)(R:Bool->Hp->Prop),RdR K dl H σ q->tq q Q ->
 (∀ b H',Evo dl H H'->Q b->R b H')->te σ H R
def Hm(K:W.Frag)(n:Nat)(te:TA)(tq:QA):Prop:=∀(dl:Dl)(H:Hp)(σ:St)(q:Sq)(Q:List T->Prop)(R:List V->Hp->Prop),RdR K dl H σ q->tq q Q ->
 (∀ vs ts F H',Evo dl H H'->Rps K dl H' vs ts F->vs.length=n->Q ts->R vs H')->te σ H R
def Jg(K:W.Frag)(n:Nat)(te:TA)(tq:QA):Prop:=∀(dl:Dl)(H:Hp)(σ:St)(q:Sq)(Q:List T->Prop)(R:List V->Hp->Prop),RdR K dl H σ q->tq q Q ->
 (∀ vs ts F H',Evo dl H H'->Rps K dl H' vs ts F->vs.length=n ->(∀ b∈F,H b=none)->F.Nodup->Q ts->R vs H')->te σ H R
structure QPE(X:Cx)(K:W.Frag)(e:Expr)(te:TE)(tq:QE):Prop where
 h:PE X e te
 s:iP K te tq
structure QPF(X:Cx)(K:W.Frag)(e:Expr)(te:TE)(tq:QE):Prop where
 h:PE X e te
 s:k9 K te tq
structure QPT(X:Cx)(K:W.Frag)(e:Expr)(te:TT)(tq:QT):Prop where
 h:PT X e te
 s:k8 K te tq
structure QPW(X:Cx)(K:W.Frag)(e:Expr)(te:TT)(tq:QT):Prop where
 h:PW X e te
 s:k8 K te tq
structure QPA(X:Cx)(K:W.Frag)(es:List Expr)(te:TA)(tq:QA):Prop where
 h:PA X es te
 s:Hm K es.length te tq
structure ax(X:Cx)(K:W.Frag)(es:List Expr)(te:TA)(tq:QA):Prop where
 h:PA X es te
 s:Jg K es.length te tq
section
variable{X:Cx}{K:W.Frag}{a b c e:Expr}{es rest:List Expr}{ta tb tc te:TE}{qa qb qc qe:QE}{tA tB:TT}{qA qB:QT}{tl:TA}{ql:QA}{pos:Pos}
theorem QPF.w(h:QPF X K e te qe):QPE X K e te qe:=⟨h.h,fun dl H σ q Q R rd hq k=>h.s dl H σ q Q R rd hq fun v t F H' e r _ _ z=>k v t F H' e r z⟩
mutual
def T.im:T->Bool
 | .t xs=>T.ims xs
 | .l _=>false
 | .d _=>false
 | .dp _ _=>false
 | .lp _ _=>false
 | _=>true
def T.ims:List T->Bool
 | []=>true
 | x::r=>x.im&&T.ims r
end
theorem vZ{F G:List Addr}{x y:Bool}(h:x=true->F = [])(r:y=true->G = [])(q:(x&&y)=true):F++G = []:=by rw[h (Bool.and_eq_true _ _▸q).1,r (Bool.and_eq_true _ _▸q).2];rfl
theorem aC.im{dl:Dl}{H:Hp}{v:V}{t:T}{F:List Addr}(h:aC K dl H v t F):t.im=true->F = [] :=
 aC.rec (motive_1:=fun _ t F _=>t.im=true->F = []) (motive_2:=fun _ t F _=>T.ims t=true->F = []) (motive_3:=fun _ _ _ _=>True)
  (fun _=>rfl) (fun _ _=>rfl) (fun _ _=>rfl) (fun _ _=>rfl) (fun _ _=>rfl) (fun _ _ ih=>ih) (fun _ _ _ h=>absurd h Bool.false_ne_true) (fun _ _ _ h=>absurd h Bool.false_ne_true)
  (fun _ _=>rfl) (fun _ _=>rfl) (fun _ _=>rfl) (fun _ _ _ _=>rfl) (fun _ _=>rfl) (fun _ _ _ _=>rfl) (fun _ _ _=>rfl) (fun _ _ _ _=>rfl) (fun _ _ _ h=>absurd h Bool.false_ne_true) (fun _ _ _ h=>absurd h Bool.false_ne_true) (fun _=>rfl) (fun _ _ i1 i2=>vZ i1 i2) trivial (fun _ _ _ _=>trivial) h
theorem av.im{dl:Dl}{H:Hp}{v:List V}{t:List T}{F:List Addr}(h:av K dl H v t F):T.ims t=true->F = []:=h.ind (M:=fun _ t F=>T.ims t=true->F = []) (fun _=>rfl) (fun _ _ _ _ _ _ h _ ih=>vZ h.im ih)
def qIm(qe:QE):QE:=fun q Q=>qe q fun t=>t.im=true/\Q t
theorem QPE.f(h:QPE X K e te qe):QPF X K e te (qIm qe):=⟨h.h,fun dl H σ q Q R rd hq k=>h.s dl H σ q _ R rd hq fun v t F H' e r ⟨z1,z2⟩=>by
 have f:=r.r.im z1;subst f;exact k v t [] H' e r (fun _ z=>nomatch z) List.nodup_nil z2⟩
def a4(i:Nat):QE:=fun q Q=>match q[i]? with
 | some (.o t)=>Q t
 | some (.r t)=>Q t
 | _=>False
theorem Cn(i:Nat):iP K (bS i) (a4 i):=by
 intro dl H σ q Q R rd hq k;unfold a4 at hq
 split at hq
 ·rename_i t e;obtain⟨v,F,h1,h2⟩:=rd.g i _ t e rfl;exact⟨v,h1,k v t F H (.refl rd.d) h2 hq⟩
 ·rename_i t e;obtain⟨v,F,h1,h2⟩:=rd.g i _ t e rfl;exact⟨v,h1,k v t F H (.refl rd.d) h2 hq⟩
 ·exact hq.elim
theorem qv(i:Nat){x:Str}{pos:Pos}(hN:X.N[i]? = some x:=by rfl)(hv:Vis X.env.scope x:=by first|exact Or.inl rfl|exact Or.inr (Or.inl rfl)|exact Or.inr (Or.inr rfl))(hd:(x ==("__debug__":Str))=false:=by decide)
  (hcd:(x ==("__classdict__":Str))=false:=by decide):QPE X K (.Name x pos) (bS i) (a4 i):=⟨Au hN hv hd hcd,Cn i⟩
def qC(t:T):QE:=fun _ Q=>Q t
theorem xa{v:V}{t:T}(h:∀ dl H,aC K dl H v t []):k9 K (tC v) (qC t):=fun dl H σ q Q R rd hq k=>k v t [] H (.refl rd.d) ⟨h dl H,fun _ z=>nomatch z⟩ (fun _ z=>nomatch z) List.nodup_nil hq
theorem ai{i j pos}:QPF X K (.Constant (.int i) j pos) (tC (.int i)) (qC (.i i)):=⟨br,xa fun _ _=>.i i⟩
theorem mO{b j pos}:QPF X K (.Constant (.bool b) j pos) (tC (.bl b)) (qC (.b b)):=⟨Ik,xa fun _ _=>.b b⟩
theorem mM{j pos}:QPF X K (.Constant .none j pos) (tC .non) (qC .n):=⟨Gq,xa fun _ _=>.n⟩
theorem bR{x j pos}:QPF X K (.Constant (.str x) j pos) (tC (.str x)) (qC (.s x)):=⟨cD,xa fun _ _=>.s x⟩
theorem i4{dl:Dl}{H:Hp}:∀(ws:List Str),av K dl H (ws.map V.str) (ws.map T.s) []
 | []=>.nil
 | w::r=>.cons (F:=[]) (.s w) (i4 r)
theorem mL{dl:Dl}{H:Hp}:∀(ws:List Int),av K dl H (ws.map V.int) (ws.map T.i) []
 | []=>.nil
 | w::r=>.cons (F:=[]) (.i w) (mL r)
abbrev Q2:=T->T ->(T->Prop)->Prop
def BW(K:W.Frag)(r:R2)(rq:Q2):Prop:=∀(dl:Dl)(H:Hp)(x y:V)(t u:T)(F G:List Addr)(Q:T->Prop)(R:V->Hp->Prop),Dls dl H->Rp K dl H x t F->Rp K dl H y u G->rq t u Q ->
 (∀ v z F' H',Evo dl H H'->Rp K dl H' v z F'->Q z->R v H')->r x y H R
def cy(K:W.Frag)(r:R2)(rq:Q2):Prop:=∀(dl:Dl)(H:Hp)(x y:V)(t u:T)(F G:List Addr)(Q:T->Prop)(R:V->Hp->Prop),Dls dl H->Rp K dl H x t F->Rp K dl H y u G->rq t u Q ->
 (∀ v z F' H',Evo dl H H'->Rp K dl H' v z F' ->(∀ b∈F',H b=none)->F'.Nodup->Q z->R v H')->r x y H R
theorem cy.w{r:R2}{rq:Q2}(h:cy K r rq):BW K r rq:=fun dl H x y t u F G Q R d a b hq k=>h dl H x y t u F G Q R d a b hq fun v z F' H' e r _ _ z'=>k v z F' H' e r z'
def qOp(rq:Q2)(qa qb:QE):QE:=fun q Q=>qa q fun t=>qb q fun u=>rq t u Q
theorem qE{r:R2}{rq:Q2}(ho:BW K r rq)(ha:iP K ta qa)(hb:iP K tb qb):iP K (tOp r ta tb) (qOp rq qa qb):=by
 intro dl H σ q Q R rd hq k;refine ha dl H σ q _ _ rd hq fun v t F H1 e1 r1 hq1=>?_
 refine hb dl H1 σ q _ _ (rd.evo e1) hq1 fun w u G H2 e2 r2 hq2=>?_
 exact ho dl H2 v w t u F G Q R e2.d (r1.evo e1.d e2) r2 hq2 fun v' z F' H3 e3 r3 hz=>k v' z F' H3 ((e1.trans e2).trans e3) r3 hz
theorem w6{r:R2}{rq:Q2}(ho:cy K r rq)(ha:iP K ta qa)(hb:iP K tb qb):k9 K (tOp r ta tb) (qOp rq qa qb):=by
 intro dl H σ q Q R rd hq k;refine ha dl H σ q _ _ rd hq fun v t F H1 e1 r1 hq1=>?_
 refine hb dl H1 σ q _ _ (rd.evo e1) hq1 fun w u G H2 e2 r2 hq2=>?_
 exact ho dl H2 v w t u F G Q R e2.d (r1.evo e1.d e2) r2 hq2 fun v' z F' H3 e3 r3 f3 n3 hz=>k v' z F' H3 ((e1.trans e2).trans e3) r3 (fun b hb=>(e1.trans e2).free (f3 b hb)) n3 hz
theorem qQ{op:Operator}{r:R2}{rq:Q2}(ho:OpR X (binaryOp op) r)(hs:cy K r rq)(ha:QPE X K a ta qa)(hb:QPE X K b tb qb):QPF X K (.BinOp a op b pos) (tOp r ta tb) (qOp rq qa qb):=⟨cj ho ha.h hb.h,w6 hs ha.s hb.s⟩
end
end L2
namespace L2
open PySem PySem.Spec PyProof.Rows
section
variable{X:Cx}{K:W.Frag}{dl:Dl}{H:Hp}{v:V}{F:List Addr}
def Ji(K:W.Frag)(dl:Dl)(H:Hp)(v:V)(F:List Addr):T->Prop
 | .n=>v = .non/\F = []
 | .b x=>v = .bl x/\F = []
 | .i x=>v = .int x/\F = []
 | .s x=>v = .str x/\F = []
 | .ty x=>v = .ty x
 | .t ts=>∃ a vs,v = .ref a/\H a=some (.tup vs)/\av K dl H vs ts F
 | .l ts=>∃ a vs G,v = .ref a/\F=a::G/\H a=some (.lst vs)/\av K dl H vs ts G
 | .d ts=>∃ a vs G,v = .ref a/\F=a::G/\H a=some (.dK vs)/\aK K dl H vs ts G
 | .cY=>∃ a l,v = .ref a/\(a,l)∈dl/\F = []
 | .z ns=>∃ a,v = .ref a/\FzL K H a (ns.map V.int)/\F = []
 | .k ws=>∃ a,v = .ref a/\(∀ H',SqT K H' a (ws.map V.str))/\F = []
 | .xc C ns ts=>∃ a b vs,v = .ref a/\F = []/\ExH H a C b (ns.zip vs)/\av K dl H vs ts []
 | .q=>True
 | .fd _ _ _=>True
 | .rm u=>∃ a x,v = .ref a/\H a=some (.room x)/\x<=u/\F = []
 | .ob C ns ts=>∃ a vs,v = .ref a/\F = []/\ObH H a C (ns.zip vs)/\av K dl H vs ts []
 | .dp a ts=>∃ vs G,v = .ref a/\F=a::G/\H a=some (.dK vs)/\aK K dl H vs ts G
 | .lp a ts=>∃ vs G,v = .ref a/\F=a::G/\H a=some (.lst vs)/\av K dl H vs ts G
theorem aC.inv{t:T}(h:aC K dl H v t F):Ji K dl H v F t :=
 aC.rec (motive_1:=fun v t F _=>Ji K dl H v F t) (motive_2:=fun _ _ _ _=>True) (motive_3:=fun _ _ _ _=>True) ⟨rfl,rfl⟩ (fun _=>⟨rfl,rfl⟩) (fun _=>⟨rfl,rfl⟩) (fun _=>⟨rfl,rfl⟩) (fun _=>rfl)
  (fun h r _=>⟨_,_,rfl,h,r⟩) (fun h r _=>⟨_,_,_,rfl,rfl,h,r⟩) (fun h r _=>⟨_,_,_,rfl,rfl,h,r⟩) (fun h=>⟨_,_,rfl,h,rfl⟩) (fun h=>⟨_,rfl,h,rfl⟩) (fun _=>trivial) (fun _ _ _=>trivial) (fun h=>⟨_,rfl,h,rfl⟩) (fun h r _=>⟨_,_,_,rfl,rfl,h,r⟩) (fun h hx=>⟨_,_,rfl,h,hx,rfl⟩) (fun h r _=>⟨_,_,rfl,rfl,h,r⟩) (fun h r _=>⟨_,_,rfl,rfl,h,r⟩) (fun h r _=>⟨_,_,rfl,rfl,h,r⟩)
  trivial (fun _ _ _ _=>trivial) trivial (fun _ _ _ _=>trivial) h
theorem aC.int{x:Int}(h:aC K dl H v (.i x) F):v = .int x/\F = []:=h.inv
theorem aC.str{x:Str}(h:aC K dl H v (.s x) F):v = .str x/\F = []:=h.inv
theorem aC.bl{x:Bool}(h:aC K dl H v (.b x) F):v = .bl x/\F = []:=h.inv
theorem aC.non(h:aC K dl H v .n F):v = .non/\F = []:=h.inv
theorem aC.tup{ts:List T}(h:aC K dl H v (.t ts) F):∃ a vs,v = .ref a/\H a=some (.tup vs)/\av K dl H vs ts F:=h.inv
theorem aC.lst{ts:List T}(h:aC K dl H v (.l ts) F):∃ a vs G,v = .ref a/\F=a::G/\H a=some (.lst vs)/\av K dl H vs ts G:=h.inv
theorem aC.dic{ts:List (Key×T)}(h:aC K dl H v (.d ts) F):∃ a vs G,v = .ref a/\F=a::G/\H a=some (.dK vs)/\aK K dl H vs ts G:=h.inv
theorem aC.roo{u:Int}(h:aC K dl H v (.rm u) F):∃ a x,v = .ref a/\H a=some (.room x)/\x<=u/\F = []:=h.inv
theorem aC.obj{C:Addr}{ns:List Str}{ts:List T}(h:aC K dl H v (.ob C ns ts) F):∃ a vs,v = .ref a/\F = []/\ObH H a C (ns.zip vs)/\av K dl H vs ts []:=h.inv
theorem aC.dpp{a:Addr}{ts:List (Key×T)}(h:aC K dl H v (.dp a ts) F):∃ vs G,v = .ref a/\F=a::G/\H a=some (.dK vs)/\aK K dl H vs ts G:=h.inv
theorem aC.lpp{a:Addr}{ts:List T}(h:aC K dl H v (.lp a ts) F):∃ vs G,v = .ref a/\F=a::G/\H a=some (.lst vs)/\av K dl H vs ts G:=h.inv
theorem aC.dea(h:aC K dl H v .cY F):∃ a l,v = .ref a/\(a,l)∈dl/\F = []:=h.inv
theorem aC.scr{ns:List Int}(h:aC K dl H v (.z ns) F):∃ a,v = .ref a/\FzL K H a (ns.map V.int)/\F = []:=h.inv
theorem aC.kst{ws:List Str}(h:aC K dl H v (.k ws) F):∃ a,v = .ref a/\(∀ H',SqT K H' a (ws.map V.str))/\F = []:=h.inv
theorem av.len{vs:List V}{ts:List T}{F:List Addr}(h:av K dl H vs ts F):vs.length=ts.length:=h.ind (M:=fun vs ts _=>vs.length=ts.length) rfl fun _ _ _ _ _ _ _ _ ih=>congrArg (· + 1) ih
theorem aK.len{vs:List (Key×V)}{ts:List (Key×T)}{F:List Addr}(h:aK K dl H vs ts F):vs.length=ts.length:=h.ind (M:=fun vs ts _=>vs.length=ts.length) rfl fun _ _ _ _ _ _ _ _ _ ih=>congrArg (· + 1) ih
theorem av.Hg{vs:List V}{ts:List T}{F:List Addr}{i:Nat}{t:T}(h:av K dl H vs ts F)(e:ts[i]? = some t):∃ v G,vs[i]? = some v/\aC K dl H v t G/\G.Sublist F :=
 h.ind (M:=fun vs ts F=>∀(i:Nat)(t:T),ts[i]? = some t->∃ v G,vs[i]? = some v/\aC K dl H v t G/\G.Sublist F) (fun _ _ e=>nomatch e) (fun v x vs ts F G h _ ih i t e=>by
  cases i with
  | zero=>cases e;exact⟨v,F,rfl,h,List.sublist_append_left _ _⟩
  | succ i =>
   obtain⟨w,G',h1,h2,h3⟩:=ih i t e;exact⟨w,G',h1,h2,h3.trans (List.sublist_append_right _ _)⟩) i t e
theorem av.get{vs:List V}{ts:List T}{F:List Addr}{i:Nat}{t:T}(h:av K dl H vs ts F)(e:ts[i]? = some t):∃ v G,vs[i]? = some v/\aC K dl H v t G/\∀ b∈G,b∈F :=
 Exists.elim (h.Hg e) fun v z=>Exists.elim z fun G z=>⟨v,G,z.1,z.2.1,fun _ hb=>z.2.2.subset hb⟩
theorem av.append{vs ws:List V}{ts us:List T}{F G:List Addr}(h:av K dl H vs ts F)(h2:av K dl H ws us G):av K dl H (vs++ws) (ts++us) (F++G) :=
 h.ind (M:=fun vs ts F=>av K dl H (vs++ws) (ts++us) (F++G)) h2 fun _ _ _ _ _ _ h _ ih=>by rw[List.append_assoc];exact .cons h ih
theorem av.fY{vs:List V}{ts:List T}(h:av K dl H vs ts F):vs = [] ↔ ts = []:=by
 cases h with
 | nil=>simp
 | cons _ _=>simp
theorem av.drop:∀{vs:List V}{ts:List T}{F:List Addr}(n:Nat),av K dl H vs ts F->∃ G,av K dl H (vs.drop n) (ts.drop n) G/\G.Sublist F
 | _,_,F,0,h=>⟨F,h,List.Sublist.refl _⟩
 | _,_,_,_+1,.nil=>⟨[],.nil,List.Sublist.refl _⟩
 | _,_,_,n+1,.cons (F:=F1) h r=>by
  obtain⟨G,h1,h2⟩:=av.drop n r;exact⟨G,h1,h2.trans (List.sublist_append_right _ _)⟩
theorem av.take:∀{vs:List V}{ts:List T}{F:List Addr}(n:Nat),av K dl H vs ts F->∃ G,av K dl H (vs.take n) (ts.take n) G/\G.Sublist F
 | _,_,F,0,h=>⟨[],.nil,List.nil_sublist _⟩
 | _,_,_,_+1,.nil=>⟨[],.nil,List.Sublist.refl _⟩
 | _,_,_,n+1,.cons (F:=F1) h r=>by
  obtain⟨G,h1,h2⟩:=av.take n r;exact⟨_,.cons h h1,h2.append_left _⟩
theorem Rp.sub{t:T}{F G:List Addr}(r:aC K dl H v t G)(n:∀ b∈F,Nd dl b)(h:∀ b∈G,b∈F):Rp K dl H v t G:=⟨r,fun b hb=>n b (h b hb)⟩
theorem Rp.c{t:T}(r:aC K dl H v t []):Rp K dl H v t []:=⟨r,fun _ z=>nomatch z⟩
theorem Rps.tup{vs:List V}{ts:List T}{p:Addr}(h:Rps K dl H vs ts F)(D:Dls dl H)(hp:H p=none):Rp K dl (upd H p (.tup vs)) (.ref p) (.t ts) F :=
 have h2:=h.evo D ((Evo.refl D).new (o:=.tup vs) hp)
 ⟨.t au h2.r,h2.n⟩
theorem Rps.lst{vs:List V}{ts:List T}{p:Addr}(h:Rps K dl H vs ts F)(D:Dls dl H)(hp:H p=none):Rp K dl (upd H p (.lst vs)) (.ref p) (.l ts) (p::F) :=
 have h2:=h.evo D ((Evo.refl D).new (o:=.lst vs) hp)
 ⟨.l au h2.r,fun b hb=>by
  rcases List.mem_cons.mp hb with e|hb
  ·rw[e];exact D.nd0 hp
  ·exact h2.n b hb⟩
theorem Rps.fresh{vs:List V}{ts:List T}{p:Addr}(h:Rps K dl H vs ts F)(hp:H p=none)(hn:F.Nodup):(p::F).Nodup:=List.nodup_cons.mpr ⟨fun z=>(by
 rcases h.r.there p z with⟨_,e⟩ |⟨_,e⟩
 ·rw[hp]at e;cases e
 ·rw[hp]at e;cases e),hn⟩
def qII(C:Int->Int->Prop)(g:Int->Int->T):Q2:=fun t u Q=>match t,u with
 | .i a,.i b=>C a b/\Q (g a b)
 | _,_=>False
theorem E5{C:Int->Int->Prop}{g:Int->Int->V}{g':Int->Int->T}(hg:∀ a b dl H,aC K dl H (g a b) (g' a b) []):cy K (rI C g) (qII C g'):=by
 intro dl H x y t u F G Q R D r1 r2 hq k;unfold qII at hq
 split at hq
 ·obtain⟨rfl,rfl⟩:=r1.r.int;obtain⟨rfl,rfl⟩:=r2.r.int;exact⟨_,_,rfl,rfl,hq.1,k _ _ [] H (.refl D) (.c (hg _ _ _ _)) (fun _ z=>nomatch z) List.nodup_nil hq.2⟩
 ·exact hq.elim
def qI0(g:Int->Int->T):Q2:=fun t u Q=>match t,u with
 | .i a,.i b=>Q (g a b)
 | _,_=>False
theorem qH{g:Int->Int->V}{g':Int->Int->T}(hg:∀ a b dl H,aC K dl H (g a b) (g' a b) []):cy K (rI0 g) (qI0 g'):=by
 intro dl H x y t u F G Q R D r1 r2 hq k;unfold qI0 at hq
 split at hq
 ·obtain⟨rfl,rfl⟩:=r1.r.int;obtain⟨rfl,rfl⟩:=r2.r.int;exact⟨_,_,rfl,rfl,k _ _ [] H (.refl D) (.c (hg _ _ _ _)) (fun _ z=>nomatch z) List.nodup_nil hq⟩
 ·exact hq.elim
theorem Df:OpR X (binaryOp .Add) (fun x y H Q=>∃ a b xs ys,x = .ref a/\y = .ref b/\SqT X.K H a xs/\SqT X.K H b ys/\xs.length+ys.length<=sizeLine /\
  (xs = []->Q (.ref b) H)/\(xs ≠ []->ys = []->Q (.ref a) H)/\(xs ≠ []->ys ≠ []->∀ p,H p=none->Q (.ref p) (upd H p (.tup (xs++ys))))):=by
 intro pins s σ H x y v u Q I rx ry h;obtain⟨a,b,xs,ys,rfl,rfl,ha,hb,hz,q0,q1,q2⟩:=h;by_cases hx:xs = []
 ·cases rx;cases ry;obtain⟨its,r1,p1,_⟩:=I.tuple ha;obtain⟨dP,r2,p2,_⟩:=I.tuple hb;have e:its = []:=r1.fY.mpr hx;subst e;obtain⟨⟨cls,dd,data,sl⟩,ho,hc,n,hd⟩:=id p1;obtain⟨⟨JZ,dd2,data2,sl2⟩,ho2,hc2,n2,hd2⟩:=id p2;simp only at hc hd hc2 hd2;subst hc hd hc2 hd2;exact concat_meets ⟨_,ho,rfl⟩ ⟨_,ho2,rfl⟩ noFill_tuple_add seq_tuple_add PySem.F.slot_tuple_add PySem.F.entry_tuple_add (PySem.F.args_tuple_add_2 _ _)
   (tuple_addW0 a b ([]:List Value).toArray dP.toArray n n2 dd dd2 sl sl2 (by simp)) ⟨ho,ho2,⟨.ref b,H,I,rfl,q0 hx⟩⟩
 ·exact Dg pins s σ H _ _ v u Q I rx ry ⟨a,b,xs,ys,rfl,rfl,ha,hb,hx,hz,q1 hx,q2 hx⟩
def zX(K:W.Frag):R2:=fun x y H Q=>rI0 (fun i j=>.int (i+j)) x y H Q\/(∃ i j,x = .str i/\y = .str j/\i.length+j.length<=sizeLine/\Q (.str (i++j)) H)\/HR x y H Q \/
 (∃ a b xs ys,x = .ref a/\y = .ref b/\SqT K H a xs/\SqT K H b ys/\xs.length+ys.length<=sizeLine /\
  (xs = []->Q (.ref b) H)/\(xs ≠ []->ys = []->Q (.ref a) H)/\(xs ≠ []->ys ≠ []->∀ p,H p=none->Q (.ref p) (upd H p (.tup (xs++ys)))))
theorem Dh(hK:X.K=K):OpR X (binaryOp .Add) (zX K):=by subst hK;exact kI.or (vw.or (GB.or Df))
def yq:Q2:=fun t u Q=>match t,u with
 | .i a,.i b=>Q (.i (a+b))
 | .s a,.s b=>a.length+b.length<=sizeLine/\Q (.s (a++b))
 | .l a,.l b=>a.length+b.length<=sizeLine/\T.ims a=true/\T.ims b=true/\Q (.l (a++b))
 | .t a,.t b=>a.length+b.length<=sizeLine/\T.ims a=true/\T.ims b=true/\Q (.t (a++b))
 | _,_=>False
theorem Cw:cy K (zX K) yq:=by
 intro dl H x y t u F G Q R D r1 r2 hq k;have no:∀ b:Addr,b∈([]:List Addr)->H b=none:=fun _ z=>nomatch z
 unfold yq at hq
 split at hq
 ·obtain⟨rfl,rfl⟩:=r1.r.int;obtain⟨rfl,rfl⟩:=r2.r.int;exact .inl ⟨_,_,rfl,rfl,k _ _ [] H (.refl D) (.c (.i _)) no List.nodup_nil hq⟩
 ·obtain⟨rfl,rfl⟩:=r1.r.str;obtain⟨rfl,rfl⟩:=r2.r.str;exact .inr (.inl ⟨_,_,rfl,rfl,hq.1,k _ _ [] H (.refl D) (.c (.s _)) no List.nodup_nil hq.2⟩)
 ·obtain⟨a,vs,F1,rfl,rfl,h1,s1⟩:=r1.r.lst;obtain⟨b,ws,G1,rfl,rfl,h2,s2⟩:=r2.r.lst;obtain rfl:=s1.im hq.2.1;obtain rfl:=s2.im hq.2.2.1;refine .inr (.inr (.inl ⟨a,b,vs,ws,rfl,rfl,h1,h2,by rw[s1.len,s2.len];exact hq.1,fun p hp=>?_⟩))
  have rs:Rps K dl H (vs++ws) _ ([] ++ []):=⟨s1.append s2,fun c hc=>nomatch hc⟩
  exact k _ _ _ _ ((Evo.refl D).new hp) (rs.lst D hp) (fun b hb=>by rw[List.mem_singleton.mp hb];exact hp) (by simp) hq.2.2.2
 ·obtain⟨a,vs,rfl,h1,s1⟩:=r1.r.tup;obtain⟨b,ws,rfl,h2,s2⟩:=r2.r.tup;obtain rfl:=s1.im hq.2.1;obtain rfl:=s2.im hq.2.2.1;refine .inr (.inr (.inr ⟨a,b,vs,ws,rfl,rfl,SqT.of h1,SqT.of h2,by rw[s1.len,s2.len];exact hq.1,fun e=>?_,fun e1 e2=>?_,fun _ _ p hp=>?_⟩))
  ·refine k _ _ [] H (.refl D) r2 no List.nodup_nil ?_;have z:=s1.fY.mp e;subst z;exact hq.2.2.2
  ·refine k _ _ [] H (.refl D) r1 no List.nodup_nil ?_;have z:=s2.fY.mp e2;subst z;have hq2:=hq.2.2.2;rw[List.append_nil]at hq2;exact hq2
  ·have rs:Rps K dl H (vs++ws) _ ([] ++ []):=⟨s1.append s2,fun c hc=>nomatch hc⟩
   exact k _ _ _ _ ((Evo.refl D).new hp) (rs.tup D hp) no List.nodup_nil hq.2.2.2
 ·exact hq.elim
def F9:Q2:=fun t u Q=>match t,u with
 | .i a,.i b=>B0 a b/\Q (.i (a*b))
 | .s a,.i b=>0<=b/\b<=1000/\a.length<=1000/\Q (.s (gG a b.toNat))
 | _,_=>False
def zU:R2:=fun x y H Q=>rI B0 (fun i j=>.int (i*j)) x y H Q\/(∃ z n,x = .str z/\y = .int n/\0<=n/\n<=1000/\z.length<=1000/\Q (.str (gG z n.toNat)) H)
theorem De:OpR X (binaryOp .Mult) zU:=i7.or vt
theorem Cs:cy K zU F9:=by
 intro dl H x y t u F G Q R D r1 r2 hq k;unfold F9 at hq
 split at hq
 ·obtain⟨rfl,rfl⟩:=r1.r.int;obtain⟨rfl,rfl⟩:=r2.r.int;exact .inl ⟨_,_,rfl,rfl,hq.1,k _ _ [] H (.refl D) (.c (.i _)) (fun _ z=>nomatch z) List.nodup_nil hq.2⟩
 ·obtain⟨rfl,rfl⟩:=r1.r.str;obtain⟨rfl,rfl⟩:=r2.r.int;exact .inr ⟨_,_,rfl,rfl,hq.1,hq.2.1,hq.2.2.1,k _ _ [] H (.refl D) (.c (.s _)) (fun _ z=>nomatch z) List.nodup_nil hq.2.2.2⟩
 ·exact hq.elim
end
section
variable{X:Cx}{K:W.Frag}{a b:Expr}{ta tb:TE}{qa qb:QE}{pos:Pos}
theorem bT(ha:QPE X K a ta qa)(hb:QPE X K b tb qb)(hK:X.K=K:=by rfl):QPF X K (.BinOp a .Add b pos) (tOp (zX K) ta tb) (qOp yq qa qb):=qQ (Dh hK) Cw ha hb
theorem vi(ha:QPE X K a ta qa)(hb:QPE X K b tb qb):QPF X K (.BinOp a .Mult b pos) (tOp zU ta tb) (qOp F9 qa qb):=qQ De Cs ha hb
theorem vj(ha:QPE X K a ta qa)(hb:QPE X K b tb qb):QPF X K (.BinOp a .Mod b pos) (tOp (rI (fun _ j=>0<j) fun i j=>.int (i % j)) ta tb) (qOp (qII (fun _ j=>0<j) fun i j=>.i (i % j)) qa qb):=qQ fV (E5 fun _ _ _ _=>.i _) ha hb
theorem CQ(ha:QPE X K a ta qa)(hb:QPE X K b tb qb):QPF X K (.BinOp a .FloorDiv b pos) (tOp (rI B1 fun i j=>.int (i / j)) ta tb) (qOp (qII B1 fun i j=>.i (i / j)) qa qb):=qQ uf (E5 fun _ _ _ _=>.i _) ha hb
end
section
variable{X:Cx}{K:W.Frag}{a b c e:Expr}{es rest:List Expr}{ta tb tc te:TE}{qa qb qc qe:QE}{tA tB:TT}{qA qB:QT}{tl:TA}{ql:QA}{pos:Pos}
def T.v:T->V
 | .n=>.non | .b x=>.bl x | .i x=>.int x | .s x=>.str x | _=>.ty ""
def T.fl:T->Bool
 | .n=>true | .b _=>true | .i _=>true | .s _=>true | _=>false
theorem aC.v{dl:Dl}{H:Hp}{v:V}{t:T}{F:List Addr}(h:aC K dl H v t F)(f:t.fl=true):v=t.v/\F = []:=by
 cases h <;> first|exact⟨rfl,rfl⟩|exact absurd (show false=true from f) Bool.false_ne_true
def qEq:Q2:=fun t u Q=>(t.fl&&u.fl&&Cz t.v u.v)=true/\Q (.b (decide (t.v=u.v)))
def qNe:Q2:=fun t u Q=>(t.fl&&u.fl&&Cz t.v u.v)=true/\Q (.b (!decide (t.v=u.v)))
theorem FP:cy K rEq qEq:=by
 intro dl H x y t u F G Q R D r1 r2 hq k;obtain⟨h,hq⟩:=hq;rw[Bool.and_eq_true,Bool.and_eq_true]at h;obtain⟨rfl,rfl⟩:=r1.r.v h.1.1;obtain⟨rfl,rfl⟩:=r2.r.v h.1.2;exact⟨h.2,k _ _ [] H (.refl D) (.c (.b _)) (fun _ z=>nomatch z) List.nodup_nil hq⟩
theorem mH:cy K rNe qNe:=by
 intro dl H x y t u F G Q R D r1 r2 hq k;obtain⟨h,hq⟩:=hq;rw[Bool.and_eq_true,Bool.and_eq_true]at h;obtain⟨rfl,rfl⟩:=r1.r.v h.1.1;obtain⟨rfl,rfl⟩:=r2.r.v h.1.2;exact⟨h.2,k _ _ [] H (.refl D) (.c (.b _)) (fun _ z=>nomatch z) List.nodup_nil hq⟩
def yp(neg:Bool):Q2:=fun t u Q=>match u with
 | .n=>Q (.b (match t with | .n=>!neg | _=>neg))
 | _=>False
theorem Cu:cy K (fun x y H Q=>y = .non/\Q (.bl (decide (x = .non))) H) (yp false):=by
 intro dl H x y t u F G Q R D r1 r2 hq k;unfold yp at hq
 split at hq
 ·obtain⟨rfl,rfl⟩:=r2.r.non;refine⟨rfl,k _ _ [] H (.refl D) (.c (.b _)) (fun _ z=>nomatch z) List.nodup_nil ?_⟩
  cases r1.r <;> exact hq
 ·exact hq.elim
theorem mG:cy K (fun x y H Q=>y = .non/\Q (.bl (!decide (x = .non))) H) (yp true):=by
 intro dl H x y t u F G Q R D r1 r2 hq k;unfold yp at hq
 split at hq
 ·obtain⟨rfl,rfl⟩:=r2.r.non;refine⟨rfl,k _ _ [] H (.refl D) (.c (.b _)) (fun _ z=>nomatch z) List.nodup_nil ?_⟩
  cases r1.r <;> exact hq
 ·exact hq.elim
def inT(x:T)(xs:List T):Bool:=xs.any fun y=>eqV y.v x.v
def fls(xs:List T):Bool:=xs.all T.fl
theorem av.vs{dl:Dl}{H:Hp}{vs:List V}{ts:List T}{F:List Addr}(h:av K dl H vs ts F):fls ts=true->vs=ts.map T.v/\F = [] :=
 h.ind (M:=fun vs ts F=>fls ts=true->vs=ts.map T.v/\F = []) (fun _=>⟨rfl,rfl⟩) fun _ _ _ _ _ _ h _ ih f=>by
  have f:(_&&_)=true:=f;rw[Bool.and_eq_true]at f;obtain⟨rfl,rfl⟩:=h.v f.1;obtain⟨rfl,rfl⟩:=ih f.2;exact⟨rfl,rfl⟩
theorem je{ts:List T}(f:fls ts=true):(ts.map T.v).all dM=true:=by
 rw[List.all_eq_true];intro x hx;obtain⟨t,ht,rfl⟩:=List.mem_map.mp hx
 have:=List.all_eq_true.mp f t ht
 cases t <;> first|rfl|exact absurd this Bool.false_ne_true
theorem Ee{t:T}(f:t.fl=true):dM t.v=true:=by cases t <;> first|rfl|exact absurd f Bool.false_ne_true
def CH(K:W.Frag)(neg:Bool):R2:=fun x y H Q=>rIn K neg x y H Q\/∃ i j,x = .str i/\y = .str j/\Q (.bl (if neg then !(!(Builtin.Str.occurrences j i 0 j.length 1).isEmpty)else !(Builtin.Str.occurrences j i 0 j.length 1).isEmpty)) H
theorem Gy(hK:X.K=K):OpR X (compareOp .In) (CH K false):=by subst hK;exact yy.or yx
theorem yw(hK:X.K=K):OpR X (compareOp .NotIn) (CH K true):=by subst hK;exact rj.or rg
def qIn(neg:Bool):Q2:=fun t u Q=>match u with
 | .l xs=>(t.fl&&fls xs)=true/\Q (.b (if neg then !inT t xs else inT t xs))
 | .t xs=>(t.fl&&fls xs)=true/\Q (.b (if neg then !inT t xs else inT t xs))
 | .k ws=>match t with
  | .s y=>Q (.b (if neg then !inT (.s y) (ws.map T.s)else inT (.s y) (ws.map T.s)))
  | _=>False
 | .s z=>match t with
  | .s y=>Q (.b (if neg then !(!(Builtin.Str.occurrences z y 0 z.length 1).isEmpty)else !(Builtin.Str.occurrences z y 0 z.length 1).isEmpty))
  | _=>False
 | _=>False
theorem zC{neg:Bool}:cy K (CH K neg) (qIn neg):=by
 intro dl H x y t u F G Q R D r1 r2 hq k;have go:∀(xs:List T)(p:Addr)(vs:List V),y = .ref p ->(SqL K H p vs\/SqT K H p vs) ->(∃ G,av K dl H vs xs G) ->(t.fl&&fls xs)=true/\Q (.b (if neg then !inT t xs else inT t xs))->CH K neg x y H R:=by
  rintro xs p vs rfl hs ⟨G,rs⟩ ⟨f,hq⟩
  rw[Bool.and_eq_true]at f;obtain⟨rfl,rfl⟩:=r1.r.v f.1;obtain⟨rfl,_⟩:=rs.vs f.2;refine .inl ⟨p,_,rfl,hs,Ee f.1,je f.2,k _ (.b _) [] H (.refl D) (.c (.b _)) (fun _ z=>nomatch z) List.nodup_nil ?_⟩
  have e:inV t.v (xs.map T.v)=inT t xs:=by unfold inV inT;rw[List.any_map];rfl
  rw[e];exact hq
 unfold qIn at hq
 split at hq
 ·obtain⟨p,vs,G,rfl,_,h1,h2⟩:=r2.r.lst;exact go _ p vs rfl (.inl (SqL.of h1)) ⟨_,h2⟩ hq
 ·obtain⟨p,vs,rfl,h1,h2⟩:=r2.r.tup;exact go _ p vs rfl (.inr (SqT.of h1)) ⟨_,h2⟩ hq
 ·split at hq
  ·obtain⟨p,rfl,h1,_⟩:=r2.r.kst;refine go _ p _ rfl (.inr (h1 H)) ⟨_,i4 _⟩ ⟨?_,hq⟩;rw[Bool.and_eq_true];refine⟨rfl,?_⟩;unfold fls;rw[List.all_map,List.all_eq_true];exact fun _ _=>rfl
  ·exact hq.elim
 ·split at hq
  ·obtain⟨rfl,rfl⟩:=r1.r.str;obtain⟨rfl,rfl⟩:=r2.r.str;exact .inr ⟨_,_,rfl,rfl,k _ _ [] H (.refl D) (.c (.b _)) (fun _ z=>nomatch z) List.nodup_nil hq⟩
  ·exact hq.elim
 ·exact hq.elim
theorem vk{op:CmpOp}{r:R2}{rq:Q2}(ho:OpR X (compareOp op) r)(hs:cy K r rq)(hm:behindInMarks op b=false)(ha:QPE X K a ta qa)(hb:QPE X K b tb qb):QPF X K (.Compare a [op] [b] pos) (tOp r ta tb) (qOp rq qa qb) :=
 ⟨Dd ho ha.h hb.h hm,w6 hs ha.s hb.s⟩
def tY(qe:QE):QT:=fun q Q=>qe q fun t=>match t with
 | .b x=>Q x
 | _=>False
theorem zx(h:iP K te qe):k8 K (ze te) (tY qe):=by
 intro dl H σ q Q R rd hq k;refine h dl H σ q _ _ rd hq fun v t F H' e r hz=>?_
 split at hz
 ·obtain⟨rfl,rfl⟩:=r.r.bl;exact⟨_,rfl,k _ H' e hz⟩
 ·exact hz.elim
theorem aQ{op:CmpOp}{r:R2}{rq:Q2}(ho:OpR X (compareOp op) r)(hs:cy K r rq)(hm:behindInMarks op b=false)(ha:QPE X K a ta qa)(hb:QPE X K b tb qb):QPT X K (.Compare a [op] [b] pos) (ze (tOp r ta tb)) (tY (qOp rq qa qb)) :=
 ⟨jA ho ha.h hb.h hm,zx (qE hs.w ha.s hb.s)⟩
def HS(qe:QE):QT:=fun q Q=>qe q fun t=>match t with
 | .b x=>Q x
 | .n=>Q false
 | .i x=>Q (x != 0)
 | .s x=>x.length<=sizeLine/\Q ((x.length:Int) != 0)
 | .l xs=>Q (!xs.isEmpty)
 | .t xs=>Q (!xs.isEmpty)
 | .d xs=>Q (!xs.isEmpty)
 | _=>False
theorem Cp(h:iP K te qe):k8 K (fun σ H Q=>te σ H fun x H'=>∃ k,ES K x H' k/\Q k H') (HS qe):=by
 intro dl H σ q Q R rd hq k;refine h dl H σ q _ _ rd hq fun v t F H' e r hz=>?_
 have emp:∀{α β:Type}{xs:List α}{ys:List β},xs.length=ys.length ->(!xs.isEmpty) = !ys.isEmpty:=fun{α β xs ys} h=>by
  cases xs <;> cases ys <;> first|rfl |(simp at h)
 split at hz
 ·obtain⟨rfl,rfl⟩:=r.r.bl;exact⟨_,rfl,k _ H' e hz⟩
 ·obtain⟨rfl,rfl⟩:=r.r.non;exact⟨_,rfl,k _ H' e hz⟩
 ·obtain⟨rfl,rfl⟩:=r.r.int;exact⟨_,rfl,k _ H' e hz⟩
 ·obtain⟨rfl,rfl⟩:=r.r.str;exact⟨_,⟨hz.1,rfl⟩,k _ H' e hz.2⟩
 ·obtain⟨p,vs,G,rfl,_,h1,h2⟩:=r.r.lst;exact⟨_,.inl ⟨vs,SqL.of h1,rfl⟩,k _ H' e (by rw[emp h2.len];exact hz)⟩
 ·obtain⟨p,vs,rfl,h1,h2⟩:=r.r.tup;exact⟨_,.inr (.inl ⟨vs,SqT.of h1,rfl⟩),k _ H' e (by rw[emp h2.len];exact hz)⟩
 ·obtain⟨p,vs,G,rfl,_,h1,h2⟩:=r.r.dic;exact⟨_,.inr (.inr ⟨vs,h1,rfl⟩),k _ H' e (by rw[emp h2.len];exact hz)⟩
 ·exact hz.elim
theorem zY(h:QPE X K e te qe)(he:∀ whole,isTrue e X.env whole =(do let v <- whole;standAt e.pos;holding [v] (truthy v)):=by intro _;rfl)(hK:X.K=K:=by rfl) :
  QPT X K e (fun σ H Q=>te σ H fun x H'=>∃ k,ES K x H' k/\Q k H') (HS qe):=⟨by subst hK;exact Ak h.h he,Cp h.s⟩
def Ia(t u:QT):QT:=fun q Q=>t q fun c=>if c=true then u q Q else Q false
def qOr(t u:QT):QT:=fun q Q=>t q fun c=>if c=true then Q true else u q Q
theorem Cv(h:k8 K tA qA)(h2:k8 K tB qB):k8 K (FG tA tB) (Ia qA qB):=fun dl H σ q Q R rd hq k=>h dl H σ q _ _ rd hq fun b H' e hz=>by
 cases b with
 | false=>exact k _ H' e hz
 | true=>exact h2 dl H' σ q Q R (rd.evo e) hz fun c H2 e2 z=>k c H2 (e.trans e2) z
theorem FN(h:k8 K tA qA)(h2:k8 K tB qB):k8 K (tOr tA tB) (qOr qA qB):=fun dl H σ q Q R rd hq k=>h dl H σ q _ _ rd hq fun b H' e hz=>by
 cases b with
 | true=>exact k _ H' e hz
 | false=>exact h2 dl H' σ q Q R (rd.evo e) hz fun c H2 e2 z=>k c H2 (e.trans e2) z
theorem iF(h:QPT X K a tA qA):QPW X K (.BoolOp .And [a] pos) tA qA:=⟨xm h.h,h.s⟩
theorem vg(h:QPT X K a tA qA):QPW X K (.BoolOp .Or [a] pos) tA qA:=⟨Gf h.h,h.s⟩
theorem kD(h:QPT X K a tA qA)(h2:QPW X K (.BoolOp .And (b::rest) pos) tB qB):QPW X K (.BoolOp .And (a::b::rest) pos) (FG tA tB) (Ia qA qB):=⟨Ai h.h h2.h,Cv h.s h2.s⟩
theorem xh(h:QPT X K a tA qA)(h2:QPW X K (.BoolOp .Or (b::rest) pos) tB qB):QPW X K (.BoolOp .Or (a::b::rest) pos) (tOr tA tB) (qOr qA qB):=⟨Ib h.h h2.h,FN h.s h2.s⟩
theorem QPW.pt(h:QPW X K e tA qA):QPT X K e tA qA:=⟨h.h.pt,h.s⟩
def Fd(qa qb:QE):QE:=fun q Q=>qa q fun t=>match t with
 | .b c=>if c=true then qb q Q else Q (.b false)
 | _=>False
theorem zH(h:iP K ta qa)(h2:k9 K tb qb):k9 K (zk ta tb) (Fd qa qb):=fun dl H σ q Q R rd hq k=>h dl H σ q _ _ rd hq fun v t F H' e r hz=>by
 split at hz
 ·rename_i c;obtain⟨rfl,rfl⟩:=r.r.bl;refine⟨c,rfl,?_⟩;cases c with
  | false=>exact k _ _ [] H' e r (fun _ z=>nomatch z) List.nodup_nil hz
  | true=>exact h2 dl H' σ q Q R (rd.evo e) hz fun w u G H2 e2 r2 f2 n2 z=>k w u G H2 (e.trans e2) r2 (fun b hb=>e.free (f2 b hb)) n2 z
 ·exact hz.elim
theorem F4{op}(h:QPF X K a ta qa):QPF X K (.BoolOp op [a] pos) ta qa:=⟨Gp h.h,h.s⟩
theorem z7(ha:QPE X K a ta qa)(hb:QPF X K (.BoolOp .And (b::rest) pos) tb qb):QPF X K (.BoolOp .And (a::b::rest) pos) (zk ta tb) (Fd qa qb):=⟨Gs ha.h hb.h,zH ha.s hb.s⟩
theorem F5(ha:QPE X K a ta qa):QPF X K (.UnaryOp .USub a pos) (tUn (rU fun i=>.int (-i)) ta) (fun q Q=>qa q fun t=>match t with | .i x=>Q (.i (-x)) | _=>False):=⟨Ij Fz ha.h,fun dl H σ q Q R rd hq k=>ha.s dl H σ q _ _ rd hq fun v t F H' e r hz=>by
 split at hz
 ·obtain⟨rfl,rfl⟩:=r.r.int;exact⟨_,rfl,k _ _ [] H' e (.c (.i _)) (fun _ z=>nomatch z) List.nodup_nil hz⟩
 ·exact hz.elim⟩
def dO:QA:=fun _ Q=>Q []
def aD(qa:QE)(ql:QA):QA:=fun q Q=>qa q fun t=>ql q fun ts=>Q (t::ts)
theorem af:ax X K [] n6 dO:=⟨fU,fun dl H σ q Q R rd hq k=>k [] [] [] H (.refl rd.d) ⟨.nil,fun _ z=>nomatch z⟩ rfl (fun _ z=>nomatch z) List.nodup_nil hq⟩
theorem ax.w(h:ax X K es tl ql):QPA X K es tl ql:=⟨h.h,fun dl H σ q Q R rd hq k=>h.s dl H σ q Q R rd hq fun vs ts F H' e r l _ _ z=>k vs ts F H' e r l z⟩
theorem Rps.cons{dl:Dl}{H:Hp}{v:V}{t:T}{vs:List V}{ts:List T}{F G:List Addr}(h:Rp K dl H v t F)(r:Rps K dl H vs ts G):Rps K dl H (v::vs) (t::ts) (F++G):=⟨.cons h.r r.r,fun b hb=>(List.mem_append.mp hb).elim (h.n b) (r.n b)⟩
theorem ae(ha:QPE X K e te qe)(hr:QPA X K es tl ql)(hs:starEach (e::es) X.env =(false,eval e X.env)::starEach es X.env:=by rfl):QPA X K (e::es) (fA te tl) (aD qe ql) :=
 ⟨ck ha.h hr.h hs,fun dl H σ q Q R rd hq k=>ha.s dl H σ q _ _ rd hq fun v t F H1 e1 r1 hz=>hr.s dl H1 σ q _ _ (rd.evo e1) hz fun vs ts G H2 e2 r2 l2 z=>k _ _ _ H2 (e1.trans e2) (.cons (r1.evo e1.d e2) r2) (by simp[l2]) z⟩
theorem ah(ha:QPF X K e te qe)(hr:ax X K es tl ql)(hs:starEach (e::es) X.env =(false,eval e X.env)::starEach es X.env:=by rfl):ax X K (e::es) (fA te tl) (aD qe ql) :=
 ⟨ck ha.h hr.h hs,fun dl H σ q Q R rd hq k=>ha.s dl H σ q _ _ rd hq fun v t F H1 e1 r1 f1 n1 hz=>hr.s dl H1 σ q _ _ (rd.evo e1) hz fun vs ts G H2 e2 r2 l2 f2 n2 z =>
  k _ _ _ H2 (e1.trans e2) (.cons (r1.evo e1.d e2) r2) (by simp[l2]) (fun b hb=>(List.mem_append.mp hb).elim (f1 b) fun hb=>e1.free (f2 b hb)) (List.nodup_append.mpr ⟨n1,n2,fun x hx y hy exy=>by
   subst exy;have z:=f2 x hy;rcases r1.r.there x hx with⟨_,e⟩ |⟨_,e⟩
   ·rw[z]at e;cases e
   ·rw[z]at e;cases e⟩) z⟩
def tX(ql:QA):QE:=fun q Q=>ql q fun ts=>Q (.t ts)
def CS(ql:QA):QE:=fun q Q=>ql q fun ts=>Q (.l ts)
theorem aS{x1}(h:ax X K es tl ql)(hz:es.length<=1000:=by decide):QPF X K (.Tuple es x1 pos) (FD tl) (tX ql):=⟨Av h.h,fun dl H σ q Q R rd hq k=>h.s dl H σ q _ _ rd hq fun vs ts F H1 e1 r1 l1 f1 n1 z =>
 ⟨Nat.le_of_lt (aB (by omega)),fun p hp=>k _ _ F _ (e1.new hp) (r1.tup e1.d hp) f1 n1 z⟩⟩
theorem CL{x1}(h:QPA X K es tl ql)(hz:es.length<=1000:=by decide):QPE X K (.Tuple es x1 pos) (FD tl) (tX ql):=⟨Av h.h,fun dl H σ q Q R rd hq k=>h.s dl H σ q _ _ rd hq fun vs ts F H1 e1 r1 l1 z =>
 ⟨Nat.le_of_lt (aB (by omega)),fun p hp=>k _ _ F _ (e1.new hp) (r1.tup e1.d hp) z⟩⟩
theorem bo(h:ax X K es tl ql)(hz:es.length<=1000:=by decide):QPF X K (.List es pos) (Hw tl) (CS ql):=⟨Gr h.h,fun dl H σ q Q R rd hq k=>h.s dl H σ q _ _ rd hq fun vs ts F H1 e1 r1 l1 f1 n1 z =>
 ⟨Nat.le_of_lt (aB (by omega)),fun p hp=>k _ _ (p::F) _ (e1.new hp) (r1.lst e1.d hp) (fun b hb=>by
  rcases List.mem_cons.mp hb with e|hb
  ·rw[e];exact e1.free hp
  ·exact f1 b hb) (r1.fresh hp n1) z⟩⟩
theorem qR{ws:List Str}(h:strsOf es=some ws)(hl:es.length=ws.length:=by rfl):ax X K es (fun _ H Q=>Q (ws.map V.str) H) (fun _ Q=>Q (ws.map T.s)) :=
 ⟨xx h,fun dl H σ q Q R rd hq k=>k _ _ [] H (.refl rd.d) ⟨i4 ws,fun _ z=>nomatch z⟩ (by rw[List.length_map];exact hl.symm) (fun _ z=>nomatch z) List.nodup_nil hq⟩
def qIx:Q2:=fun t u Q=>match u with
 | .i k=>match t with
  | .l xs=>∃ x,atI xs k=some x/\Q x
  | .t xs=>∃ x,atI xs k=some x/\Q x
  | .z ns=>∃ x,atI ns k=some x/\Q (.i x)
  | .s z=>z.length<=sizeLine/\∃ c,atI z.cps.toList k=some c/\Q (.s ⟨#[c]⟩)
  | _=>False
 | _=>False
theorem ml{α β:Type}{xs:List α}{ys:List β}{k:Int}{x:α}(h:atI xs k=some x)(hl:xs.length=ys.length):∃ j:Nat,xs[j]? = some x/\ixN ys.length k=some j:=by
 unfold atI at h;cases e:ixN xs.length k with
 | none=>rw[e]at h;cases h
 | some j=>rw[e]at h;exact⟨j,h,by rw[<- hl];exact e⟩
theorem sQ{α:Type}{xs:List α}{k:Int}{j:Nat}{x:α}(h:ixN xs.length k=some j)(hx:xs[j]? = some x):atI xs k=some x:=by unfold atI;rw[h];exact hx
theorem FO:BW K (rIx K) qIx:=by
 intro dl H x y t u F G Q R D r1 r2 hq k;unfold qIx at hq
 split at hq
 ·rename_i k0;obtain⟨rfl,rfl⟩:=r2.r.int
  split at hq
  ·obtain⟨p,vs,G,rfl,rfl,h1,h2⟩:=r1.r.lst;obtain⟨z,hz,hq⟩:=hq;obtain⟨j,hj,hi⟩:=ml hz h2.len.symm;obtain⟨v,G',hv,rv,hs⟩:=h2.get hj;exact .inl ⟨p,vs,k0,v,rfl,rfl,SqL.of h1,sQ hi hv,k v z G' H (.refl D) (Rp.sub rv r1.n fun b hb=>List.mem_cons_of_mem _ (hs b hb)) hq⟩
  ·obtain⟨p,vs,rfl,h1,h2⟩:=r1.r.tup;obtain⟨z,hz,hq⟩:=hq;obtain⟨j,hj,hi⟩:=ml hz h2.len.symm;obtain⟨v,G',hv,rv,hs⟩:=h2.get hj;exact .inr (.inl ⟨p,vs,k0,v,rfl,rfl,SqT.of h1,sQ hi hv,k v z G' H (.refl D) (Rp.sub rv r1.n hs) hq⟩)
  ·obtain⟨p,rfl,h1,_⟩:=r1.r.scr;obtain⟨z,hz,hq⟩:=hq;refine .inl ⟨p,_,k0,.int z,rfl,rfl,h1.sq,?_,k _ _ [] H (.refl D) (.c (.i _)) hq⟩;obtain⟨j,hj,hi⟩:=ml (ys:=(_:List Int).map V.int) hz (by rw[List.length_map])
   exact sQ hi (by rw[List.getElem?_map,hj];rfl)
  ·obtain⟨rfl,rfl⟩:=r1.r.str;obtain⟨hl,c,hc,hq⟩:=hq;exact .inr (.inr ⟨_,k0,c,rfl,rfl,hl,hc,k _ _ [] H (.refl D) (.c (.s _)) hq⟩)
  ·exact hq.elim
 ·exact hq.elim
theorem az(ha:QPE X K a ta qa)(hb:QPE X K b tb qb)(hs:kf b:=by intro _ _;rfl)(hK:X.K=K:=by rfl):QPE X K (.Subscript a b pos) (tOp (rIx K) ta tb) (qOp qIx qa qb):=⟨by subst hK;exact ub Bb ha.h hb.h hs,qE FO ha.s hb.s⟩
end
section
variable{X:Cx}{K:W.Frag}{a b c e:Expr}{es rest:List Expr}{ta tb tc te:TE}{qa qb qc qe:QE}{tA tB:TT}{qA qB:QT}{tl:TA}{ql:QA}{pos p:Pos}{x:Str}
abbrev QO:=Sq ->(Option Int->Prop)->Prop
def J5(K:W.Frag)(t:TO)(tq:QO):Prop:=∀(dl:Dl)(H:Hp)(σ:St)(q:Sq)(Q:Option Int->Prop)(R:Option Int->Hp->Prop),RdR K dl H σ q->tq q Q ->(∀ o H',Evo dl H H'->Q o->R o H')->t σ H R
structure QPO(X:Cx)(K:W.Frag)(e:Option Expr)(t:TO)(tq:QO):Prop where
 h:PO X e t
 s:J5 K t tq
theorem jy:QPO X K none wW (fun _ Q=>Q none):=⟨CW,fun _ _ _ _ _ _ rd hq k=>k none _ (.refl rd.d) hq⟩
theorem jx(h:QPE X K e te qe):QPO X K (some e) (EZ te) (fun q Q=>qe q fun t=>match t with | .i x=>Q (some x) | _=>False):=⟨qW h.h,fun dl H σ q Q R rd hq k=>h.s dl H σ q _ _ rd hq fun v t F H' e r hz=>by
 split at hz
 ·obtain⟨rfl,rfl⟩:=r.r.int;exact⟨_,rfl,k _ H' e hz⟩
 ·exact hz.elim⟩
def fh{α:Type}(xs:List α)(lo hi:Option Int):List α:=(xs.drop (HT.sIx xs.length 0 lo)).take (HT.sIx xs.length xs.length hi - HT.sIx xs.length 0 lo)
theorem av.cut{dl:Dl}{H:Hp}{vs:List V}{ts:List T}{F:List Addr}(lo hi:Option Int)(h:av K dl H vs ts F):∃ G,av K dl H (ji vs lo hi) (fh ts lo hi) G/\G.Sublist F:=by
 unfold ji fh;rw[h.len];obtain⟨G,h1,s1⟩:=h.drop (HT.sIx ts.length 0 lo);obtain⟨G2,h2,s2⟩:=h1.take (HT.sIx ts.length ts.length hi - HT.sIx ts.length 0 lo);exact⟨G2,h2,s2.trans s1⟩
theorem iO{prog:Program}{w:World}{A:Around}{E:Value->Shared->Prop}{s:Shared}{t sl:Addr}{items:Array Value}{vl vu:Value}{lo hi:Option Int}{Q:Value->Shared->Prop}(ht:IsTup s.heap t items)(hs:s.heap.IsSliceOf sl vl vu .none)(pl:IsPart vl lo)(pu:IsPart vu hi)
  (hw:HT.sIx items.size 0 lo=0/\HT.sIx items.size items.size hi=items.size)
  (h:Q (.ref t) s):wpAny (model prog w) A (getItem (.ref t) (.ref sl)) Q E s:=by
 obtain⟨os,hos,hcs,hds⟩:=id hs;have hTs:s.TypeIs (.ref sl) "slice":=⟨os,hos,hcs⟩;have hT:=ht.typeIs;unfold getItem
 try with_reducible refine wpAny_holding ?_
 first|refine wpAny_bind (wpAny_pure ?_)|skip
 refine wpAny_bind (wpAny_sequenceKey ht.typeIs (by decide) ?_)
 refine wpAny_bind (wpAny_callSpecial?_slot (name:=Str.ofString "__getitem__") ht.typeIs PyProof.Rows.slot_tuple_getitem
  (wpAny_call_entry PyProof.Rows.slot_tuple_getitem ht.typeIs entry_tuple_getitem ?_ (args_tuple_getitem _ _)))
 show wpAny _ _ (Builtin.Tuple.tupleItemsOf (.ref t) >>= _) _ _ s;refine wpAny_bind (tupleItemsOf_ ht ?_);refine wpAny_bind (wpAny_typeOf hTs ?_);rw[if_pos (by decide)]
 refine wpAny_bind (HT.fB hs pl pu ?_);have hy:(((HT.sIx items.size 0 lo:Nat):Int)==0&&(1:Int)==1&&(HT.sIx items.size items.size hi - HT.sIx items.size 0 lo)==items.size)=true:=by
  rw[hw.1,hw.2];simp
 show wpAny _ _ (if(((HT.sIx items.size 0 lo:Nat):Int)==0&&(1:Int)==1&&(HT.sIx items.size items.size hi - HT.sIx items.size 0 lo)==items.size)=true then _ else _) _ _ s
 rw[if_pos hy];unfold Builtin.Tuple.tupleIsExact
 first
  | exact wpAny_bind (wpAny_bind (wpAny_typeOf hT (wpAny_pure (by rw[if_pos (by decide)];exact wpAny_bind (wpAny_rule (wpAny_pure ⟨_,rfl,wpAny_pure h⟩))))))
  | exact wpAny_bind (wpAny_typeOf hT (by rw[if_pos (by decide)];exact wpAny_bind (wpAny_rule (wpAny_pure ⟨_,rfl,wpAny_pure h⟩))))
def HF(K:W.Frag):V->Option Int->Option Int->Hp->VK->Prop:=fun x lo hi H Q=>∃ a xs,x = .ref a/\SqT K H a xs /\
 ((HT.sIx xs.length 0 lo=0/\HT.sIx xs.length xs.length hi=xs.length)->Q (.ref a) H)/\(¬(HT.sIx xs.length 0 lo=0/\HT.sIx xs.length xs.length hi=xs.length)->∀ p,H p=none->Q (.ref p) (upd H p (.tup (ji xs lo hi))))
theorem Cc:SlR X (HF X.K):=by
 intro pins s σ H x v vl vu lo hi sl Q I rx hs pl pu h;obtain⟨a,xs,rfl,hx,q1,q2⟩:=h;by_cases hw:HT.sIx xs.length 0 lo=0/\HT.sIx xs.length xs.length hi=xs.length
 ·cases rx;obtain⟨its,r,ht,hz⟩:=I.tuple hx;have hlen:its.toArray.size=xs.length:=by rw[List.size_toArray];exact r.length.symm
  exact⟨"tuple",_,PyProof.Rows.slot_tuple_getitem.lookup,ht.typeIs,iO ht hs pl pu (by rw[hlen];exact hw) ⟨.ref a,H,I,rfl,q1 hw⟩⟩
 ·exact FJ pins s σ H _ v vl vu lo hi sl Q I rx hs pl pu ⟨a,xs,rfl,hx,hw,q2 hw⟩
theorem yS{α:Type}{xs:List α}{lo hi:Option Int}(h:HT.sIx xs.length 0 lo=0/\HT.sIx xs.length xs.length hi=xs.length):fh xs lo hi=xs:=by
 unfold fh;rw[h.1,h.2];simp
def HI(K:W.Frag):V->Option Int->Option Int->Hp->VK->Prop:=fun x lo hi H Q=>HH K x lo hi H Q\/HF K x lo hi H Q\/HG x lo hi H Q
theorem Jm(hK:X.K=K):SlR X (HI K):=by subst hK;exact wZ.or (Cc.or FK)
def qSl(qe:QE)(l u:QO):QE:=fun q Q=>qe q fun t=>l q fun lo=>u q fun hi=>match t with
 | .l xs=>T.ims xs=true/\Q (.l (fh xs lo hi))
 | .t xs=>T.ims xs=true/\Q (.t (fh xs lo hi))
 | .z ns=>Q (.l ((fh ns lo hi).map T.i))
 | .s z=>z.length<=sizeLine/\Q (.s (Txt.slice z lo hi))
 | _=>False
theorem gH{l u:Option Expr}{tlo thi:TO}{qlo qhi:QO}{p2:Pos}(he:QPE X K e te qe)(hl:QPO X K l tlo qlo)(hu:QPO X K u thi qhi)(hK:X.K=K:=by rfl):QPF X K (.Subscript e (.Slice l u none p2) pos) (tSl (HI K) te tlo thi) (qSl qe qlo qhi) :=
 ⟨t9 (Jm hK) he.h hl.h hu.h,fun dl H σ q Q R rd hq k=>he.s dl H σ q _ _ rd hq fun v t F H1 e1 r1 hz=>hl.s dl H1 σ q _ _ (rd.evo e1) hz fun lo H2 e2 hz=>hu.s dl H2 σ q _ _ ((rd.evo e1).evo e2) hz fun hi H3 e3 hz=>by
  have r3:=(r1.evo e1.d e2).evo e2.d e3;have E3:=(e1.trans e2).trans e3;have no:∀ b:Addr,b∈([]:List Addr)->H b=none:=fun _ z=>nomatch z
  split at hz
  ·obtain⟨p,vs,G,rfl,rfl,h1,h2⟩:=r3.r.lst;obtain rfl:=h2.im hz.1;obtain⟨G,h3,s3⟩:=h2.cut lo hi;obtain rfl:G = []:=List.sublist_nil.mp s3;refine .inl ⟨p,vs,rfl,SqL.of h1,fun p hp=>?_⟩
   have rs:Rps K dl H3 (ji vs lo hi) _ []:=⟨h3,fun c hc=>nomatch hc⟩
   exact k _ _ _ _ (E3.new hp) (rs.lst e3.d hp) (fun b hb=>by rw[List.mem_singleton.mp hb];exact E3.free hp) (by simp) hz.2
  ·obtain⟨p,vs,rfl,h1,h2⟩:=r3.r.tup;obtain rfl:=h2.im hz.1;obtain⟨G,h3,s3⟩:=h2.cut lo hi;obtain rfl:G = []:=List.sublist_nil.mp s3;refine .inr (.inl ⟨p,vs,rfl,SqT.of h1,fun hw=>?_,fun _ p hp=>?_⟩)
   ·refine k _ _ _ _ E3 r3 no List.nodup_nil ?_;rw[h2.len]at hw;have hq2:=hz.2;rw[yS hw]at hq2;exact hq2
   ·have rs:Rps K dl H3 (ji vs lo hi) _ []:=⟨h3,fun c hc=>nomatch hc⟩
    exact k _ _ _ _ (E3.new hp) (rs.tup e3.d hp) no List.nodup_nil hz.2
  ·rename_i ns _ _;obtain⟨p,rfl,h1,_⟩:=r3.r.scr;refine .inl ⟨p,_,rfl,h1.sq,fun p hp=>?_⟩
   have e:ji (ns.map V.int) lo hi =(fh ns lo hi).map V.int:=by unfold ji fh;rw[List.length_map,<- List.map_drop,<- List.map_take]
   rw[e];have rs:Rps K dl H3 ((fh ns lo hi).map V.int) ((fh ns lo hi).map T.i) []:=⟨mL _,fun c hc=>nomatch hc⟩
   exact k _ _ _ _ (E3.new hp) (rs.lst e3.d hp) (fun b hb=>by rw[List.mem_singleton.mp hb];exact E3.free hp) (by simp) hz
  ·obtain⟨rfl,rfl⟩:=r3.r.str;exact .inr (.inr ⟨_,rfl,hz.1,k _ _ [] H3 E3 (.c (.s _)) no List.nodup_nil hz.2⟩)
  ·exact hz.elim⟩
abbrev QC:=List T ->(T->Prop)->Prop
def tj(K:W.Frag)(r:List V->Hp->VK->Prop)(rq:QC):Prop:=∀(dl:Dl)(H:Hp)(vs:List V)(ts:List T)(F:List Addr)(Q:T->Prop)(R:V->Hp->Prop),Dls dl H->Rps K dl H vs ts F->rq ts Q ->
 (∀ v z F' H',Evo dl H H'->Rp K dl H' v z F' ->(∀ b∈F',H b=none)->F'.Nodup->Q z->R v H')->r vs H R
def qCB(rq:QC)(ql:QA):QE:=fun q Q=>ql q fun ts=>rq ts Q
theorem zF{n:Nat}{r:List V->Hp->VK->Prop}{rq:QC}(h:tj K r rq)(hl:Hm K n tl ql):k9 K (tCB r tl) (qCB rq ql):=fun dl H σ q Q R rd hq k=>hl dl H σ q _ _ rd hq fun vs ts F H1 e1 r1 _ hz =>
 h dl H1 vs ts F Q R e1.d r1 hz fun v z F' H2 e2 r2 f2 n2 hz=>k v z F' H2 (e1.trans e2) r2 (fun b hb=>e1.free (f2 b hb)) n2 hz
theorem aT{id:String}{r:List V->Hp->VK->Prop}{rq:QC}(hc:cW X (.builtin id) r)(hs:tj K r rq)(hg:Gl X x)(hm:X.mg x=none)(hv:bootBuiltins x=some (.builtin id))(ha:QPA X K (e::es) tl ql)(hn:x ≠ "__name__":=by decide)(hdb:(x ==("__debug__":Str))=false:=by decide)
  (he:starEach (e::es) X.env =(false,eval e X.env)::starEach es X.env:=by rfl) (hpl:(backTo pos (starEach es X.env)).any (·.1)=false:=by rfl):QPF X K (.Call (.Name x p) (e::es) [] pos) (tCB r tl) (qCB rq ql):=⟨mY hc hg hm hv ha.h hn hdb he hpl,zF hs ha.s⟩
theorem bq{id:String}{r:List V->Hp->VK->Prop}{rq:QC}(hc:cW X (.type id) r)(hs:tj K r rq)(hg:Gl X x)(hm:X.mg x=none)(hv:bootBuiltins x=some (.type id))(ha:QPA X K (e::es) tl ql)(hn:x ≠ "__name__":=by decide)(hdb:(x ==("__debug__":Str))=false:=by decide)
  (he:starEach (e::es) X.env =(false,eval e X.env)::starEach es X.env:=by rfl) (hpl:(backTo pos (starEach es X.env)).any (·.1)=false:=by rfl):QPF X K (.Call (.Name x p) (e::es) [] pos) (tCB r tl) (qCB rq ql):=⟨yu hc hg hm hv ha.h hn hdb he hpl,zF hs ha.s⟩
theorem Rps.one{dl:Dl}{H:Hp}{vs:List V}{t:T}{F:List Addr}(h:Rps K dl H vs [t] F):∃ v,vs = [v]/\Rp K dl H v t F:=by
 obtain⟨r,n⟩:=h;cases r with
 | cons r1 r2 =>
  cases r2;rw[List.append_nil]at n;rw[List.append_nil];exact⟨_,rfl,r1,n⟩
theorem Rps.two{dl:Dl}{H:Hp}{vs:List V}{t u:T}{F:List Addr}(h:Rps K dl H vs [t,u] F):∃ v w F1 F2,vs = [v,w]/\Rp K dl H v t F1/\Rp K dl H w u F2:=by
 obtain⟨r,n⟩:=h;cases r with
 | cons r1 r2 =>
  obtain⟨w,rfl,h2⟩:=Rps.one ⟨r2,fun b hb=>n b (List.mem_append_right _ hb)⟩
  exact⟨_,w,_,_,rfl,⟨r1,fun b hb=>n b (List.mem_append_left _ hb)⟩,h2⟩
def E8(K:W.Frag):List V->Hp->VK->Prop:=fun xs H Q=>(∃ p ys,xs = [.ref p]/\(SqL K H p ys\/SqT K H p ys)/\Q (.int ys.length) H)\/(∃ z,xs = [.str z]/\z.length<=sizeLine/\Q (.int z.length) H)\/∃ a kvs,xs = [V.ref a]/\H a=some (.dK kvs)/\Q (.int kvs.length) H
theorem aL(hK:X.K=K):cW X (.builtin "len") (E8 K):=by subst hK;exact j7.or (sJ.or yW)
def yo:QC:=fun ts Q=>match ts with
 | [.l xs]=>Q (.i xs.length)
 | [.t xs]=>Q (.i xs.length)
 | [.z xs]=>Q (.i xs.length)
 | [.d xs]=>Q (.i xs.length)
 | [.s x]=>x.length<=sizeLine/\Q (.i x.length)
 | _=>False
theorem bf:tj K (E8 K) yo:=by
 intro dl H vs ts F Q R D r hq k;have fin:∀ n:Nat,Q (.i n)->R (.int n) H:=fun n hq=>k _ _ [] H (.refl D) (.c (.i _)) (fun _ z=>nomatch z) List.nodup_nil hq
 unfold yo at hq
 split at hq
 ·obtain⟨v,rfl,r'⟩:=r.one;obtain⟨p,vs,G,rfl,_,h1,h2⟩:=r'.r.lst;exact .inl ⟨p,vs,rfl,.inl (SqL.of h1),fin _ (by rw[h2.len];exact hq)⟩
 ·obtain⟨v,rfl,r'⟩:=r.one;obtain⟨p,vs,rfl,h1,h2⟩:=r'.r.tup;exact .inl ⟨p,vs,rfl,.inr (SqT.of h1),fin _ (by rw[h2.len];exact hq)⟩
 ·obtain⟨v,rfl,r'⟩:=r.one;obtain⟨p,rfl,h1,_⟩:=r'.r.scr;exact .inl ⟨p,_,rfl,.inl h1.sq,fin _ (by rw[List.length_map];exact hq)⟩
 ·obtain⟨v,rfl,r'⟩:=r.one;obtain⟨p,vs,G,rfl,_,h1,h2⟩:=r'.r.dic;exact .inr (.inr ⟨p,vs,rfl,h1,fin _ (by rw[h2.len];exact hq)⟩)
 ·obtain⟨v,rfl,r'⟩:=r.one;obtain⟨rfl,_⟩:=r'.r.str;exact .inr (.inl ⟨_,rfl,hq.1,fin _ hq.2⟩)
 ·exact hq.elim
def qI2(g:Int->Int->Int):QC:=fun ts Q=>match ts with
 | [.i a,.i b]=>Q (.i (g a b))
 | _=>False
theorem zD{g:Int->Int->Int}:tj K (fun xs H Q=>∃ i j,xs = [.int i,.int j]/\Q (.int (g i j)) H) (qI2 g):=by
 intro dl H vs ts F Q R D r hq k;unfold qI2 at hq
 split at hq
 ·obtain⟨v,w,F1,F2,rfl,r1,r2⟩:=r.two;obtain⟨rfl,_⟩:=r1.r.int;obtain⟨rfl,_⟩:=r2.r.int;exact⟨_,_,rfl,k _ _ [] H (.refl D) (.c (.i _)) (fun _ z=>nomatch z) List.nodup_nil hq⟩
 ·exact hq.elim
def Ab:QC:=fun ts Q=>match ts with
 | [.l xs]=>T.ims xs=true/\Q (.t xs)
 | [.t xs]=>T.ims xs=true/\Q (.t xs)
 | _=>False
theorem b9(hK:X.K=K):cW X (.type "tuple") (fun xs H Q=>∃ p ys,xs = [.ref p]/\((SqL K H p ys/\∀ l,H l=none->Q (.ref l) (upd H l (.tup ys)))\/(SqT K H p ys/\Q (.ref p) H))):=by subst hK;exact oW
theorem b7:tj K (fun xs H Q=>∃ p ys,xs = [.ref p]/\((SqL K H p ys/\∀ l,H l=none->Q (.ref l) (upd H l (.tup ys)))\/(SqT K H p ys/\Q (.ref p) H))) Ab:=by
 intro dl H vs ts F Q R D r hq k;have no:∀ b:Addr,b∈([]:List Addr)->H b=none:=fun _ z=>nomatch z
 unfold Ab at hq
 split at hq
 ·obtain⟨v,rfl,r'⟩:=r.one;obtain⟨p,vs,G,rfl,rfl,h1,h2⟩:=r'.r.lst;obtain rfl:=h2.im hq.1;refine⟨p,vs,rfl,.inl ⟨SqL.of h1,fun l hl=>?_⟩⟩
  have rs:Rps K dl H vs _ []:=⟨h2,fun c hc=>nomatch hc⟩
  exact k _ _ _ _ ((Evo.refl D).new hl) (rs.tup D hl) no List.nodup_nil hq.2
 ·obtain⟨v,rfl,r'⟩:=r.one;obtain⟨p,vs,rfl,h1,h2⟩:=r'.r.tup;obtain rfl:=h2.im hq.1;exact⟨p,vs,rfl,.inr ⟨SqT.of h1,k _ _ [] H (.refl D) r' no List.nodup_nil hq.2⟩⟩
 ·exact hq.elim
def Ac:QC:=fun ts Q=>match ts with
 | [.l xs]=>T.ims xs=true/\Q (.l xs)
 | [.t xs]=>T.ims xs=true/\Q (.l xs)
 | _=>False
theorem yV(hK:X.K=K):cW X (.type "list") (fun xs H Q=>∃ p ys,xs = [.ref p]/\(SqL K H p ys\/SqT K H p ys)/\∀ l,H l=none->Q (.ref l) (upd H l (.lst ys))):=by subst hK;exact sI
theorem yi:tj K (fun xs H Q=>∃ p ys,xs = [.ref p]/\(SqL K H p ys\/SqT K H p ys)/\∀ l,H l=none->Q (.ref l) (upd H l (.lst ys))) Ac:=by
 intro dl H vs ts F Q R D r hq k;unfold Ac at hq
 split at hq
 ·obtain⟨v,rfl,r'⟩:=r.one;obtain⟨p,vs,G,rfl,rfl,h1,h2⟩:=r'.r.lst;obtain rfl:=h2.im hq.1;refine⟨p,vs,rfl,.inl (SqL.of h1),fun l hl=>?_⟩
  have rs:Rps K dl H vs _ []:=⟨h2,fun c hc=>nomatch hc⟩
  exact k _ _ _ _ ((Evo.refl D).new hl) (rs.lst D hl) (fun b hb=>by rw[List.mem_singleton.mp hb];exact hl) (by simp) hq.2
 ·obtain⟨v,rfl,r'⟩:=r.one;obtain⟨p,vs,rfl,h1,h2⟩:=r'.r.tup;obtain rfl:=h2.im hq.1;refine⟨p,vs,rfl,.inr (SqT.of h1),fun l hl=>?_⟩
  have rs:Rps K dl H vs _ []:=⟨h2,fun c hc=>nomatch hc⟩
  exact k _ _ _ _ ((Evo.refl D).new hl) (rs.lst D hl) (fun b hb=>by rw[List.mem_singleton.mp hb];exact hl) (by simp) hq.2
 ·exact hq.elim
def picks{α:Type}(f:T->Option α):List T->Option (List α)
 | []=>some []
 | t::r=>(f t).bind fun a=>(picks f r).map (a :: ·)
theorem av.picks{dl:Dl}{H:Hp}{α:Type}{f:T->Option α}{g:α->V}(hf:∀(v:V)(t:T)(F:List Addr)(a:α),aC K dl H v t F->f t=some a->v=g a){vs:List V}{ts:List T}{F:List Addr}(h:av K dl H vs ts F):∀{bs:List α},L2.picks f ts=some bs->vs=bs.map g :=
 h.ind (M:=fun vs ts _=>∀{bs:List α},L2.picks f ts=some bs->vs=bs.map g) (fun e=>by cases e;rfl) fun v t vs ts F G h _ ih bs e=>by
  obtain⟨a,e1,e2⟩:=Option.bind_eq_some_iff.mp e;obtain⟨as,e3,rfl⟩:=Option.map_eq_some_iff.mp e2;rw[hf v t F a h e1,ih e3];rfl
end
structure p8 where
 nx:Sq->Prop
 rt:T->Prop
 bk:Sq->Prop:=fun _=>False
 ct:Sq->Prop:=fun _=>False
abbrev QS:=p8->Sq->Prop
structure Frm(dl:Dl)(H₀ H:Hp):Prop where
 k:∀ b o,H₀ b=some o->Nd dl b->NR o->H b=some o
 r:∀ a x,H₀ a=some (.room x)->∃ y,y<=x/\H a=some (.room y)
theorem Frm.evo{dl:Dl}{H₀ H:Hp}(f:Frm dl H₀ H)(D:Dls dl H):Evo dl H₀ H:=⟨f.k,D,f.r⟩
theorem Frm.refl{dl:Dl}{H:Hp}:Frm dl H H:=⟨fun _ _ h _ _=>h,fun _ x h=>⟨x,Int.le_refl _,h⟩⟩
theorem Frm.trans{dl:Dl}{H₀ H H':Hp}(f:Frm dl H₀ H)(e:Evo dl H H'):Frm dl H₀ H':=⟨fun b o h n r=>e.k b o (f.k b o h n r) n r,fun a x h=>let⟨y,hy,h1⟩:=f.r a x h;let⟨z,hz,h2⟩:=e.r a y h1;⟨z,Int.le_trans hz hy,h2⟩⟩
structure Rel(K:W.Frag)(dl:Dl)(H₀:Hp)(hs:List (V×T))(H:Hp)(σ:St)(q:Sq)(F:Nat->List Addr):Prop where
 d:Dls dl H
 g:∀(i:Nat)(x:Sl)(t:T),q[i]? = some x->x.get=some t->∃ v,σ[i]? = some (some v)/\Rp K dl H v t (F i)
 n:∀(i:Nat)(x:Sl),q[i]? = some x->x.get=none->F i = []
 z:∀(i:Nat),q.length<=i->F i = []
 o:∀(i:Nat)(t:T),q[i]? = some (.o t) ->(F i).Nodup/\(∀ b∈F i,H₀ b=none)/\(∀ j,j≠i->∀ b∈F i,b ∉ F j)
 h:∀ p∈hs,∃ Fp,Rp K dl H p.1 p.2 Fp/\∀(i:Nat)(t:T),q[i]? = some (.o t)->∀ b∈F i,b ∉ Fp
 f:Frm dl H₀ H
 l:q.length=σ.length
def ix(K:W.Frag)(dl:Dl)(H₀:Hp)(hs:List (V×T))(H:Hp)(σ:St)(q:Sq):Prop:=∃ F,Rel K dl H₀ hs H σ q F
def kc(H:Hp)(b:Addr):Prop:=(∃ xs,H b=some (.lst xs))\/∃ ks,H b=some (.dK ks)
theorem kc.no{H:Hp}{b:Addr}(h:kc H b)(e:H b=none):False:=by
 rcases h with⟨_,h⟩ |⟨_,h⟩
 ·rw[e]at h;cases h
 ·rw[e]at h;cases h
section
variable{X:Cx}{K:W.Frag}{dl:Dl}{H₀ H H':Hp}{hs:List (V×T)}{σ:St}{q:Sq}{F:Nat->List Addr}
theorem Rel.rd(r:Rel K dl H₀ hs H σ q F):RdR K dl H σ q:=⟨r.d,fun i x t h1 h2=>let⟨v,e,p⟩:=r.g i x t h1 h2;⟨v,F i,e,p⟩⟩
theorem Rel.fz(r:Rel K dl H₀ hs H σ q F){b:Addr}(h:H b=none):H₀ b=none:=by
 exact(r.f.evo r.d).free h
theorem Rel.ko(r:Rel K dl H₀ hs H σ q F){i:Nat}{b:Addr}(hb:b∈F i):kc H b:=by
 by_cases hi:i<q.length
 ·have e:q[i]? = some q[i]:=by simp[hi]
  cases ex:q[i].get with
  | none=>rw[r.n i _ e ex]at hb;cases hb
  | some t =>
   obtain⟨v,_,p⟩:=r.g i _ t e ex;exact p.r.there b hb
 ·rw[r.z i (by omega)]at hb;cases hb
theorem Rel.evo(r:Rel K dl H₀ hs H σ q F)(e:Evo dl H H'):Rel K dl H₀ hs H' σ q F where
 d:=e.d
 g:=fun i x t h1 h2=>let⟨v,e1,p⟩:=r.g i x t h1 h2;⟨v,e1,p.evo r.d e⟩
 n:=r.n
 z:=r.z
 o:=r.o
 h:=fun p hp=>let⟨Fp,h1,h2⟩:=r.h p hp;⟨Fp,h1.evo r.d e,h2⟩
 f:=r.f.trans e
 l:=r.l
def ve(F:Nat->List Addr)(i:Nat)(x:List Addr):Nat->List Addr:=fun j=>if j=i then x else F j
theorem a8{i:Nat}{x:List Addr}:ve F i x i=x:=if_pos rfl
theorem aR{i j:Nat}{x:List Addr}(h:j≠i):ve F i x j=F j:=if_neg h
theorem get_set{α:Type}{xs:List α}{i j:Nat}{x y:α}(h:(xs.set i x)[j]? = some y):(j=i/\y=x/\i<xs.length)\/(j≠i/\xs[j]? = some y):=by
 by_cases e:j=i
 ·subst e;rw[List.getElem?_set_self']at h;by_cases hl:j<xs.length
  ·rw[List.getElem?_eq_getElem hl]at h;exact .inl ⟨rfl,(Option.some.inj h).symm,hl⟩
  ·rw[List.getElem?_eq_none (by omega)]at h;cases h
 ·rw[List.getElem?_set_ne (fun z=>e z.symm)]at h
  exact .inr ⟨e,h⟩
theorem Rel.put{i:Nat}{v:V}{t:T}{F':List Addr}(r:Rel K dl H₀ hs H σ q F)(hi:i<q.length)(e:Evo dl H H')(hv:Rp K dl H' v t F')(hf:∀ b∈F',H b=none)(hn:F'.Nodup):Rel K dl H₀ hs H' (σ.set i (some v)) (q.set i (.o t)) (ve F i F'):=by
 have r':=r.evo e;have out:∀ j,∀ b∈F',b ∉ F j:=fun j b hb hj=>(r.ko hj).no (hf b hb)
 refine⟨e.d,fun j x u h1 h2=>?_,fun j x h1 h2=>?_,fun j hj=>?_,fun j u h1=>?_,fun p hp=>?_,r'.f,by simp[r.l]⟩
 ·rcases get_set h1 with⟨rfl,rfl,_⟩ |⟨ne,h1⟩
  ·cases h2;exact⟨v,by rw[List.getElem?_set_self (by rw[<- r.l];exact hi)],by rw[a8];exact hv⟩
  ·obtain⟨w,h3,h4⟩:=r'.g j x u h1 h2;exact⟨w,by rw[List.getElem?_set_ne (fun z=>ne z.symm)];exact h3,by rw[aR ne];exact h4⟩
 ·rcases get_set h1 with⟨rfl,rfl,_⟩ |⟨ne,h1⟩
  ·cases h2
  ·rw[aR ne];exact r.n j x h1 h2
 ·rw[List.length_set]at hj;rw[aR (by omega)]
  exact r.z j hj
 ·rcases get_set h1 with⟨rfl,_,_⟩ |⟨ne,h1⟩
  ·rw[a8];exact⟨hn,fun b hb=>r.fz (hf b hb),fun k hk b hb=>by rw[aR hk];exact out k b hb⟩
  ·rw[aR ne];obtain⟨o1,o2,o3⟩:=r.o j u h1;refine⟨o1,o2,fun k hk b hb=>?_⟩
   by_cases ek:k=i
   ·subst ek;rw[a8];exact fun z=>out j b z hb
   ·rw[aR ek];exact o3 k hk b hb
 ·obtain⟨Fp,h1,h2⟩:=r.h p hp;refine⟨Fp,h1.evo r.d e,fun j u hj b hb z=>?_⟩
  rcases get_set hj with⟨rfl,_,_⟩ |⟨ne,hj⟩
  ·rw[a8]at hb;exact kc.no (h1.r.there b z) (hf b hb)
  ·rw[aR ne]at hb;exact h2 j u hj b hb z
theorem Rel.Gg{i:Nat}{v:V}{t:T}{F':List Addr}(r:Rel K dl H₀ hs H σ q F)(hi:i<q.length)(hv:Rp K dl H v t F')(hf:∀(j:Nat)(u:T),q[j]? = some (.o u)->j≠i->∀ b∈F j,b ∉ F'):Rel K dl H₀ hs H (σ.set i (some v)) (q.set i (.r t)) (ve F i F'):=by
 refine⟨r.d,fun j x u h1 h2=>?_,fun j x h1 h2=>?_,fun j hj=>?_,fun j u h1=>?_,fun p hp=>?_,r.f,by simp[r.l]⟩
 ·rcases get_set h1 with⟨rfl,rfl,_⟩ |⟨ne,h1⟩
  ·cases h2;exact⟨v,by rw[List.getElem?_set_self (by rw[<- r.l];exact hi)],by rw[a8];exact hv⟩
  ·obtain⟨w,h3,h4⟩:=r.g j x u h1 h2;exact⟨w,by rw[List.getElem?_set_ne (fun z=>ne z.symm)];exact h3,by rw[aR ne];exact h4⟩
 ·rcases get_set h1 with⟨rfl,rfl,_⟩ |⟨ne,h1⟩
  ·cases h2
  ·rw[aR ne];exact r.n j x h1 h2
 ·rw[List.length_set]at hj;rw[aR (by omega)]
  exact r.z j hj
 ·rcases get_set h1 with⟨rfl,e,_⟩ |⟨ne,h1⟩
  ·cases e
  ·rw[aR ne];obtain⟨o1,o2,o3⟩:=r.o j u h1;refine⟨o1,o2,fun k hk b hb=>?_⟩
   have z:=hf j u h1 ne b hb;by_cases ek:k=i
   ·subst ek;rw[a8];exact z
   ·rw[aR ek];exact o3 k hk b hb
 ·obtain⟨Fp,h1,h2⟩:=r.h p hp;refine⟨Fp,h1,fun j u hj b hb z=>?_⟩
  rcases get_set hj with⟨rfl,e,_⟩ |⟨ne,hj⟩
  ·cases e
  ·rw[aR ne]at hb;exact h2 j u hj b hb z
theorem Rel.hold{v:V}{t:T}{F':List Addr}(r:Rel K dl H₀ hs H σ q F)(hv:Rp K dl H v t F')(hf:∀(j:Nat)(u:T),q[j]? = some (.o u)->∀ b∈F j,b ∉ F'):Rel K dl H₀ ((v,t)::hs) H σ q F :=
 ⟨r.d,r.g,r.n,r.z,r.o,fun p hp=>by
  rcases List.mem_cons.mp hp with e|hp
  ·subst e;exact⟨F',hv,hf⟩
  ·exact r.h p hp,r.f,r.l⟩
theorem Rel.down{i:Nat}{t:T}(r:Rel K dl H₀ hs H σ q F)(hi:q[i]? = some (.o t)):Rel K dl H₀ hs H σ (q.set i (.r t)) F:=by
 refine⟨r.d,fun j x u h1 h2=>?_,fun j x h1 h2=>?_,fun j hj=>r.z j (by rw[List.length_set]at hj;exact hj),fun j u h1=>?_,fun p hp=>?_,r.f,by simp[r.l]⟩
 ·rcases get_set h1 with⟨rfl,rfl,_⟩ |⟨ne,h1⟩
  ·cases h2;exact r.g j _ t hi rfl
  ·exact r.g j x u h1 h2
 ·rcases get_set h1 with⟨rfl,rfl,_⟩ |⟨ne,h1⟩
  ·cases h2
  ·exact r.n j x h1 h2
 ·rcases get_set h1 with⟨rfl,e,_⟩ |⟨ne,h1⟩
  ·cases e
  ·exact r.o j u h1
 ·obtain⟨Fp,h1,h2⟩:=r.h p hp;refine⟨Fp,h1,fun j u hj=>?_⟩
  rcases get_set hj with⟨rfl,e,_⟩ |⟨ne,hj⟩
  ·cases e
  ·exact h2 j u hj
theorem Rel.write{i:Nat}{v:V}{t t':T}{F':List Addr}{p:Addr}{o:HO}(r:Rel K dl H₀ hs H σ q F)(hi:q[i]? = some (.o t))(hv:σ[i]? = some (some v))(hp:p∈F i)(ho:∀ xs,H p=some (.lst xs)->∃ ys,o = .lst ys)(hr:Rp K dl (upd H p o) v t' F')(hn:F'.Nodup)
  (hf:∀ b∈F',b∈F i\/(H₀ b=none/\(∀ j,b ∉ F j)/\∀ w u Fp,Rp K dl H w u Fp ->(w,u)∈hs->b ∉ Fp)):Rel K dl H₀ hs (upd H p o) σ (q.set i (.o t')) (ve F i F'):=by
 obtain⟨o1,o2,o3⟩:=r.o i t hi;have hil:i<q.length:=(List.getElem?_eq_some_iff.mp hi).1;obtain⟨v',hv',rp⟩:=r.g i _ t hi rfl;have pn:Nd dl p:=rp.n p hp;have pth:=r.ko hp;have tf:TF H (upd H p o):=⟨fun a vs h=>(by
  rw[aj];exact h;intro z;subst z;rcases pth with⟨_,e⟩ |⟨_,e⟩ <;> rw[h]at e <;> cases e),fun a ob u h=>(by
  rw[aj];exact h;intro z;subst z;rcases pth with⟨_,e⟩ |⟨_,e⟩ <;> rw[h]at e <;> cases e),fun a φ h=>(by
  rw[aj];exact h;intro z;subst z;rcases pth with⟨_,e⟩ |⟨_,e⟩ <;> rw[h]at e <;> cases e),fun a xs h=>(by
  by_cases z:a=p
  ·subst z;obtain⟨ys,e⟩:=ho xs h;exact⟨ys,by rw[au,e]⟩
  ·exact⟨xs,by rw[aj z];exact h⟩),fun a x h=>⟨x,Int.le_refl _,by
  rw[aj];exact h;intro z;subst z;rcases pth with⟨_,e⟩ |⟨_,e⟩ <;> rw[h]at e <;> cases e⟩⟩
 have st:∀{w:V}{u:T}{Fw:List Addr},Rp K dl H w u Fw->p ∉ Fw->Rp K dl (upd H p o) w u Fw:=fun{w u Fw} h np =>
  ⟨h.r.cX tf (fun _ z=>z) fun b hb ob e=>(by
   have ne:b≠p:=by
    intro z;subst z;exact np hb
   rw[aj ne];exact e),h.n⟩
 refine⟨fun d hd=>(r.d d hd).other (pn d hd).1 (pn d hd).2,fun j x u h1 h2=>?_,fun j x h1 h2=>?_,fun j hj=>?_,fun j u h1=>?_,fun w hw=>?_,⟨fun b ob hb nb nr=>?_,fun b x hb=>?_⟩,by simp[r.l]⟩
 ·rcases get_set h1 with⟨rfl,rfl,_⟩ |⟨ne,h1⟩
  ·cases h2;exact⟨v,hv,by rw[a8];exact hr⟩
  ·obtain⟨w,h3,h4⟩:=r.g j x u h1 h2;exact⟨w,h3,by rw[aR ne];exact st h4 (o3 j ne p hp)⟩
 ·rcases get_set h1 with⟨rfl,rfl,_⟩ |⟨ne,h1⟩
  ·cases h2
  ·rw[aR ne];exact r.n j x h1 h2
 ·rw[List.length_set]at hj;rw[aR (by omega)]
  exact r.z j hj
 ·rcases get_set h1 with⟨rfl,e,_⟩ |⟨ne,h1⟩
  ·rw[a8];refine⟨hn,fun b hb=>?_,fun k hk b hb=>?_⟩
   ·rcases hf b hb with z|z
    ·exact o2 b z
    ·exact z.1
   ·rw[aR hk];rcases hf b hb with z|z
    ·exact o3 k hk b z
    ·exact z.2.1 k
  ·rw[aR ne];obtain⟨p1,p2,p3⟩:=r.o j u h1;refine⟨p1,p2,fun k hk b hb=>?_⟩
   by_cases ek:k=i
   ·subst ek;rw[a8];intro z;rcases hf b z with z|z
    ·exact o3 j ne b z hb
    ·exact z.2.1 j hb
   ·rw[aR ek];exact p3 k hk b hb
 ·obtain⟨Fp,h1,h2⟩:=r.h w hw;refine⟨Fp,st h1 (h2 i t hi p hp),fun j u hj b hb z=>?_⟩
  rcases get_set hj with⟨rfl,e,_⟩ |⟨ne,hj⟩
  ·rw[a8]at hb;rcases hf b hb with y|y
   ·exact h2 j t hi b y z
   ·exact y.2.2 w.1 w.2 Fp h1 hw z
  ·rw[aR ne]at hb;exact h2 j u hj b hb z
 ·rw[aj]
  ·exact r.f.k b ob hb nb nr
  ·intro z;subst z;rw[o2 b hp]at hb;cases hb
 ·obtain⟨y,hy,e⟩:=r.f.r b x hb;refine⟨y,hy,?_⟩;rw[aj]
  ·exact e
  ·intro z;subst z;rw[o2 b hp]at hb;cases hb
end
structure Hs(K:W.Frag)(dl:Dl)(H₀:Hp)(hs:List (V×T))(Dq:p8)(D:Ends):Prop where
 nx:∀ H σ q,ix K dl H₀ hs H σ q->Dq.nx q->D.nx σ H
 bk:∀ H σ q,ix K dl H₀ hs H σ q->Dq.bk q->D.bk σ H
 ct:∀ H σ q,ix K dl H₀ hs H σ q->Dq.ct q->D.ct σ H
 rt:∀ v t F H,Dls dl H->Rp K dl H v t F ->(∀ b∈F,H₀ b=none)->F.Nodup->Frm dl H₀ H->Dq.rt t->D.rt v H
def ke(K:W.Frag)(ts:TS)(qs:QS):Prop:=∀(dl:Dl)(H₀:Hp)(hs:List (V×T))(H:Hp)(σ:St)(q:Sq)(Dq:p8)(D:Ends),ix K dl H₀ hs H σ q->qs Dq q->Hs K dl H₀ hs Dq D->ts D σ H
structure QPS(X:Cx)(K:W.Frag)(st:Stmt)(ts:TS)(qs:QS):Prop where
 h:PS X st ts
 s:ke K ts qs
structure nT(X:Cx)(K:W.Frag)(st:List Stmt)(ts:TS)(qs:QS):Prop where
 h:PSs X st ts
 s:ke K ts qs
section
variable{X:Cx}{K:W.Frag}{st:Stmt}{rest sa sb:List Stmt}{t u:TS}{qt qu:QS}{e c:Expr}{te:TE}{qe:QE}{tc:TT}{qc:QT}{pos:Pos}
def xj:QS:=fun D q=>D.nx q
def qS(t u:QS):QS:=fun D q=>t { D with nx:=u D } q
theorem bg:nT X K [] E1 xj:=⟨xp,fun _ _ _ H σ q _ _ r hq E=>E.nx H σ q r hq⟩
theorem ag(h1:QPS X K st t qt)(h2:nT X K rest u qu):nT X K (st::rest) (Hv t u) (qS qt qu):=⟨bK h1.h h2.h,fun dl H₀ hs H σ q Dq D r hq E =>
 h1.s dl H₀ hs H σ q _ _ r hq ⟨fun H σ q r' hq'=>h2.s dl H₀ hs H σ q _ _ r' hq' E,E.bk,E.ct,E.rt⟩⟩
theorem aq(h1:QPS X K st t qt):nT X K [st] t qt:=⟨fS h1.h,h1.s⟩
theorem fC:QPS X K st zf (fun _ _=>False):=⟨Al,fun _ _ _ _ _ _ _ _ _ hq _=>hq.elim⟩
theorem cO(he:QPE X K e te qe)(hs:swapsWith e none pos.line X.env=pure false:=by rfl):QPS X K (.Expr e pos) (js te) (fun D q=>qe q fun _=>D.nx q):=⟨l9 he.h hs,fun dl H₀ hs H σ q Dq D ⟨F,r⟩ hq E =>
 he.s dl H σ q _ _ r.rd hq fun v t F' H' e1 _ hz=>E.nx H' σ q ⟨F,r.evo e1⟩ hz⟩
theorem bV(he:QPF X K e te qe):QPS X K (.Return (some e) pos) (FE te) (fun D q=>qe q D.rt):=⟨mP he.h,fun dl H₀ hs H σ q Dq D ⟨F,r⟩ hq E =>
 he.s dl H σ q _ _ r.rd hq fun v t F' H' e1 r1 f1 n1 hz=>E.rt v t F' H' e1.d r1 (fun b hb=>r.fz (f1 b hb)) n1 (r.evo e1).f hz⟩
theorem lZ{i:Nat}(he:PE X e (bS i)):QPS X K (.Return (some e) pos) (FE (bS i)) (fun D q=>match q[i]? with|some (.o t)=>D.rt t | _=>False):=⟨mP he,fun dl H₀ hs H σ q Dq D ⟨F,r⟩ hq E=>by
 split at hq
 ·rename_i t e1;obtain⟨v,hv,rp⟩:=r.g i _ t e1 rfl;obtain⟨o1,o2,o3⟩:=r.o i t e1;exact⟨v,hv,E.rt v t (F i) H r.d rp o2 o1 r.f hq⟩
 ·exact hq.elim⟩
def CT(c:QT)(t u:QS):QS:=fun D q=>c q fun b=>if b=true then t D q else u D q
theorem cg(hc:QPT X K c tc qc)(ha:nT X K sa t qt)(hb:nT X K sb u qu):QPS X K (.If c sa sb pos) (Hx tc t u) (CT qc qt qu):=⟨Fe hc.h ha.h hb.h,fun dl H₀ hs H σ q Dq D ⟨F,r⟩ hq E =>
 hc.s dl H σ q _ _ r.rd hq fun b H' e1 hz=>by
  cases b with
  | true=>exact ha.s dl H₀ hs H' σ q Dq D ⟨F,r.evo e1⟩ hz E
  | false=>exact hb.s dl H₀ hs H' σ q Dq D ⟨F,r.evo e1⟩ hz E⟩
def yn(i:Nat)(qe:QE):QS:=fun D q=>qe q fun t=>D.nx (q.set i (.o t))
theorem Rel.Ic{dl:Dl}{H₀ H H':Hp}{hs:List (V×T)}{σ:St}{q:Sq}{F:Nat->List Addr}{i:Nat}{v:V}{t:T}{F':List Addr}(r:Rel K dl H₀ hs H σ q F)(e:Evo dl H H')(hv:Rp K dl H' v t F')(hf:∀ b∈F',H b=none)(hn:F'.Nodup):ix K dl H₀ hs H' (σ.set i (some v)) (q.set i (.o t)):=by
 by_cases hi:i<q.length
 ·exact⟨_,r.put hi e hv hf hn⟩
 ·have hl:=r.l;rw[List.set_eq_of_length_le (by omega),List.set_eq_of_length_le (by omega)]
  exact⟨F,r.evo e⟩
theorem w5{i:Nat}(he:k9 K te qe):ke K (iM te (g8 i)) (yn i qe):=fun dl H₀ hs H σ q Dq D ⟨F,r⟩ hq E=>he dl H σ q _ _ r.rd hq fun v t F' H' e1 r1 f1 n1 hz=>E.nx H' _ _ (r.Ic e1 r1 f1 n1) hz
theorem ay{i:Nat}{x:Str}{pos':Pos}(hN:X.N.Nodup)(hi:X.N[i]? = some x)(hx:Loc X.env.scope x)(he:QPF X K e te qe)(hs:swapsWith e (some (.Name x pos')) pos.line X.env=pure false:=by rfl)(hf:X.fn x=true\/X.env.scope.names.lookup x=some .local:=by first|exact .inl rfl|exact .inr rfl|assumption) :
  QPS X K (.Assign [.Name x pos'] e pos) (iM te (g8 i)) (yn i qe):=⟨gJ hN hi hx he.h hs hf,w5 he.s⟩
inductive Jd(tb:QS)(D:p8)(W:Nat->Sq->Prop)(m:Nat)(q:Sq):Prop
 | mk(N:Sq->Prop)(less:∀ q',N q'->∃ m',m'<m/\W m' q')(body:tb { D with nx:=N,ct:=N,bk:=D.nx } q)
inductive WhileI(c:QT)(tb:QS)(D:p8)(q:Sq):Prop
 | mk (W:Nat->Sq->Prop) (h0:∃ m,W m q) (turn:∀ m q,W m q->c q fun b=>if b=true then Jd tb D W m q else D.nx q)
def F7(c:QT)(tb:QS):QS:=fun D q=>WhileI c tb D q
theorem tT(hp:PassesOwn (model X.prog X.w) X.A X.env X.xe)(hc:QPT X K c tc qc)(hb:nT X K rest t qt):QPS X K (.While c rest [] pos) (u3 tc t) (F7 qc qt):=⟨t5 hp hc.h hb.h,fun dl H₀ hs H σ q Dq D r hq E=>by
 obtain⟨W,⟨m0,w0⟩,turn⟩:=hq;refine⟨fun m σ H=>∃ q,ix K dl H₀ hs H σ q/\W m q,⟨m0,q,r,w0⟩,?_⟩
 rintro m σ H ⟨q,⟨F,r⟩,w⟩
 refine hc.s dl H σ q _ _ r.rd (turn m q w) fun b H1 e1 hz=>?_
 cases b with
 | false=>exact E.nx H1 σ q ⟨F,r.evo e1⟩ hz
 | true =>
  obtain⟨N,hN,hz⟩:=hz;refine⟨fun σ' H'=>∃ q',ix K dl H₀ hs H' σ' q'/\N q',fun σ' H' ⟨q',r',n'⟩=>?_,?_⟩
  ·obtain⟨m',hm,w'⟩:=hN q' n';exact⟨m',hm,q',r',w'⟩
  ·exact hb.s dl H₀ hs H1 σ q _ _ ⟨F,r.evo e1⟩ hz ⟨fun H σ q r n=>⟨q,r,n⟩,fun H σ q r n=>E.nx H σ q r n,fun H σ q r n=>⟨q,r,n⟩,E.rt⟩⟩
end
abbrev PSp:=List T ->(T->Prop)->Prop
def spQ(K:W.Frag)(ps:PSp):Sp:=fun vs H Q _=>∃(dl:Dl)(ts:List T)(F:List Addr)(Qp:T->Prop),Dls dl H/\Rps K dl H vs ts F/\ps ts Qp /\
 ∀ v t F' H',Evo dl H H'->Rp K dl H' v t F' ->(∀ b∈F',H b=none)->F'.Nodup->Qp t->Q v H'
section
variable{X:Cx}{K:W.Frag}{e:Expr}{es:List Expr}{tl:TA}{ql:QA}{pos p:Pos}{x:Str}{k:Nat}{f:Addr}{fd:FuncData}{prs:List Str}{ps:PSp}
def gv(ps:PSp)(ql:QA):QE:=fun q Q=>ql q fun ts=>ps ts Q
theorem zG{n:Nat}(ha:Hm K n tl ql):k9 K (pz (spQ K ps) [] E0 tl) (gv ps ql):=fun dl H σ q Q R rd hq k=>ha dl H σ q _ _ rd hq fun vs ts F H1 e1 r1 _ hz=>by
 show spQ K ps (vs ++ []) H1 R E0;rw[List.append_nil];exact⟨dl,ts,F,Q,e1.d,r1,hz,fun v t F' H' e r f n hz=>k v t F' H' (e1.trans e) r (fun b hb=>e1.free (f b hb)) n hz⟩
theorem ao(F:aH X.prog X.w X.K X.mg X.base CX0 k f fd prs (spQ K ps))(hr:cU k X.A)(hg:Gl X x)(hm:X.mg x=some (.ref f))(hk:W.keepIn X.K (.ref f)=true)(hb:Binds X.K fd prs [])(ha:QPA X K (e::es) tl ql)
  (hdb:(x ==("__debug__":Str))=false:=by decide) (he:starEach (e::es) X.env =(false,eval e X.env)::starEach es X.env:=by rfl) (hpl:(backTo pos (starEach es X.env)).any (·.1)=false:=by rfl) :
  QPF X K (.Call (.Name x p) (e::es) [] pos) (pz (spQ K ps) [] E0 tl) (gv ps ql):=⟨rf F hr hg hm hk hb .nil xw ha.h hdb he hpl,zG ha.s⟩
end
theorem pB{K:W.Frag}{dl:Dl}{H:Hp}{vs:List V}{ts:List T}{F:List Addr}{n:Nat}(D:Dls dl H)(r:Rps K dl H vs ts F)(hn:vs.length<=n):ix K dl H [] H (vs.map some++List.replicate (n - vs.length) none) (ts.map Sl.r++List.replicate (n - vs.length) .no):=by
 have hl:=r.r.len;have main:∀{vs:List V}{ts:List T}{F:List Addr},av K dl H vs ts F ->(∀ b∈F,Nd dl b)->∃ Fs:Nat->List Addr,(∀(i:Nat)(t:T),ts[i]? = some t->∃ v,vs[i]? = some v/\Rp K dl H v t (Fs i))/\∀ i,ts.length<=i->Fs i = []:=by
  intro vs ts F h
  induction ts generalizing vs F with
  | nil=>intro _;exact⟨fun _=>[],fun i t e=>by simp at e,fun _ _=>rfl⟩
  | cons t ts ih =>
   cases h with
   | @cons v0 _ vs0 _ F1 G1 h1 h2 =>
    intro hn;obtain⟨Fs,g1,g2⟩:=ih h2 fun b hb=>hn b (List.mem_append_right _ hb)
    refine⟨fun i=>match i with | 0=>F1|i+1=>Fs i,fun i u e=>?_,fun i hi=>?_⟩
    ·cases i with
     | zero =>
      simp at e;subst e;exact⟨_,by simp,h1,fun b hb=>hn b (List.mem_append_left _ hb)⟩
     | succ i =>
      obtain⟨v,e1,e2⟩:=g1 i u (by simpa using e)
      exact⟨v,by simpa using e1,e2⟩
    ·cases i with
     | zero=>simp at hi
     | succ i=>exact g2 i (by simpa using hi)
 obtain⟨Fs,g1,g2⟩:=main r.r r.n;have lk:∀(i:Nat)(y:Sl),(ts.map Sl.r++List.replicate (n - vs.length) Sl.no)[i]? = some y ->(∃ t,ts[i]? = some t/\y = .r t)\/(ts.length<=i/\y = .no):=fun i y h=>by
  by_cases hi:i<ts.length
  ·rw[List.getElem?_append_left (by simpa using hi),List.getElem?_map,List.getElem?_eq_getElem hi]at h
   exact .inl ⟨ts[i],by simp,(Option.some.inj h).symm⟩
  ·rw[List.getElem?_append_right (by simpa using hi),List.getElem?_replicate]at h
   split at h
   ·exact .inr ⟨by omega,(Option.some.inj h).symm⟩
   ·cases h
 refine⟨Fs,D,fun i y t h1 h2=>?_,fun i y h1 h2=>?_,fun i hi=>?_,fun i t h1=>?_,fun p hp=>(by cases hp),.refl,by simp[hl]⟩
 ·rcases lk i y h1 with⟨u,e,rfl⟩ |⟨_,rfl⟩
  ·cases h2;obtain⟨v,e1,e2⟩:=g1 i t e;refine⟨v,?_,e2⟩;have hi:i<vs.length:=(List.getElem?_eq_some_iff.mp e1).1;rw[List.getElem?_append_left (by simpa using hi),List.getElem?_map,e1]
   rfl
  ·cases h2
 ·rcases lk i y h1 with⟨u,e,rfl⟩ |⟨hi,rfl⟩
  ·cases h2
  ·exact g2 i hi
 ·refine g2 i ?_;simp at hi;omega
 ·rcases lk i _ h1 with⟨u,e,z⟩ |⟨_,z⟩ <;> cases z
theorem Fun.okQ{P:Program}{w:World}{K:W.Frag}{mg:Str->Option Value}{base:Heap}{x qual:Str}{st:Stmt}{f:Addr}{fd:FuncData}{N ps:List Str}{k:Nat}{psp:PSp}(F:Fun K x qual st f fd)(S:aP N ps (ak st))(len:∀ ts Q,psp ts Q->ts.length=ps.length)
  (jO:∀(cdv:Value)(A:Around)(outer:List Env)(s:Shared)(H:Hp)(E:XK),cU k (A.deeper (envOfC qual (ak st) s.heap.objs.size f cdv)) ->
   ∃ t qs,nT (oT CX0 P w K mg base N qual (ak st) f cdv A outer s H E).nox K (aE st) t qs/\∀ ts Q,psp ts Q->qs { nx:=fun _=>Q .n,rt:=Q } (ts.map Sl.r++List.replicate (N.length - ts.length) .no)):aH P w K mg base CX0 (k+1) f fd ps (spQ K psp):=by
 have hPN:ps.length<=N.length:=by have:=congrArg List.length S.pre;rw[List.length_take]at this;omega
 refine F.ok S (fun vs H Q E h=>?_) (fun cdv A outer s H vs Q E hr h=>?_)
 ·obtain⟨dl,ts,F,Qp,_,r,h,_⟩:=h;rw[r.r.len];exact len ts Qp h
 ·obtain⟨dl,ts,Fp,Qp,D,r,h,fin⟩:=h;obtain⟨t,qs,hb,hq⟩:=jO cdv A outer s H E hr;refine⟨t,hb.h,?_⟩;have hlen:=len ts Qp h;have hl:=r.r.len;have z:=hq ts Qp h;have R:=pB (n:=N.length) D r (by omega)
  rw[<- hl]at z;refine hb.s dl H [] H _ _ _ _ R z ⟨fun H' σ q ⟨F,r'⟩ hz=>?_,fun _ _ _ _ hz=>hz.elim,fun _ _ _ _ hz=>hz.elim,fun v t F H' D' r' f' n' fr hz=>?_⟩
  ·exact fin .non .n [] H' (r'.f.evo r'.d) ⟨.n,fun _ z=>nomatch z⟩ (fun _ z=>nomatch z) List.nodup_nil hz
  ·exact fin v t F H' (fr.evo D') r' f' n' hz
structure uR(K:W.Frag)(dl:Dl)(J:It)(xs:List T)(hv:List (V×T)):Prop where
 go:∀(H:Hp)(i:Nat),Dls dl H ->(∀ p∈hv,∃ F,Rp K dl H p.1 p.2 F)->i<xs.length->J.go i H
 yld:∀(H:Hp)(i:Nat)(x:T)(fp:V×T->List Addr)(v:V)(H':Hp),Dls dl H ->(∀ p∈hv,Rp K dl H p.1 p.2 (fp p))->xs[i]? = some x->J.yld i H v H'->Evo dl H H'/\∃ F,Rp K dl H' v x F/\∀ b∈F,H b=none\/∃ p∈hv,b∈fp p
 stop:∀(H:Hp),Dls dl H ->(∀ p∈hv,∃ F,Rp K dl H p.1 p.2 F)->J.stop xs.length H
section
variable{X:Cx}{K:W.Frag}{dl:Dl}
theorem xG{a:Addr}{xs:List T}:uR K dl (Itl K a) xs [(.ref a,.l xs)] where
 go:=fun H i D h hi=>by
  obtain⟨F,r⟩:=h _ (List.mem_singleton.mpr rfl);obtain⟨p,vs,G,e,_,h1,h2⟩:=r.r.lst;cases e;exact⟨vs,vs[i]'(by rw[h2.len];exact hi),SqL.of h1,by simp[h2.len,hi]⟩
 yld:=fun H i x fp v H' D h hx y=>by
  have r:=h _ (List.mem_singleton.mpr rfl);obtain⟨p,vs,G,e,eF,h1,h2⟩:=r.r.lst;cases e;obtain⟨rfl,y⟩:=y;obtain⟨w,G',hw,rw',hs⟩:=h2.get hx;have e2:=y vs (SqL.of h1);rw[hw]at e2;cases e2;have sub:∀ b∈G',b∈fp (V.ref a,T.l xs):=fun b hb=>by
   rw[eF];exact List.mem_cons_of_mem _ (hs b hb)
  exact⟨.refl D,G',⟨rw',fun b hb=>r.n b (sub b hb)⟩,fun b hb=>.inr ⟨_,List.mem_singleton.mpr rfl,sub b hb⟩⟩
 stop:=fun H D h=>by
  obtain⟨F,r⟩:=h _ (List.mem_singleton.mpr rfl);obtain⟨p,vs,G,e,_,h1,h2⟩:=r.r.lst;cases e;exact⟨vs,SqL.of h1,by rw[h2.len];exact Nat.le_refl _⟩
theorem vW{a:Addr}{xs:List T}:uR K dl (Itt K a) xs [(.ref a,.t xs)] where
 go:=fun H i D h hi=>by
  obtain⟨F,r⟩:=h _ (List.mem_singleton.mpr rfl);obtain⟨p,vs,e,h1,h2⟩:=r.r.tup;cases e;exact⟨vs,vs[i]'(by rw[h2.len];exact hi),SqT.of h1,by simp[h2.len,hi]⟩
 yld:=fun H i x fp v H' D h hx y=>by
  have r:=h _ (List.mem_singleton.mpr rfl);obtain⟨p,vs,e,h1,h2⟩:=r.r.tup;cases e;obtain⟨rfl,y⟩:=y;obtain⟨w,G',hw,rw',hs⟩:=h2.get hx;have e2:=y vs (SqT.of h1);rw[hw]at e2;cases e2;exact⟨.refl D,G',⟨rw',fun b hb=>r.n b (hs b hb)⟩,fun b hb=>.inr ⟨_,List.mem_singleton.mpr rfl,hs b hb⟩⟩
 stop:=fun H D h=>by
  obtain⟨F,r⟩:=h _ (List.mem_singleton.mpr rfl);obtain⟨p,vs,e,h1,h2⟩:=r.r.tup;cases e;exact⟨vs,SqT.of h1,by rw[h2.len];exact Nat.le_refl _⟩
theorem Be{lo:Int}{n:Nat}:uR K dl (Itr lo n) ((List.range n).map fun i=>.i (lo+(i:Nat))) [] where
 go:=fun H i D h hi=>by
  show i<n;simpa using hi
 yld:=fun H i x fp v H' D h hx y=>by
  obtain⟨rfl,rfl⟩:=y;rw[List.getElem?_map]at hx;cases e:(List.range n)[i]? with
  | none=>rw[e]at hx;cases hx
  | some j =>
   rw[e]at hx;have hj:j=i:=by
    have:=List.getElem?_eq_some_iff.mp e
    obtain⟨h1,h2⟩:=this;simp at h2;exact h2.symm
   subst hj;cases hx;exact⟨.refl D,[],.c (.i _),fun _ z=>nomatch z⟩
 stop:=fun H D h=>by show n<=_;simp
abbrev QI:=Sq ->(List T->Prop)->Prop
def Jf(K:W.Frag)(wi:TI)(iq:QI):Prop:=∀(dl:Dl)(H:Hp)(σ:St)(q:Sq)(Q:List T->Prop)(R:It->Hp->Prop),RdR K dl H σ q->iq q Q ->
 (∀ xs J hv H',Evo dl H H'->uR K dl J xs hv ->(∀ p∈hv,∃ F,Rp K dl H' p.1 p.2 F)->Q xs->R J H')->wi σ H R
structure QPI(X:Cx)(K:W.Frag)(tg iter:Expr)(wi:TI)(iq:QI):Prop where
 h:PI X tg iter wi
 s:Jf K wi iq
abbrev QJ:=Sq ->(List T->Sq->Prop)->Prop
def J6(K:W.Frag)(wi:TI)(iq:QJ):Prop:=∀(dl:Dl)(H₀:Hp)(hs:List (V×T))(H:Hp)(σ:St)(q:Sq)(Q:List T->Sq->Prop)(R:It->Hp->Prop),ix K dl H₀ hs H σ q->iq q Q ->
 (∀ xs J hv H' q',ix K dl H₀ (hv++hs) H' σ q'->uR K dl J xs hv->Q xs q'->R J H')->wi σ H R
structure QPJ(X:Cx)(K:W.Frag)(tg iter:Expr)(wi:TI)(iq:QJ):Prop where
 h:PI X tg iter wi
 s:J6 K wi iq
variable{tg e a b:Expr}{te ta tb:TE}{qe qa qb:QE}{tl:TA}{ql:QA}{pos p:Pos}
theorem t7(hK:X.K=K)(h:PE X e te):PI X tg e (xJ K te):=by subst hK;exact md h
theorem q9(hK:X.K=K)(h:PE X e te):PI X tg e (Bj K te):=by subst hK;exact Gm h
def asL(qe:QE):QI:=fun q Q=>qe q fun t=>match t with | .l xs=>Q xs | _=>False
def asT(qe:QE):QI:=fun q Q=>qe q fun t=>match t with | .t xs=>Q xs | _=>False
theorem qP(h:QPE X K e te qe)(hK:X.K=K:=by rfl):QPI X K tg e (xJ K te) (asL qe):=⟨t7 hK h.h,fun dl H σ q Q R rd hq k=>h.s dl H σ q _ _ rd hq fun v t F H' e1 r hz=>by
 split at hz
 ·obtain⟨p,vs,G,rfl,rfl,h1,h2⟩:=r.r.lst;exact⟨p,rfl,⟨vs,SqL.of h1⟩,k _ _ _ H' e1 xG (fun p hp=>by rw[List.mem_singleton.mp hp];exact⟨_,r⟩) hz⟩
 ·exact hz.elim⟩
theorem qO(h:QPE X K e te qe)(hK:X.K=K:=by rfl):QPI X K tg e (Bj K te) (asT qe):=⟨q9 hK h.h,fun dl H σ q Q R rd hq k=>h.s dl H σ q _ _ rd hq fun v t F H' e1 r hz=>by
 split at hz
 ·obtain⟨p,vs,rfl,h1,h2⟩:=r.r.tup;exact⟨p,rfl,⟨vs,SqT.of h1⟩,k _ _ _ H' e1 vW (fun p hp=>by rw[List.mem_singleton.mp hp];exact⟨_,r⟩) hz⟩
 ·exact hz.elim⟩
def zN(lo:Int)(n:Nat):List T:=(List.range n).map fun i=>.i (lo+(i:Nat))
theorem i3{lo:Int}{n i:Nat}{x:T}(h:(zN lo n)[i]? = some x):x = .i (lo+(i:Nat))/\i<n:=by
 unfold zN at h;rw[List.getElem?_map]at h;obtain⟨j,hj,rfl⟩:=Option.map_eq_some_iff.mp h;obtain⟨h1,h2⟩:=List.getElem?_eq_some_iff.mp hj;simp at h1 h2;subst h2;exact⟨rfl,h1⟩
theorem dm{lo:Int}{n:Nat}:(zN lo n).length=n:=by simp[zN]
def Jc(ql:QA):QI:=fun q Q=>ql q fun ts=>match ts with | [.i n]=>-(2 ^ 62)<=n/\n<2 ^ 62/\Q (zN 0 n.toNat) | _=>False
theorem kF(hg:Gl X "range")(hm:X.mg "range" = none)(ha:QPA X K [a] tl ql)(hs:starEach [a] X.env = [(false,eval a X.env)]:=by rfl):QPI X K tg (.Call (.Name "range" p) [a] [] pos) (Bk tl) (Jc ql):=⟨pJ hg hm ha.h hs,fun dl H σ q Q R rd hq k=>ha.s dl H σ q _ _ rd hq fun vs ts F H' e1 r _ hz=>by
 split at hz
 ·obtain⟨v,rfl,r'⟩:=r.one;obtain⟨rfl,_⟩:=r'.r.int;exact⟨_,rfl,hz.1,hz.2.1,k _ _ [] H' e1 Be (fun _ z=>nomatch z) hz.2.2⟩
 ·exact hz.elim⟩
def asJ(iq:QI):QJ:=fun q Q=>iq q fun xs=>Q xs q
theorem iH(hg:Gl X "range")(hm:X.mg "range" = none)(ha:QPA X K [a] tl ql)(hs:starEach [a] X.env = [(false,eval a X.env)]:=by rfl):QPJ X K tg (.Call (.Name "range" p) [a] [] pos) (Bk tl) (asJ (Jc ql)):=⟨pJ hg hm ha.h hs,fun dl H₀ hs H σ q Q R ⟨F0,r0⟩ hq k=>ha.s dl H σ q _ _ r0.rd hq fun vs ts F H' e1 r _ hz=>by
 split at hz
 ·obtain⟨v,rfl,r'⟩:=r.one;obtain⟨rfl,_⟩:=r'.r.int;exact⟨_,rfl,hz.1,hz.2.1,k _ _ [] H' q ⟨F0,r0.evo e1⟩ Be hz.2.2⟩
 ·exact hz.elim⟩
theorem eV(h:QPF X K e te qe)(hK:X.K=K:=by rfl):QPJ X K tg e (Bj K te) (asJ (asT qe)):=⟨q9 hK h.h,fun dl H₀ hs H σ q Q R ⟨F0,r0⟩ hq k=>h.s dl H σ q _ _ r0.rd hq fun v t F H' e1 r f n hz=>by
 split at hz
 ·have r1:=(r0.evo e1).hold r fun j u hj b hb z=>(r0.ko hb).no (f b z)
  obtain⟨p,vs,rfl,h1,h2⟩:=r.r.tup;exact⟨p,rfl,⟨vs,SqT.of h1⟩,k _ _ _ H' q ⟨F0,r1⟩ vW hz⟩
 ·exact hz.elim⟩
inductive Tg where
 | nm(i:Nat)|tp (is:List Nat)
def lF(q:Sq):List Nat->List T->Option Sq
 | [],[]=>some q
 | i::is,x::xs=>if i<q.length then lF (q.set i (.r x)) is xs else none
 | _,_=>none
def Tg.put(g:Tg)(x:T)(q:Sq):Option Sq:=match g with
 | .nm i=>if i<q.length then some (q.set i (.r x))else none
 | .tp is=>match x with | .t xs=>lF q is xs | _=>none
def sj:List Nat->TGs
 | []=>IM
 | i::is=>Fm (g8 i) (sj is)
def Tg.h(K:W.Frag):Tg->TG
 | .nm i=>g8 i
 | .tp is=>Hh K is.length (sj is)
theorem pC{H₀ H:Hp}{hs:List (V×T)}:∀{is:List Nat}{vs:List V}{xs:List T}{G:List Addr}{σ:St}{q q':Sq}{F:Nat->List Addr}{R:St->Hp->Prop},Rel K dl H₀ hs H σ q F->av K dl H vs xs G ->(∀ b∈G,Nd dl b) ->
  (∀(j:Nat)(u:T),q[j]? = some (.o u)->∀ b∈F j,b ∉ G)->lF q is xs=some q' ->(∀ σ',ix K dl H₀ hs H σ' q'->R σ' H)->sj is vs σ H R
 | [],vs,xs,G,σ,q,q',F,R,r,rs,_,_,hp,k=>by
  cases xs with
  | cons _ _=>cases hp
  | nil =>
   cases rs;cases hp;exact⟨rfl,k σ ⟨F,r⟩⟩
 | i::is,vs,xs,G,σ,q,q',F,R,r,rs,hn,ho,hp,k=>by
  cases xs with
  | nil=>cases hp
  | cons x xs =>
   cases rs with
   | cons r1 r2 =>
    unfold lF at hp;by_cases hi:i<q.length
    ·rw[if_pos hi]at hp;refine⟨_,_,rfl,?_⟩;have r':=r.Gg hi ⟨r1,fun b hb=>hn b (List.mem_append_left _ hb)⟩ fun j u hj _ b hb z=>ho j u hj b hb (List.mem_append_left _ z)
     refine pC r' r2 (fun b hb=>hn b (List.mem_append_right _ hb)) (fun j u hj b hb z=>?_) hp k
     rcases get_set hj with⟨_,z',_⟩ |⟨ne,hj⟩
     ·cases z'
     ·rw[aR ne]at hb;exact ho j u hj b hb (List.mem_append_right _ z)
    ·rw[if_neg hi]at hp;cases hp
theorem vf{H₀ H:Hp}{hs:List (V×T)}{g:Tg}{v:V}{x:T}{G:List Addr}{σ:St}{q q':Sq}{F:Nat->List Addr}{R:St->Hp->Prop}(r:Rel K dl H₀ hs H σ q F)(rx:Rp K dl H v x G)
  (ho:∀(j:Nat)(u:T),q[j]? = some (.o u)->∀ b∈F j,b ∉ G) (hp:g.put x q=some q') (k:∀ σ',ix K dl H₀ hs H σ' q'->R σ' H):g.h K v σ H R:=by
 cases g with
 | nm i =>
  replace hp:(if i<q.length then some (q.set i (.r x))else none)=some q':=hp
  by_cases hi:i<q.length
  ·rw[if_pos hi]at hp;cases hp;exact k _ ⟨_,r.Gg hi rx fun j u hj _=>ho j u hj⟩
  ·rw[if_neg hi]at hp;cases hp
 | tp is =>
  cases x with
  | t xs =>
   replace hp:lF q is xs=some q':=hp
   obtain⟨p,vs,rfl,h1,h2⟩:=rx.r.tup;have hl:∀{is:List Nat}{xs:List T}{q q':Sq},lF q is xs=some q'->xs.length=is.length:=fun{is}=>by
    induction is with
    | nil=>intro xs q q' h;cases xs with
     | nil=>rfl
     | cons _ _=>cases h
    | cons i is ih=>intro xs q q' h;cases xs with
     | nil=>cases h
     | cons x xs =>
      unfold lF at h;by_cases hi:i<q.length
      ·rw[if_pos hi]at h;simp[ih h]
      ·rw[if_neg hi]at h;cases h
   exact⟨p,vs,rfl,SqT.of h1,by rw[h2.len];exact hl hp,pC r h2 rx.n ho hp k⟩
  | _=>cases hp
end
section
variable{X:Cx}{K:W.Frag}{dl:Dl}{H₀ H:Hp}{hs:List (V×T)}{σ:St}{q:Sq}{F:Nat->List Addr}
theorem Rel.wU{hv:List (V×T)}(r:Rel K dl H₀ (hv++hs) H σ q F):Rel K dl H₀ hs H σ q F:=⟨r.d,r.g,r.n,r.z,r.o,fun p hp=>r.h p (List.mem_append_right _ hp),r.f,r.l⟩
theorem Rel.fps{hv:List (V×T)}(r:Rel K dl H₀ (hv++hs) H σ q F):∃ fp:V×T->List Addr,∀ p∈hv,Rp K dl H p.1 p.2 (fp p)/\∀(i:Nat)(t:T),q[i]? = some (.o t)->∀ b∈F i,b ∉ fp p:=by
 classical
 refine⟨fun p=>if h:p∈hv then(r.h p (List.mem_append_left _ h)).choose else [],fun p hp=>?_⟩
 have z:=(r.h p (List.mem_append_left _ hp)).choose_spec;simp only[dif_pos hp];exact z
inductive J7(g:Tg)(qb:QS)(D:p8)(xs:List T)(q0:Sq):Prop
 | mk(I:Nat->Sq->Prop)(h0:I 0 q0)(step:∀ i x q,xs[i]? = some x->I i q->∃ q',g.put x q=some q'/\qb { D with nx:=I (i+1),ct:=I (i+1),bk:=D.nx } q')(fin:∀ q,I xs.length q->D.nx q)
def Jr(iq:QJ)(g:Tg)(qb:QS):QS:=fun D q=>iq q fun xs q0=>J7 g qb D xs q0
theorem cb{tg iter:Expr}{body:List Stmt}{wi:TI}{iq:QJ}{g:Tg}{tb:TS}{qb:QS}{pos:Pos}(hp:PassesOwn (model X.prog X.w) X.A X.env X.xe)(hc:X.calm=true)(hi:QPJ X K tg iter wi iq)(hg:PG X tg (g.h K))(hb:nT X K body tb qb)
  (hs:∀ x,foldedSetIterable iter X.env x=pure x:=by intro _;rfl):QPS X K (.For tg iter body [] pos) (Hy wi (g.h K) tb) (Jr iq g qb):=⟨Am hp hc hi.h hg hb.h hs,fun dl H₀ hs H σ q Dq D r hq E=>by
 refine hi.s dl H₀ hs H σ q _ _ r hq fun xs J hv H1 q1 r1 it hz=>?_
 obtain⟨I,i0,turn,fin⟩:=hz;refine⟨fun i m σ H=>m=xs.length - i/\i<=xs.length/\∃ q,ix K dl H₀ (hv++hs) H σ q/\I i q,⟨xs.length,by simp,Nat.zero_le _,q1,r1,i0⟩,?_⟩
 rintro i m σ H ⟨rfl,hi',q,⟨F,r⟩,hI⟩
 have held:∀ p∈hv,∃ F,Rp K dl H p.1 p.2 F:=fun p hp=>let⟨Fp,h,_⟩:=r.h p (List.mem_append_left _ hp);⟨Fp,h⟩
 by_cases hlt:i<xs.length
 ·refine .inr ⟨it.go H i r.d held hlt,fun σ' H'=>∃ q,ix K dl H₀ (hv++hs) H' σ' q/\I (i+1) q,fun σ' H' h=>⟨xs.length - (i+1),by omega,rfl,hlt,h⟩,fun v H' y=>?_⟩
  obtain⟨fp,hfp⟩:=r.fps;have hx:xs[i]? = some xs[i]:=by simp[hlt]
  obtain⟨e1,G,rx,hG⟩:=it.yld H i xs[i] fp v H' r.d (fun p hp=>(hfp p hp).1) hx y
  obtain⟨q',hq',hz⟩:=turn i xs[i] q hx hI;refine vf (r.evo e1) rx (fun j u hj b hb z=>?_) hq' fun σ2 r2=>hb.s dl H₀ (hv++hs) H' σ2 q' _ _ r2 hz ⟨fun H σ q r n=>⟨q,r,n⟩,fun H σ q ⟨F,r⟩ n=>E.nx H σ q ⟨F,r.wU⟩ n,fun H σ q r n=>⟨q,r,n⟩,E.rt⟩
  rcases hG b z with h |⟨p,hp,h⟩
  ·exact(r.ko hb).no h
  ·exact(hfp p hp).2 j u hj b hb h
 ·have e:i=xs.length:=by omega
  subst e;exact .inl ⟨it.stop H r.d held,E.nx H σ q ⟨F,r.wU⟩ (fin q hI)⟩⟩
def hX(cap:List (Option Nat))(q:Sq):Sq:=cap.map fun o=>match o with
 | none=>.no
 | some i=>match q[i]? with
  | some (.o t)=>.r t
  | some (.r t)=>.r t
  | _=>.no
theorem CF{cap:List (Option Nat)}(r:RdR K dl H σ q):RdR K dl H (j6 cap σ) (hX cap q):=⟨r.d,fun j x t h1 h2=>by
 unfold hX at h1;rw[List.getElem?_map]at h1;cases e:cap[j]? with
 | none=>rw[e]at h1;cases h1
 | some o =>
  rw[e]at h1;cases o with
  | none=>cases h1;cases h2
  | some i =>
   have go:∀ y:Sl,q[i]? = some y->y.get=some t->∃ v F,(j6 cap σ)[j]? = some (some v)/\Rp K dl H v t F:=fun y hy ht=>by
    obtain⟨v,F,h3,h4⟩:=r.g i y t hy ht;refine⟨v,F,?_,h4⟩;unfold j6;rw[List.getElem?_map,e];show some ((σ[i]?).join)=_;rw[h3];rfl
   replace h1:(match q[i]? with|some (.o t)=>Sl.r t|some (.r t)=>.r t | _=>.no)=x:=Option.some.inj h1
   split at h1
   ·rename_i u eq;subst h1;cases h2;exact go _ eq rfl
   ·rename_i u eq;subst h1;cases h2;exact go _ eq rfl
   ·subst h1;cases h2⟩
theorem RdR.set{i:Nat}{v:V}{x:T}{G:List Addr}(r:RdR K dl H σ q)(hl:i < σ.length)(rx:Rp K dl H v x G):RdR K dl H (σ.set i (some v)) (q.set i (.r x)):=⟨r.d,fun j y t h1 h2=>by
 rcases get_set h1 with⟨rfl,rfl,_⟩ |⟨ne,h1⟩
 ·cases h2;exact⟨v,G,by rw[List.getElem?_set_self hl],rx⟩
 ·obtain⟨w,F,h3,h4⟩:=r.g j y t h1 h2;exact⟨w,F,by rw[List.getElem?_set_ne (fun z=>ne z.symm)];exact h3,h4⟩⟩
theorem RdR.any{i:Nat}{o:Option V}(r:RdR K dl H σ q)(hn:q[i]? = some .no):RdR K dl H (σ.set i o) q:=⟨r.d,fun j y t h1 h2=>by
 obtain⟨w,F,h3,h4⟩:=r.g j y t h1 h2;refine⟨w,F,?_,h4⟩;rw[List.getElem?_set_ne]
 ·exact h3
 ·intro z;subst z;rw[hn]at h1;cases h1;cases h2⟩
def Tg.ixs:Tg->List Nat
 | .nm i=>[i]
 | .tp is=>is
theorem tS:∀{is:List Nat}{vs:List V}{xs:List T}{G:List Addr}{σ:St}{q q0 q':Sq}{R:St->Hp->Prop},RdR K dl H σ q->RdR K dl H σ q0->σ.length=q.length->av K dl H vs xs G ->(∀ b∈G,Nd dl b) ->(∀ i∈is,q0[i]? = some .no)->lF q is xs=some q' ->
  (∀ σ',RdR K dl H σ' q'->RdR K dl H σ' q0->σ'.length=σ.length->R σ' H)->sj is vs σ H R
 | [],vs,xs,G,σ,q,q0,q',R,r,r0,_,rs,_,_,hp,k=>by
  cases xs with
  | cons _ _=>cases hp
  | nil =>
   cases rs;cases hp;exact⟨rfl,k σ r r0 rfl⟩
 | i::is,vs,xs,G,σ,q,q0,q',R,r,r0,hl,rs,hn,hf,hp,k=>by
  cases xs with
  | nil=>cases hp
  | cons x xs =>
   cases rs with
   | cons r1 r2 =>
    unfold lF at hp;by_cases hi:i<q.length
    ·rw[if_pos hi]at hp;refine⟨_,_,rfl,?_⟩;refine tS (r.set (by omega) ⟨r1,fun b hb=>hn b (List.mem_append_left _ hb)⟩) (r0.any (hf i List.mem_cons_self)) (by simp[hl]) r2 (fun b hb=>hn b (List.mem_append_right _ hb)) (fun j hj=>hf j (List.mem_cons_of_mem _ hj)) hp fun σ' a b c=>k σ' a b (by simpa using c)
    ·rw[if_neg hi]at hp;cases hp
theorem tZ:∀{is:List Nat}{xs:List T}{q q':Sq},lF q is xs=some q'->xs.length=is.length
 | [],[],_,_,_=>rfl
 | [],_::_,_,_,h=>by cases h
 | _::_,[],_,_,h=>by cases h
 | i::is,x::xs,q,q',h=>by
  unfold lF at h;by_cases hi:i<q.length
  ·rw[if_pos hi]at h;simp[tZ h]
  ·rw[if_neg hi]at h;cases h
theorem HE{g:Tg}{v:V}{x:T}{G:List Addr}{q':Sq}{R:St->Hp->Prop}(r:RdR K dl H σ q)(hl:σ.length=q.length)(rx:Rp K dl H v x G)(hf:∀ i∈g.ixs,q[i]? = some .no)(hp:g.put x q=some q')
  (k:∀ σ',RdR K dl H σ' q'->RdR K dl H σ' q->σ'.length=σ.length->R σ' H):g.h K v σ H R:=by
 cases g with
 | nm i =>
  replace hp:(if i<q.length then some (q.set i (.r x))else none)=some q':=hp
  by_cases hi:i<q.length
  ·rw[if_pos hi]at hp;cases hp;exact k _ (r.set (by omega) rx) (r.any (hf i (List.mem_singleton.mpr rfl))) (by simp)
  ·rw[if_neg hi]at hp;cases hp
 | tp is =>
  cases x with
  | t xs =>
   replace hp:lF q is xs=some q':=hp
   obtain⟨p,vs,rfl,h1,h2⟩:=rx.r.tup;exact⟨p,vs,rfl,SqT.of h1,by rw[h2.len];exact tZ hp,tS r r hl h2 rx.n hf hp k⟩
  | _=>cases hp
def Aa:QT:=fun _ Q=>Q true
theorem zw:k8 K wV Aa:=fun dl H σ q Q R rd hq k=>k true H (.refl rd.d) hq
inductive CompI(cap:List (Option Nat))(g:Tg)(tst:QT)(qe:QE)(q:Sq)(Q:T->Prop)(xs:List T):Prop
 | mk (hl:xs.length<sizeLine) (I:Nat->List T->Prop) (h0:I 0 []) (step:∀ i x ys,xs[i]? = some x->I i ys->∃ q',g.put x (hX cap q)=some q'/\tst q' fun b=>if b=true then qe q' fun y=>I (i+1) (ys ++ [y])else I (i+1) ys) (fin:∀ ys,I xs.length ys->Q (.l ys))
def xl(cap:List (Option Nat))(iq:QI)(g:Tg)(tst:QT)(qe:QE):QE:=fun q Q=>iq q fun xs=>CompI cap g tst qe q Q xs
theorem tO{cap:List (Option Nat)}{wi:TI}{iq:QI}{g:Tg}{tst:TT}{kE:QT}{te:TE}{qe:QE}(hi:Jf K wi iq)(ht:k8 K tst kE)(he:k9 K te qe)(hf:(g.ixs.all fun i=>cap[i]? == some none)=true):k9 K (px cap wi (g.h K) tst te) (xl cap iq g kE qe):=by
 intro dl H σ q Q R rd hq k;refine hi dl H σ q _ _ rd hq fun xs J hv H1 e1 it held hz=>?_
 obtain⟨hlen,I,i0,turn,fin⟩:=hz;have rd1:=CF (cap:=cap) (rd.evo e1);have hno:∀ i∈g.ixs,(hX cap q)[i]? = some .no:=fun i hi=>by
  have z:=List.all_eq_true.mp hf i hi;have z:cap[i]? = some none:=by simpa using z
  unfold hX;rw[List.getElem?_map,z];rfl
 have hcl:(j6 cap σ).length =(hX cap q).length:=by simp[j6,hX]
 refine⟨fun i m vs σ' H'=>m=xs.length - i/\i<=xs.length/\∃ ts F,Evo dl H1 H'/\RdR K dl H' σ' (hX cap q)/\σ'.length =(hX cap q).length/\(∀ p∈hv,∃ F,Rp K dl H' p.1 p.2 F)/\Rps K dl H' vs ts F/\(∀ b∈F,H b=none)/\F.Nodup/\vs.length<=i/\I i ts,
  ⟨xs.length,by simp,Nat.zero_le _,[],[],.refl e1.d,rd1,hcl,held,⟨.nil,fun _ z=>nomatch z⟩,(fun _ z=>nomatch z),List.nodup_nil,Nat.le_refl _,i0⟩,?_⟩
 rintro i m vs σ' H' ⟨rfl,hi',ts,F,e2,rd2,hl2,uC,rs,fr,nd,hvl,hI⟩
 by_cases hlt:i<xs.length
 ·refine .inr ⟨it.go H' i e2.d uC hlt,by omega,fun vs2 σ2 H2=>∃ ts F,Evo dl H1 H2/\RdR K dl H2 σ2 (hX cap q)/\σ2.length =(hX cap q).length/\(∀ p∈hv,∃ F,Rp K dl H2 p.1 p.2 F)/\Rps K dl H2 vs2 ts F/\(∀ b∈F,H b=none)/\F.Nodup/\vs2.length<=i+1/\I (i+1) ts,
   fun vs2 σ2 H2 h=>⟨xs.length - (i+1),by omega,rfl,hlt,h⟩,fun v H2 y=>?_⟩
  have hx:xs[i]? = some xs[i]:=by simp[hlt]
  obtain⟨fp,hfp⟩:∃ fp:V×T->List Addr,∀ p∈hv,Rp K dl H' p.1 p.2 (fp p):=by
   classical
   refine⟨fun p=>if h:p∈hv then(uC p h).choose else [],fun p hp=>?_⟩
   simp only[dif_pos hp];exact(uC p hp).choose_spec
  obtain⟨e3,G,rx,hG⟩:=it.yld H' i xs[i] fp v H2 e2.d hfp hx y;obtain⟨q',hq',hz⟩:=turn i xs[i] ts hx hI;have Fj:∀{H3:Hp},Evo dl H' H3->∀ p∈hv,∃ F,Rp K dl H3 p.1 p.2 F:=fun{H3} e p hp=>let⟨F,r⟩:=uC p hp;⟨F,r.evo e2.d e⟩
  refine HE (rd2.evo e3) hl2 rx hno hq' fun σ3 r3 r30 l3=>?_
  refine ht dl H2 σ3 q' _ _ r3 hz fun b H4 e4 hz=>?_
  cases b with
  | false=>exact⟨ts,F,(e2.trans e3).trans e4,r30.evo e4,by omega,Fj (e3.trans e4),(rs.evo e2.d e3).evo e3.d e4,fr,nd,by omega,hz⟩
  | true =>
   refine he dl H4 σ3 q' _ _ (r3.evo e4) hz fun w t G' H5 e5 rw' f5 n5 hz=>?_
   have E:=(e2.trans e3).trans (e4.trans e5);have rs5:=((rs.evo e2.d e3).evo e3.d (e4.trans e5));refine⟨ts ++ [t],F++(G' ++ []),E,r30.evo (e4.trans e5),by omega,Fj (e3.trans (e4.trans e5)),⟨rs5.r.append (.cons rw'.r .nil),fun b hb=>?_⟩,fun b hb=>?_,?_,by simp;omega,hz⟩
   ·rcases List.mem_append.mp hb with hb|hb
    ·exact rs.n b hb
    ·rw[List.append_nil]at hb;exact rw'.n b hb
   ·rcases List.mem_append.mp hb with hb|hb
    ·exact fr b hb
    ·rw[List.append_nil]at hb;exact((e1.trans e2).trans (e3.trans e4)).free (f5 b hb)
   ·rw[List.append_nil];refine List.nodup_append.mpr ⟨nd,n5,fun x hx y hy exy=>?_⟩
    subst exy;have rs4:=(rs.evo e2.d e3).evo e3.d e4;exact kc.no (rs4.r.there x hx) (f5 x hy)
 ·have e:i=xs.length:=by omega
  subst e;refine .inl ⟨it.stop H' e2.d uC,by omega,fun D hD=>?_⟩
  exact k _ _ _ _ ((e1.trans e2).new hD) (rs.lst e2.d hD) (fun b hb=>by
   rcases List.mem_cons.mp hb with e|hb
   ·rw[e];exact(e1.trans e2).free hD
   ·exact fr b hb) (rs.fresh hD nd) (fin ts hI)
structure QB(X:Cx)(K:W.Frag)(N':List Str)(sc:Scope)(tg:Expr)(g:Tg)(ifs:List Expr)(tst:TT)(kE:QT)(elt:Expr)(te:TE)(qe:QE):Prop where
 b:∀ cl C s₂ H₂ fp,PG (blk X N' sc cl C s₂ H₂ fp) tg (g.h K)/\PTs (blk X N' sc cl C s₂ H₂ fp) ifs tst/\PE (blk X N' sc cl C s₂ H₂ fp) elt te
 t:k8 K tst kE
 e:k9 K te qe
theorem dZ{N':List Str}{sc:Scope}{tg elt:Expr}{g:Tg}{te:TE}{qe:QE}(h:∀ cl C s₂ H₂ fp,PG (blk X N' sc cl C s₂ H₂ fp) tg (g.h K)/\QPF (blk X N' sc cl C s₂ H₂ fp) K elt te qe):QB X K N' sc tg g [] wV Aa elt te qe :=
 ⟨fun cl C s₂ H₂ fp=>⟨(h cl C s₂ H₂ fp).1,xo,(h cl C s₂ H₂ fp).2.h⟩,zw,(h [] 0 X.s₀ (fun _=>none) []).2.s⟩
theorem F6{N':List Str}{sc:Scope}{tg elt c:Expr}{g:Tg}{tst:TT}{kE:QT}{te:TE}{qe:QE}(h:∀ cl C s₂ H₂ fp,PG (blk X N' sc cl C s₂ H₂ fp) tg (g.h K)/\QPT (blk X N' sc cl C s₂ H₂ fp) K c tst kE/\QPF (blk X N' sc cl C s₂ H₂ fp) K elt te qe):QB X K N' sc tg g [c] tst kE elt te qe :=
 ⟨fun cl C s₂ H₂ fp=>⟨(h cl C s₂ H₂ fp).1,xn (h cl C s₂ H₂ fp).2.1.h,(h cl C s₂ H₂ fp).2.2.h⟩,(h [] 0 X.s₀ (fun _=>none) []).2.1.s,(h [] 0 X.s₀ (fun _=>none) []).2.2.s⟩
theorem ez{tg iter elt:Expr}{ifs:List Expr}{sc:Scope}{pos:Pos}{N':List Str}{cap:List (Option Nat)}{wi:TI}{iq:QI}{g:Tg}{tst:TT}{kE:QT}{te:TE}{qe:QE}(hc:X.calm=true)(hi:QPI X K tg iter wi iq)(oQ:kj X sc N' cap)(hb:QB X K N' sc tg g ifs tst kE elt te qe)
  (hf:(g.ixs.all fun i=>cap[i]? == some none)=true:=by rfl)
  (fF:sc.kind = .function:=by rfl) (fG:∀ y∈sc.names,y.2 ≠ .cell:=by decide) (f9:∀ y∈sc.names,y.2 = .local->sc.names.lookup y.1=some .local:=by decide)
  (gy:(sc.names.all fun y=>y.2 != .free ||(X.env.kindOf y.1==some .cell||X.env.kindOf y.1==some .free))=true:=by rfl)
  (hs:∀ x,foldedSetIterable iter X.env x=pure x:=by intro _;rfl):QPF X K (.ListComp elt [⟨tg,iter,ifs,0⟩] sc pos) (px cap wi (g.h K) tst te) (xl cap iq g kE qe) :=
 ⟨xv hc hi.h oQ hb.b fF fG f9 gy hs,tO hi.s hb.t hb.e hf⟩
theorem l5{i:Nat}{y:Str}{tg iter elt:Expr}{ifs:List Expr}{sc:Scope}{pos mz py:Pos}{N':List Str}{cap:List (Option Nat)}{wi:TI}{iq:QI}{g:Tg}{tst:TT}{kE:QT}{te:TE}{qe:QE}(hN:X.N.Nodup)(hi':X.N[i]? = some y)(hy:Loc X.env.scope y)
  (hc:X.calm=true) (hi:QPI X K tg iter wi iq) (oQ:kj X sc N' cap) (hb:QB X K N' sc tg g ifs tst kE elt te qe)
  (hf':(g.ixs.all fun i=>cap[i]? == some none)=true:=by rfl)
  (hsw:swapsWith (.ListComp elt [⟨tg,iter,ifs,0⟩] sc pos) (some (.Name y py)) mz.line X.env=pure true:=by rfl)
  (hf:X.fn y=true\/X.env.scope.names.lookup y=some .local:=by first|exact .inl rfl|exact .inr rfl|assumption)
  (fF:sc.kind = .function:=by rfl) (fG:∀ y∈sc.names,y.2 ≠ .cell:=by decide) (f9:∀ y∈sc.names,y.2 = .local->sc.names.lookup y.1=some .local:=by decide)
  (gy:(sc.names.all fun y=>y.2 != .free ||(X.env.kindOf y.1==some .cell||X.env.kindOf y.1==some .free))=true:=by rfl)
  (hs:∀ x,foldedSetIterable iter X.env x=pure x:=by intro _;rfl):QPS X K (.Assign [.Name y py] (.ListComp elt [⟨tg,iter,ifs,0⟩] sc pos) mz) (iM (px cap wi (g.h K) tst te) (g8 i)) (yn i (xl cap iq g kE qe)) :=
 ⟨xq hN hi' hy hc hi.h oQ hb.b hsw hf fF fG f9 gy hs,w5 (tO hi.s hb.t hb.e hf')⟩
end
section
variable{X:Cx}{K:W.Frag}{dl:Dl}{H₀ H:Hp}{hs:List (V×T)}{σ:St}{q:Sq}{F:Nat->List Addr}{e o:Expr}{te:TE}{qe:QE}{pos apos bc:Pos}
theorem aC.uniq{v:V}{t:T}{F:List Addr}(h:aC K dl H v t F):∀{F':List Addr},aC K dl H v t F'->F=F' :=
 aC.rec (motive_1:=fun v t F _=>∀{F'},aC K dl H v t F'->F=F') (motive_2:=fun v t F _=>∀{F'},av K dl H v t F'->F=F') (motive_3:=fun v t F _=>∀{F'},aK K dl H v t F'->F=F')
  (fun h=>(h.im rfl).symm) (fun _ _ h=>(h.im rfl).symm) (fun _ _ h=>(h.im rfl).symm) (fun _ _ h=>(h.im rfl).symm) (fun _ _ h=>(h.im rfl).symm)
  (fun h1 _ ih _ h=>by obtain⟨a,vs,e,h2,r⟩:=h.tup;cases e;rw[h1]at h2;cases h2;exact ih r)
  (fun h1 _ ih _ h=>by obtain⟨a,vs,G,e,rfl,h2,r⟩:=h.lst;cases e;rw[h1]at h2;cases h2;rw[ih r])
  (fun h1 _ ih _ h=>by obtain⟨a,vs,G,e,rfl,h2,r⟩:=h.dic;cases e;rw[h1]at h2;cases h2;rw[ih r])
  (fun _ _ h=>(h.im rfl).symm) (fun _ _ h=>(h.im rfl).symm) (fun _ _ h=>(h.im rfl).symm) (fun _ _ _ _ h=>(h.im rfl).symm) (fun _ _ h=>(h.im rfl).symm) (fun _ _ _ _ h=>(h.im rfl).symm)
  (fun _ _ _ h=>(h.im rfl).symm) (fun _ _ _ _ h=>(h.im rfl).symm) (fun h1 _ ih _ h=>by obtain⟨vs,G,e,rfl,h2,r⟩:=h.dpp;rw[h1]at h2;cases h2;rw[ih r]) (fun h1 _ ih _ h=>by obtain⟨vs,G,e,rfl,h2,r⟩:=h.lpp;rw[h1]at h2;cases h2;rw[ih r])
  (fun h=>by cases h;rfl) (fun _ _ i1 i2 _ h=>by cases h with|cons h2 r2=>rw[i1 h2,i2 r2])
  (fun h=>by cases h;rfl) (fun _ _ i1 i2 _ h=>by cases h with|cons h2 r2=>rw[i1 h2,i2 r2]) h
theorem Rel.Ea{H':Hp}(r:Rel K dl H₀ hs H σ q F)(e:Evo dl H H'){p:V×T}(hp:p∈hs){Fp:List Addr}(h:Rp K dl H' p.1 p.2 Fp){b:Addr}(hb:H b=none):b ∉ Fp:=fun z=>by
 obtain⟨Fq,h1,_⟩:=r.h p hp;have e1:=(h1.evo r.d e).r.uniq h.r;subst e1;exact kc.no (h1.r.there b z) hb
theorem Rel.qK{i:Nat}{p:Addr}{ws:List V}{xs ys:List T}{G G':List Addr}{H':Hp}(r:Rel K dl H₀ hs H σ q F)(hi:q[i]? = some (.o (.l xs)))(hv:σ[i]? = some (some (.ref p)))(hF:F i=p::G)(e:Evo dl H H')
  (rs:av K dl H' ws ys G') (hn:G'.Nodup) (hG:∀ b∈G',b∈G\/(H b=none/\Nd dl b)):ix K dl H₀ hs (upd H' p (.lst ws)) σ (q.set i (.o (.l ys))):=by
 have r':=r.evo e;obtain⟨o1,o2,o3⟩:=r.o i _ hi;obtain⟨v',hv',rp⟩:=r'.g i _ _ hi rfl;rw[hv]at hv';cases hv';obtain⟨p2,vs2,G2,e2,eF,h1,h2⟩:=rp.r.lst;cases e2;rw[hF]at eF;cases eF;rw[hF]at o1;have pG:p ∉ G:=(List.nodup_cons.mp o1).1;have pth:kc H p:=r.ko (i:=i) (by rw[hF];exact List.mem_cons_self)
 have pG':p ∉ G':=fun z=>by
  rcases hG p z with z|z
  ·exact pG z
  ·exact pth.no z.1
 have pn:Nd dl p:=rp.n p (by rw[hF];exact List.mem_cons_self)
 have tf:TF H' (upd H' p (.lst ws)):=⟨fun a us h=>(by
  rw[aj];exact h;intro z;subst z;rw[h]at h1;cases h1),fun a ob u h=>(by
  rw[aj];exact h;intro z;subst z;rw[h]at h1;cases h1),fun a φ h=>(by
  rw[aj];exact h;intro z;subst z;rw[h]at h1;cases h1),fun a xs' h=>(by
  by_cases z:a=p
  ·subst z;exact⟨_,au⟩
  ·exact⟨xs',by rw[aj z];exact h⟩),fun a x h=>⟨x,Int.le_refl _,by
  rw[aj];exact h;intro z;subst z;rw[h]at h1;cases h1⟩⟩
 have rs2:av K dl (upd H' p (.lst ws)) ws ys G':=rs.cX tf (fun _ z=>z) fun b hb ob eb=>by
  have ne:b≠p:=by
   intro z;subst z;exact pG' hb
  rw[aj ne];exact eb
 refine⟨_,r'.write (t':=.l ys) (F':=p::G') hi hv (by rw[hF];exact List.mem_cons_self) (fun _ _=>⟨_,rfl⟩) ⟨.l au rs2,fun b hb=>?_⟩ (List.nodup_cons.mpr ⟨pG',hn⟩) fun b hb=>?_⟩
 ·rcases List.mem_cons.mp hb with z|hb
  ·rw[z];exact pn
  ·rcases hG b hb with z|z
   ·exact rp.n b (by rw[hF];exact List.mem_cons_of_mem _ z)
   ·exact z.2
 ·rcases List.mem_cons.mp hb with z|hb
  ·rw[z,hF];exact .inl List.mem_cons_self
  ·rcases hG b hb with z|z
   ·rw[hF];exact .inl (List.mem_cons_of_mem _ z)
   ·exact .inr ⟨r.fz z.1,fun j hj=>(r.ko hj).no z.1,fun w u Fp h1 h2=>r.Ea e (p:=(w,u)) h2 h1 z.1⟩
def qU(i:Nat)(qe:QE):QS:=fun D q=>match q[i]? with
 | some (.o (.l xs))=>xs.length<sizeLine/\qe q fun t=>D.nx (q.set i (.o (.l (xs ++ [t]))))
 | _=>False
theorem vC(hK:X.K=K){i:Nat}(ho:PE X o (bS i))(he:PE X e te)(ed:attributeBase o "append" X.env (eval o X.env)=eval o X.env:=by rfl)
  (nE:((backTo bc (starEach [e] X.env)).all (fun x=>!x.1)&&(backToKw bc (keywordEach [] X.env)).all (fun x=>x.1.isSome)
   && decide (([e]:List Expr).length+([]:List Keyword).length+(if([]:List Keyword).isEmpty then 0 else 1)<30))=true:=by rfl)
  (d8:(apos.endLine==bc.line)=true:=by rfl) (hs:starEach [e] X.env =(false,eval e X.env)::starEach [] X.env:=by rfl) (d7:(backTo bc (starEach [] X.env)).any (·.1)=false:=by rfl) :
  PE X (.Call (.Attribute o "append" apos) [e] [] bc) (tBM K "list" lY (bS i) (fA te n6)):=by
 subst hK;exact AA PySem.F.plainAttrs_list PySem.F.slot_list_append PySem.F.type_list_append yE ho (ck he fU hs) ed nE d8 hs d7
theorem vb{i:Nat}(he:k9 K te qe):ke K (js (tBM K "list" lY (bS i) (fA te n6))) (qU i qe):=fun dl H₀ hs H σ q Dq D ⟨F,r⟩ hq E=>by
 unfold qU at hq
 split at hq
 ·rename_i xs ei;obtain⟨hz,hq⟩:=hq;obtain⟨v,hv,rp⟩:=r.g i _ _ ei rfl;obtain⟨o1,o2,o3⟩:=r.o i _ ei;obtain⟨p,vs,G,rfl,eF,h1,h2⟩:=rp.r.lst;refine⟨_,hv,.inl ⟨rfl,vs,SqL.of h1⟩,he dl H σ q _ _ r.rd hq fun w t F' H' e1 r1 f1 n1 hz'=>?_⟩
  have pn:Nd dl p:=rp.n p (by rw[eF];exact List.mem_cons_self)
  refine⟨p,vs,w,rfl,rfl,e1.k p _ h1 pn (fun _ z=>nomatch z),by rw[h2.len];exact hz,?_⟩
  have hG:∀ b∈G,Nd dl b:=fun b hb=>rp.n b (by rw[eF];exact List.mem_cons_of_mem _ hb)
  have rs2:av K dl H' vs xs G:=h2.cX (e1.tf r.d) (fun _ z=>z) fun b hb o eo=>e1.k b o eo (hG b hb) (.of (h2.there b hb) eo)
  refine E.nx _ σ _ (r.qK ei hv eF e1 (rs2.append (.cons r1.r .nil)) ?_ fun b hb=>?_) hz'
  ·rw[List.append_nil];rw[eF]at o1;refine List.nodup_append.mpr ⟨(List.nodup_cons.mp o1).2,n1,fun x hx y hy exy=>?_⟩
   subst exy;exact kc.no (h2.there x hx) (f1 x hy)
  ·rcases List.mem_append.mp hb with hb|hb
   ·exact .inl hb
   ·rw[List.append_nil]at hb;exact .inr ⟨f1 b hb,r1.n b hb⟩
 ·exact hq.elim
theorem c5{i:Nat}{mz:Pos}(ho:PE X o (bS i))(he:QPF X K e te qe)(hK:X.K=K:=by rfl)(ed:attributeBase o "append" X.env (eval o X.env)=eval o X.env:=by rfl)
  (nE:((backTo bc (starEach [e] X.env)).all (fun x=>!x.1)&&(backToKw bc (keywordEach [] X.env)).all (fun x=>x.1.isSome)
   && decide (([e]:List Expr).length+([]:List Keyword).length+(if([]:List Keyword).isEmpty then 0 else 1)<30))=true:=by rfl)
  (d8:(apos.endLine==bc.line)=true:=by rfl) (hs:starEach [e] X.env =(false,eval e X.env)::starEach [] X.env:=by rfl) (d7:(backTo bc (starEach [] X.env)).any (·.1)=false:=by rfl)
  (hsw:swapsWith (.Call (.Attribute o "append" apos) [e] [] bc) none mz.line X.env=pure false:=by rfl) :
  QPS X K (.Expr (.Call (.Attribute o "append" apos) [e] [] bc) mz) (js (tBM K "list" lY (bS i) (fA te n6))) (qU i qe):=⟨l9 (vC hK ho he.h ed nE d8 hs d7) hsw,vb he.s⟩
def qT(i:Nat)(qe:QE):QS:=fun D q=>match q[i]? with
 | some (.o (.l xs))=>qe q fun t=>match t with
  | .l ys=>xs.length+ys.length<=sizeLine/\D.nx (q.set i (.o (.l (xs++ys))))
  | _=>False
 | _=>False
theorem vB(hK:X.K=K){i:Nat}(ho:PE X o (bS i))(he:PE X e te)(ed:attributeBase o "extend" X.env (eval o X.env)=eval o X.env:=by rfl)
  (nE:((backTo bc (starEach [e] X.env)).all (fun x=>!x.1)&&(backToKw bc (keywordEach [] X.env)).all (fun x=>x.1.isSome)
   && decide (([e]:List Expr).length+([]:List Keyword).length+(if([]:List Keyword).isEmpty then 0 else 1)<30))=true:=by rfl)
  (d8:(apos.endLine==bc.line)=true:=by rfl) (hs:starEach [e] X.env =(false,eval e X.env)::starEach [] X.env:=by rfl) (d7:(backTo bc (starEach [] X.env)).any (·.1)=false:=by rfl) :
  PE X (.Call (.Attribute o "extend" apos) [e] [] bc) (tBM K "list" lX (bS i) (fA te n6)):=by
 subst hK;exact AA PySem.F.plainAttrs_list PySem.F.slot_list_extend PySem.F.type_list_extend yD ho (ck he fU hs) ed nE d8 hs d7
theorem va{i:Nat}(he:k9 K te qe):ke K (js (tBM K "list" lX (bS i) (fA te n6))) (qT i qe):=fun dl H₀ hs H σ q Dq D ⟨F,r⟩ hq E=>by
 unfold qT at hq
 split at hq
 ·rename_i xs ei;obtain⟨v,hv,rp⟩:=r.g i _ _ ei rfl;obtain⟨o1,o2,o3⟩:=r.o i _ ei;obtain⟨p,vs,G,rfl,eF,h1,h2⟩:=rp.r.lst;refine⟨_,hv,.inl ⟨rfl,vs,SqL.of h1⟩,he dl H σ q _ _ r.rd hq fun w t F' H' e1 r1 f1 n1 hz'=>?_⟩
  split at hz'
  ·rename_i ys _;obtain⟨p2,ws,G2,rfl,rfl,h3,h4⟩:=r1.r.lst;have pn:Nd dl p:=rp.n p (by rw[eF];exact List.mem_cons_self)
   refine⟨p,p2,vs,ws,rfl,rfl,e1.k p _ h1 pn (fun _ z=>nomatch z),h3,by rw[h2.len,h4.len];exact hz'.1,?_⟩
   have hG:∀ b∈G,Nd dl b:=fun b hb=>rp.n b (by rw[eF];exact List.mem_cons_of_mem _ hb)
   have rs2:av K dl H' vs xs G:=h2.cX (e1.tf r.d) (fun _ z=>z) fun b hb o eo=>e1.k b o eo (hG b hb) (.of (h2.there b hb) eo)
   refine E.nx _ σ _ (r.qK ei hv eF e1 (rs2.append h4) ?_ fun b hb=>?_) hz'.2
   ·rw[eF]at o1;refine List.nodup_append.mpr ⟨(List.nodup_cons.mp o1).2,(List.nodup_cons.mp n1).2,fun x hx y hy exy=>?_⟩
    subst exy;exact kc.no (h2.there x hx) (f1 x (List.mem_cons_of_mem _ hy))
   ·rcases List.mem_append.mp hb with hb|hb
    ·exact .inl hb
    ·exact .inr ⟨f1 b (List.mem_cons_of_mem _ hb),r1.n b (List.mem_cons_of_mem _ hb)⟩
  ·exact hz'.elim
 ·exact hq.elim
theorem ym{i:Nat}{mz:Pos}(ho:PE X o (bS i))(he:QPF X K e te qe)(hK:X.K=K:=by rfl)(ed:attributeBase o "extend" X.env (eval o X.env)=eval o X.env:=by rfl)
  (nE:((backTo bc (starEach [e] X.env)).all (fun x=>!x.1)&&(backToKw bc (keywordEach [] X.env)).all (fun x=>x.1.isSome)
   && decide (([e]:List Expr).length+([]:List Keyword).length+(if([]:List Keyword).isEmpty then 0 else 1)<30))=true:=by rfl)
  (d8:(apos.endLine==bc.line)=true:=by rfl) (hs:starEach [e] X.env =(false,eval e X.env)::starEach [] X.env:=by rfl) (d7:(backTo bc (starEach [] X.env)).any (·.1)=false:=by rfl)
  (hsw:swapsWith (.Call (.Attribute o "extend" apos) [e] [] bc) none mz.line X.env=pure false:=by rfl) :
  QPS X K (.Expr (.Call (.Attribute o "extend" apos) [e] [] bc) mz) (js (tBM K "list" lX (bS i) (fA te n6))) (qT i qe):=⟨l9 (vB hK ho he.h ed nE d8 hs d7) hsw,va he.s⟩
end
section
variable{X:Cx}{K:W.Frag}{dl:Dl}{H₀ H:Hp}{hs:List (V×T)}{σ:St}{q:Sq}{F:Nat->List Addr}{a b e o c:Expr}{te ta tb tk tv:TE}{qe qa qb qk qv:QE}{pos apos bc:Pos}
theorem av.last:∀{ts:List T}{x:T}{vs:List V}{F:List Addr},av K dl H vs (ts ++ [x]) F->∃ us w F1 F2,vs=us ++ [w]/\av K dl H us ts F1/\aC K dl H w x F2/\F=F1++F2
 | [],x,vs,F,h=>by
  cases h with
  | cons h1 h2 =>
   cases h2;exact⟨[],_,[],_,rfl,.nil,h1,by simp⟩
 | t::ts,x,vs,F,h=>by
  cases h with
  | cons h1 h2 =>
   obtain⟨us,w,F1,F2,rfl,r1,r2,rfl⟩:=av.last h2;exact⟨_::us,w,_,F2,rfl,.cons h1 r1,r2,by rw[List.append_assoc]⟩
def F8(i j:Nat):QS:=fun D q=>match q[i]? with
 | some (.o (.l xs))=>∃ ys x,xs=ys ++ [x]/\T.ims xs=true/\i≠j/\D.nx ((q.set i (.o (.l ys))).set j (.o x))
 | _=>False
theorem vY{xs ys:List T}:T.ims (xs++ys) =(T.ims xs&&T.ims ys):=by
 induction xs with
 | nil=>rfl
 | cons x r ih=>show(x.im&&T.ims (r++ys)) =((x.im&&T.ims r)&&T.ims ys);rw[ih,Bool.and_assoc]
theorem Cq{i j:Nat}:ke K (iM (FF K "list" FU (bS i)) (g8 j)) (F8 i j):=fun dl H₀ hs H σ q Dq D ⟨F,r⟩ hq E=>by
 unfold F8 at hq
 split at hq
 ·rename_i xs ei;obtain⟨ys,x,rfl,him,hij,hq⟩:=hq;obtain⟨v,hv,rp⟩:=r.g i _ _ ei rfl;obtain⟨p,vs,G,rfl,eF,h1,h2⟩:=rp.r.lst;obtain⟨us,w,F1,F2,rfl,r1,r2,rfl⟩:=h2.last;rw[vY,Bool.and_eq_true]at him;obtain rfl:=r1.im him.1;have hx:x.im=true:=by have:=him.2;simpa [T.ims]using this
  obtain rfl:=r2.im hx;refine⟨_,hv,.inl ⟨rfl,_,SqL.of h1⟩,p,_,w,rfl,rfl,h1,by simp,?_⟩
  rw[List.dropLast_concat];obtain⟨F3,r3⟩:=r.qK (H':=H) (ws:=us) (ys:=ys) (G':=[]) ei hv eF (.refl r.d) r1 List.nodup_nil (fun _ z=>nomatch z)
  have tf:aC K dl (upd H p (.lst us)) w x []:=by
   have tf:TF H (upd H p (.lst us)):=⟨fun a us' h=>(by
    rw[aj];exact h;intro z;subst z;rw[h]at h1;cases h1),fun a ob u h=>(by
    rw[aj];exact h;intro z;subst z;rw[h]at h1;cases h1),fun a φ h=>(by
    rw[aj];exact h;intro z;subst z;rw[h]at h1;cases h1),fun a xs' h=>(by
    by_cases z:a=p
    ·subst z;exact⟨_,au⟩
    ·exact⟨xs',by rw[aj z];exact h⟩),fun a x h=>⟨x,Int.le_refl _,by
    rw[aj];exact h;intro z;subst z;rw[h]at h1;cases h1⟩⟩
   exact r2.cX tf (fun _ z=>z) fun _ z=>nomatch z
  exact E.nx _ _ _ (r3.Ic (i:=j) (.refl r3.d) (.c tf) (fun _ z=>nomatch z) List.nodup_nil) hq
 ·exact hq.elim
theorem FX{i j:Nat}{x:Str}{pos':Pos}(hN:X.N.Nodup)(hi:X.N[j]? = some x)(hx:Loc X.env.scope x)(ho:PE X o (bS i))(hK:X.K=K:=by rfl)(ed:attributeBase o "pop" X.env (eval o X.env)=eval o X.env:=by rfl)(d8:(apos.endLine==bc.line)=true:=by rfl)
  (hs:swapsWith (.Call (.Attribute o "pop" apos) [] [] bc) (some (.Name x pos')) pos.line X.env=pure false:=by rfl) (hf:X.fn x=true\/X.env.scope.names.lookup x=some .local:=by first|exact .inl rfl|exact .inr rfl|assumption) :
  QPS X K (.Assign [.Name x pos'] (.Call (.Attribute o "pop" apos) [] [] bc) pos) (iM (FF K "list" FU (bS i)) (g8 j)) (F8 i j) :=
 ⟨by subst hK;exact gJ hN hi hx (Az PySem.F.plainAttrs_list PySem.F.slot_list_pop PySem.F.type_list_pop AY ho ed d8) hs hf,Cq⟩
def z9(g:Tg)(qe:QE):QS:=fun D q=>qe q fun t=>t.im=true/\∃ q',g.put t q=some q'/\D.nx q'
theorem Co{g:Tg}(he:iP K te qe):ke K (iM te (g.h K)) (z9 g qe):=fun dl H₀ hs H σ q Dq D ⟨F,r⟩ hq E=>he dl H σ q _ _ r.rd hq fun v t F' H' e1 r1 ⟨him,q',hq',hz⟩=>by
 obtain rfl:=r1.r.im him;exact vf (r.evo e1) r1 (fun _ _ _ _ _ z=>nomatch z) hq' fun σ' r'=>E.nx _ _ _ r' hz
theorem qN{tg:Expr}{g:Tg}(he:QPE X K e te qe)(hg:PG X tg (g.h K))(hs:swapsWithSole [tg] e pos.line X.env=pure false:=by rfl)(hw:swappedStores [tg] e X.env=pure none:=by rfl)
  (h1:(assignEach [tg] X.env).map (·.2) = [assign tg X.env]:=by rfl):QPS X K (.Assign [tg] e pos) (iM te (g.h K)) (z9 g qe):=⟨qV he.h hg hs hw h1,Co he.s⟩
def T.key:T->Option Key
 | .i x=>some (.inl x)
 | .s x=>some (.inr x)
 | _=>none
theorem aC.key{v:V}{t:T}{F:List Addr}{k:Key}(h:aC K dl H v t F)(e:t.key=some k):v=kV k:=by
 cases h <;> first |(cases e;rfl)|cases e
def bL(ks:List (Key×T))(k:Key):Option T:=(ks.find? fun p=>decide (p.1=k)).map (·.2)
def lE(ks:List (Key×T))(k:Key)(t:T):List (Key×T):=if(ks.any fun p=>decide (p.1=k))=true then ks.map (fun p=>if p.1=k then(p.1,t)else p)else ks ++ [(k,t)]
theorem aK.look{vs:List (Key×V)}{ts:List (Key×T)}{F:List Addr}(k:Key)(h:aK K dl H vs ts F):(bL ts k=none/\dC vs k=none)\/∃ t v G,bL ts k=some t/\dC vs k=some v/\aC K dl H v t G/\∀ b∈G,b∈F :=
 h.ind (M:=fun vs ts F=>(bL ts k=none/\dC vs k=none)\/∃ t v G,bL ts k=some t/\dC vs k=some v/\aC K dl H v t G/\∀ b∈G,b∈F) (.inl ⟨rfl,rfl⟩) fun k0 v x vs ts F G h r ih=>by
  by_cases e:k0=k
  ·subst e;exact .inr ⟨_,_,_,by simp[bL],by simp[dC],h,fun b hb=>List.mem_append_left _ hb⟩
  ·rcases ih with⟨h1,h2⟩ |⟨t,v,G,h1,h2,h3,h4⟩
   ·refine .inl ⟨?_,?_⟩
    ·unfold bL at h1 ⊢;rw[List.find?_cons,decide_eq_false e];exact h1
    ·unfold dC at h2 ⊢;rw[List.find?_cons,decide_eq_false e];exact h2
   ·refine .inr ⟨t,v,G,?_,?_,h3,fun b hb=>List.mem_append_right _ (h4 b hb)⟩
    ·unfold bL at h1 ⊢;rw[List.find?_cons,decide_eq_false e];exact h1
    ·unfold dC at h2 ⊢;rw[List.find?_cons,decide_eq_false e];exact h2
mutual
def T.imk:List (Key×T)->Bool
 | []=>true
 | (_,x)::r=>x.im&&T.imk r
end
theorem aK.im{vs:List (Key×V)}{ts:List (Key×T)}{F:List Addr}(h:aK K dl H vs ts F):T.imk ts=true->F = []:=h.ind (M:=fun _ t F=>T.imk t=true->F = []) (fun _=>rfl) (fun _ _ _ _ _ _ _ h _ ih=>vZ h.im ih)
theorem aK.keys{vs:List (Key×V)}{ts:List (Key×T)}{F:List Addr}(h:aK K dl H vs ts F)(k:Key):(vs.any fun p=>decide (p.1=k))=ts.any fun p=>decide (p.1=k) :=
 h.ind (M:=fun vs ts _=>(vs.any fun p=>decide (p.1=k))=ts.any fun p=>decide (p.1=k)) rfl fun _ _ _ _ _ _ _ _ _ ih=>by rw[List.any_cons,List.any_cons,ih]
theorem aK.put{k:Key}{w:V}{t:T}(hw:aC K dl H w t []):∀{vs:List (Key×V)}{ts:List (Key×T)},aK K dl H vs ts []->aK K dl H (putK vs k w) (lE ts k t) []:=by
 have mp:∀{vs:List (Key×V)}{ts:List (Key×T)}{F:List Addr},aK K dl H vs ts F->F = []->aK K dl H (vs.map fun p=>if p.1=k then(p.1,w)else p) (ts.map fun p=>if p.1=k then(p.1,t)else p) []:=by
  intro vs ts F h
  induction ts generalizing vs F with
  | nil=>intro _;cases h;exact .nil
  | cons p ts ih =>
   cases h with
   | @cons k0 v x vs _ F1 F2 h1 h2 =>
    intro e;obtain⟨e1,e2⟩:=List.append_eq_nil_iff.mp e;subst e1 e2;have z:=ih h2 rfl;rw[List.map_cons,List.map_cons];by_cases e0:k0=k
    ·show aK K dl H ((if k0=k then(k0,w)else(k0,v))::_) ((if k0=k then(k0,t)else(k0,x))::_) ([] ++ [])
     rw[if_pos e0,if_pos e0];exact .cons hw z
    ·show aK K dl H ((if k0=k then(k0,w)else(k0,v))::_) ((if k0=k then(k0,t)else(k0,x))::_) ([] ++ [])
     rw[if_neg e0,if_neg e0];exact .cons h1 z
 have sn:∀{vs:List (Key×V)}{ts:List (Key×T)}{F:List Addr},aK K dl H vs ts F->aK K dl H (vs ++ [(k,w)]) (ts ++ [(k,t)]) F:=by
  intro vs ts F h
  induction ts generalizing vs F with
  | nil=>cases h;exact .cons (F:=[]) hw .nil
  | cons p ts ih =>
   cases h with
   | cons h1 h2=>exact .cons h1 (ih h2)
 intro vs ts h;unfold putK lE;rw[h.keys k]
 split
 ·exact mp h rfl
 ·exact sn h
theorem l7:QPF X K (.Dict [] [] pos) zi (qC (.d [])):=⟨Ax,fun dl H σ q Q R rd hq k=>fun p hp=>k _ _ [p] _ ((Evo.refl rd.d).new hp) ⟨.d au .nil,fun b hb=>by rw[List.mem_singleton.mp hb];exact rd.d.nd0 hp⟩ (fun b hb=>by rw[List.mem_singleton.mp hb];exact hp) (by simp) hq⟩
def FW(neg:Bool):R2:=fun y x H Q=>∃ a o,x = .ref a/\fI H a y o/\Q (.bl (if neg then !o.isSome else o.isSome)) H
theorem GA(hu:X.A.units+1<cLine):OpR X (compareOp .In) (FW false):=by
 intro pins s σ H y x u v Q I ry rx h;obtain⟨a,o,rfl,g,q⟩:=h;cases rx;exact JY hu I g ry fun s' I'=>⟨.bl _,H,I',rfl,q⟩
theorem yz(hu:X.A.units+1<cLine):OpR X (compareOp .NotIn) (FW true):=by
 intro pins s σ H y x u v Q I ry rx h;obtain⟨a,o,rfl,g,q⟩:=h;cases rx;exact Et hu I g ry fun s' I'=>⟨.bl _,H,I',rfl,q⟩
def Jb:T->Option Str
 | .s x=>some x
 | _=>none
abbrev txs:List T->Option (List Str):=picks Jb
theorem av.txs{vs:List V}{ts:List T}{F:List Addr}{bs:List Str}(h:av K dl H vs ts F)(e:L2.txs ts=some bs):vs=bs.map V.str :=
 h.picks (f:=Jb) (fun v t F a h e=>by cases t <;> first |(cases e;exact h.str.1)|cases e) e
theorem B8(bs:List Str):txs (bs.map T.s)=some bs:=by
 induction bs with
 | nil=>rfl
 | cons b r ih=>show(txs (r.map T.s)).map (b :: ·)=_;rw[ih];rfl
def HW(qo qe:QE):QE:=fun q Q=>qo q fun s=>match s with
 | .s sep=>qe q fun t=>match t with
  | .l xs=>∃ ys,txs xs=some ys/\(ys.map (·.length)).sum+ys.length*sep.length<=16777216/\Q (.s (Txt.join sep ys))
  | _=>False
 | _=>False
theorem CO{qo:QE}{to:TE}(ho:QPE X K o to qo)(he:QPE X K e te qe)(hK:X.K=K:=by rfl)(ed:attributeBase o "join" X.env (eval o X.env)=eval o X.env:=by rfl)
  (nE:((backTo bc (starEach [e] X.env)).all (fun x=>!x.1)&&(backToKw bc (keywordEach [] X.env)).all (fun x=>x.1.isSome)
   && decide (([e]:List Expr).length+([]:List Keyword).length+(if([]:List Keyword).isEmpty then 0 else 1)<30))=true:=by rfl)
  (d8:(apos.endLine==bc.line)=true:=by rfl) (hs:starEach [e] X.env =(false,eval e X.env)::starEach [] X.env:=by rfl) (d7:(backTo bc (starEach [] X.env)).any (·.1)=false:=by rfl) :
  QPF X K (.Call (.Attribute o "join" apos) [e] [] bc) (tBM K "str" (rJoin K) to (fA te n6)) (HW qo qe):=⟨by
 subst hK;exact AA PySem.F.plainAttrs_str PySem.F.slot_str_join PySem.F.type_str_join DJ ho.h (ck he.h fU hs) ed nE d8 hs d7,fun dl H σ q Q R rd hq k=>ho.s dl H σ q _ _ rd hq fun v t F H1 e1 r1 hq=>by
  split at hq
  ·obtain⟨rfl,_⟩:=r1.r.str;refine⟨rfl,he.s dl H1 σ q _ _ (rd.evo e1) hq fun w u F2 H2 e2 r2 hq=>?_⟩
   split at hq
   ·obtain⟨ys,hy,hz,hq⟩:=hq;obtain⟨p,vs,G,rfl,eF,h1,h2⟩:=r2.r.lst;have ev:=h2.txs hy;subst ev;exact⟨_,p,ys,rfl,rfl,SqL.of h1,hz,k _ _ [] H2 (e1.trans e2) (.c (.s _)) (fun _ z=>nomatch z) List.nodup_nil hq⟩
   ·exact hq.elim
  ·exact hq.elim⟩
def E9(i:Nat)(qk qv:QE):QS:=fun D q=>qv q fun t=>match q[i]? with
 | some (.o (.l xs))=>qk q fun u=>match u with
  | .i k=>∃ j,ixN xs.length k=some j/\T.ims xs=true/\t.im=true/\D.nx (q.set i (.o (.l (xs.set j t))))
  | _=>False
 | _=>False
end
def jR(vs ws:List V):Bool:=vs.length==ws.length&&(List.range vs.length).all fun j=>match vs[j]?,ws[j]? with|some x,some y=>eqV x y | _,_=>false
section
variable{X:Cx}{K:W.Frag}
theorem Vals.at'{vs:List V}{its:List Value}(r:Vals vs its){j:Nat}(h:j<its.toArray.size):∃ v,vs[j]? = some v/\RelV v its.toArray[j]:=by
 have hl:=r.length;have hj:j<its.length:=by simpa using h
 have hv:j<vs.length:=by omega
 obtain⟨u,h1,h2⟩:=r.get (i:=j) (x:=vs[j]) (by simp[hv])
 have:its[j]? = some its[j]:=by simp[hj]
 rw[this]at h1;cases h1;exact⟨vs[j],by simp[hv],by simpa using h2⟩
theorem iI{vs:List V}{j:Nat}{v:V}(h:vs.all dM=true)(e:vs[j]? = some v):dM v=true:=List.all_eq_true.mp h v (List.mem_of_getElem? e)
def HM(K:W.Frag):R2:=fun x y H Q=>∃ p q vs ws,x = .ref p/\y = .ref q/\((SqL K H p vs/\SqL K H q ws)\/(SqT K H p vs/\SqT K H q ws))/\vs.all dM=true/\ws.all dM=true/\Q (.bl (jR vs ws)) H
theorem Gz(hu:X.A.units+1<cLine):OpR X (compareOp .Eq) (HM X.K):=by
 intro pins s σ H x y v u Q I rx ry h;obtain⟨p,q,vs,ws,rfl,rfl,hs,f1,f2,k⟩:=h;cases rx;cases ry;rcases hs with⟨h1,h2⟩ |⟨h1,h2⟩
 ·obtain⟨its,r1,p1,_⟩:=I.list h1;obtain⟨dP,r2,p2,_⟩:=I.list h2;have l1:=r1.length;have l2:=r2.length;by_cases hl:its.length=dP.length
  ·refine SeqAt.eq_listAt (e:=fun j=>match vs[j]?,ws[j]? with|some x,some y=>eqV x y | _,_=>false) p1.isList p2.isList (by simpa using hl) (by omega) (fun j g1 g2=>?_) ⟨.bl _,H,I,rfl,?_⟩
   ·obtain⟨a,ea,ra⟩:=r1.at' g1;obtain⟨b,eb,rb⟩:=r2.at' g2;simp only[ea,eb];exact sk ra rb (iI f1 ea) (iI f2 eb)
   ·have e:jR vs ws =(List.range its.toArray.size).all fun j=>match vs[j]?,ws[j]? with|some x,some y=>eqV x y | _,_=>false:=by
     unfold jR;rw[show(vs.length==ws.length)=true from by simp;omega,Bool.true_and,List.size_toArray,l1]
    rw[<- e];exact k
  ·refine SeqAt.eq_list_lengthsAt p1.isList p2.isList (by simpa using hl) (by omega) ⟨.bl _,H,I,rfl,?_⟩
   have e:jR vs ws=false:=by
    unfold jR;rw[show(vs.length==ws.length)=false from by simp;omega,Bool.false_and]
   rw[<- e];exact k
 ·obtain⟨its,r1,p1,_⟩:=I.tuple h1;obtain⟨dP,r2,p2,_⟩:=I.tuple h2;have l1:=r1.length;have l2:=r2.length;refine SeqAt.eq_tupleAt (e:=fun j=>match vs[j]?,ws[j]? with|some x,some y=>eqV x y | _,_=>false) (show s.heap.IsTuple p its.toArray from p1) (show s.heap.IsTuple q dP.toArray from p2) (by omega) (fun j g1 g2=>?_) ⟨.bl _,H,I,rfl,?_⟩
  ·obtain⟨a,ea,ra⟩:=r1.at' g1;obtain⟨b,eb,rb⟩:=r2.at' g2;simp only[ea,eb];exact sk ra rb (iI f1 ea) (iI f2 eb)
  ·have e:jR vs ws =((List.range (min its.toArray.size dP.toArray.size)).all (fun j=>match vs[j]?,ws[j]? with|some x,some y=>eqV x y | _,_=>false)&&its.toArray.size==dP.toArray.size):=by
    unfold jR;rw[List.size_toArray,List.size_toArray,<- l1,<- l2,Bool.and_comm];by_cases hl:vs.length=ws.length
    ·rw[hl,Nat.min_self]
    ·rw[show(vs.length==ws.length)=false from by simpa using hl,Bool.and_false,Bool.and_false]
   rw[<- e];exact k
def eqF(xs ys:List T):Bool:=jR (xs.map T.v) (ys.map T.v)
def Ge:Q2:=fun t u Q=>match t,u with
 | .l xs,.l ys=>(fls xs&&fls ys)=true/\Q (.b (eqF xs ys))
 | .t xs,.t ys=>(fls xs&&fls ys)=true/\Q (.b (eqF xs ys))
 | t,u=>qEq t u Q
def HN(K:W.Frag):R2:=fun x y H Q=>rEq x y H Q\/HM K x y H Q
theorem cQ(hu:X.A.units+1<cLine)(hK:X.K=K):OpR X (compareOp .Eq) (HN K):=by subst hK;exact Ff.or (Gz hu)
theorem cc:cy K (HN K) Ge:=by
 intro dl H x y t u F G Q R D r1 r2 hq k;unfold Ge at hq
 split at hq
 ·obtain⟨p,vs,G1,rfl,rfl,h1,h2⟩:=r1.r.lst;obtain⟨p',vs',G2,rfl,rfl,h3,h4⟩:=r2.r.lst;obtain⟨f,hq⟩:=hq;rw[Bool.and_eq_true]at f;obtain⟨rfl,rfl⟩:=h2.vs f.1;obtain⟨rfl,rfl⟩:=h4.vs f.2;exact .inr ⟨p,p',_,_,rfl,rfl,.inl ⟨SqL.of h1,SqL.of h3⟩,je f.1,je f.2,k _ _ [] H (.refl D) (.c (.b _)) (fun _ z=>nomatch z) List.nodup_nil hq⟩
 ·obtain⟨p,vs,rfl,h1,h2⟩:=r1.r.tup;obtain⟨p',vs',rfl,h3,h4⟩:=r2.r.tup;obtain⟨f,hq⟩:=hq;rw[Bool.and_eq_true]at f;obtain⟨rfl,rfl⟩:=h2.vs f.1;obtain⟨rfl,rfl⟩:=h4.vs f.2;exact .inr ⟨p,p',_,_,rfl,rfl,.inr ⟨SqT.of h1,SqT.of h3⟩,je f.1,je f.2,k _ _ [] H (.refl D) (.c (.b _)) (fun _ z=>nomatch z) List.nodup_nil hq⟩
 ·exact .inl (FP dl H x y t u F G Q R D r1 r2 hq k)
end
end L2
namespace PySem
open Sem (wp)
section
variable{prog:Program}{w:World}{A:Around}{E:Value->Shared->Prop}
theorem lI:typeLookup (.type "tuple") "keys" = pure none:=am_miss_of_fast (by decide +kernel)
theorem nz:typeLookup (.type "list") "keys" = pure none:=am_miss_of_fast (by decide +kernel)
set_option maxRecDepth 8000 in
theorem lJ{s:Shared}{a:Addr}{o:Obj}{xs:Array Value}{k:Nat}{Q:Option Value->Shared->Prop}
  (hx:s.heap.get? a=some o) (hc:o.cls = .type "tuple") (Bo:o.data = .seq xs k) (hd:o.dict=none) (hA:A.handled=none)
  (h:∀ h' tk,(∀ b o,s.heap.get? b=some o->h'.get? b=some o)->Q none { s with heap:=h',toks:=tk }) :
  wpAny (model prog w) A (getAttr? (.ref a) "keys") Q E s:=by
 obtain⟨c,dct,dat,sl⟩:=o;simp only at hc Bo hd;subst hc Bo hd;obtain⟨hp,g,d,tk,os⟩:=s;have hT:∀ tk',(⟨hp,g,d,tk',os⟩:Shared).TypeIs (.ref a) "tuple":=fun _=>⟨_,hx,rfl⟩
 have f1:=sub_AttributeError;have f3:=F.slot_tuple_getattribute.lookup;have f4:=F.slot_tuple_getattribute.bind (.ref a);have f5:=am_tuple_getattr_none;unfold getAttr? getAttrBy? getAttrBy
 repeat (any_goals (first|assumption|exact hT _ |((with_reducible show wpAny _ _ (call (Value.builtin "tuple.__getattribute__") _ _) _ _ _);refine call_meets F.slot_tuple_getattribute (hT _) am_entry_tuple_getattribute (F.args_tuple_getattribute_2 _ _) (meets_getattribute_miss_tuple a xs k sl "keys" _ lI (by decide +kernel) (by decide +kernel)) ⟨hx,hA,fun h' tk' e hx'=>?_⟩)|wp_step))
 obtain⟨t',u',he⟩:=hx'.there;show wpAny _ _ (getattributeRaised _ _ _ _ _ _ _) _ _ _;unfold getattributeRaised
 repeat (any_goals (first|assumption|wp_step))
 exact h _ _ hx'.keeps
set_option maxRecDepth 8000 in
theorem ny{s:Shared}{a:Addr}{o:Obj}{xs:Array Value}{k:Nat}{Q:Option Value->Shared->Prop}
  (hx:s.heap.get? a=some o) (hc:o.cls = .type "list") (Bo:o.data = .seq xs k) (hd:o.dict=none) (hA:A.handled=none)
  (h:∀ h' tk,(∀ b o,s.heap.get? b=some o->h'.get? b=some o)->Q none { s with heap:=h',toks:=tk }) :
  wpAny (model prog w) A (getAttr? (.ref a) "keys") Q E s:=by
 obtain⟨c,dct,dat,sl⟩:=o;simp only at hc Bo hd;subst hc Bo hd;obtain⟨hp,g,d,tk,os⟩:=s;have hT:∀ tk',(⟨hp,g,d,tk',os⟩:Shared).TypeIs (.ref a) "list":=fun _=>⟨_,hx,rfl⟩
 have f1:=sub_AttributeError;have f3:=F.slot_list_getattribute.lookup;have f4:=F.slot_list_getattribute.bind (.ref a);have f5:=am_list_getattr_none;unfold getAttr? getAttrBy? getAttrBy
 repeat (any_goals (first|assumption|exact hT _ |((with_reducible show wpAny _ _ (call (Value.builtin "list.__getattribute__") _ _) _ _ _);refine call_meets F.slot_list_getattribute (hT _) am_entry_list_getattribute (F.args_list_getattribute_2 _ _) (meets_getattribute_miss_list a xs k sl "keys" _ nz (by decide +kernel) (by decide +kernel)) ⟨hx,hA,fun h' tk' e hx'=>?_⟩)|wp_step))
 obtain⟨t',u',he⟩:=hx'.there;show wpAny _ _ (getattributeRaised _ _ _ _ _ _ _) _ _ _;unfold getattributeRaised
 repeat (any_goals (first|assumption|wp_step))
 exact h _ _ hx'.keeps
end
end PySem
namespace PySem
open Sem (wp)
namespace F
theorem cS:entryFor table "dict.update.loop" = some Builtin.«dict.update.loop»:=entryFor_of_tree (by kernel_rfl)
theorem a5:plainId "dict.update.loop" = true:=by decide +kernel
end F
section
variable{prog:Program}{w:World}{A:Around}{R:Result->Shared->Prop}{I:Addr}{fp wr:List Addr}{n:Nat}{P:Nat->Value->Prop}{St:Nat->Heap->Prop}{κ:Type} [DecidableEq κ] {knd:KeyKind prog w κ}
theorem n8(kvs:List (κ×Value))(k:κ)(v:Value):(stored kvs k v).length<=kvs.length+1:=by
 unfold stored
 split <;> simp
theorem oA(kvs:List (κ×Value)):∀(more:List (κ×Value)),(merged kvs more).length<=kvs.length+more.length:=by
 intro more
 induction more generalizing kvs with
 | nil=>exact Nat.le_refl _
 | cons p r ih =>
  have h1:=ih (stored kvs p.1 p.2);have h2:=n8 kvs p.1 p.2;show(merged (stored kvs p.1 p.2) r).length<=_;simp only[List.length_cons];omega
theorem fi(W:Walks prog w A.in1 I fp wr n P St)(S:Addr)(hSf:S ∉ fp)(res:Value)(h0:Heap)(kvs pairs:List (κ×Value))(hsz:kvs.length+pairs.length<=sizeLine)(hnl:pairs.length=n)
  (hp:∀ i v,P i v->∃(a:Addr)(o:Obj)(key val:Value)(k:κ)(m:Nat),v = .ref a/\pairs[i]? = some (k,val)/\knd.is k key=true/\h0.get? a=some o/\o.cls = .type "tuple" /\ o.data = .seq #[key,val] m/\a ∉ wr/\a≠S) :
  ∀(j i:Nat)(s:Shared),n - i=j->i<=n->St i s.heap->s.heap.DictOf knd S (merged kvs (pairs.take i)) ->(∀ b o,b ∉ wr->b≠S->h0.get? b=some o->s.heap.get? b=some o) ->
  (∀ h' tk,(∀ b o,b ∉ wr->b≠S->s.heap.get? b=some o->h'.get? b=some o)->h'.DictOf knd S (merged kvs pairs)->R (.ok (.ret res)) { s with heap:=h',toks:=tk }) ->
  codeAny (model prog w) A (.builtin "dict.update.loop" ⟨[.ref S,.ref I,rawInt i,res],[]⟩) R s:=by
 have hSw:S ∉ wr:=fun h=>hSf (W.sub _ h)
 intro j
 induction j with
 | zero =>
  intro i s hk hi hst hS hk0 hR;have hin:i=n:=by omega
  subst hin;refine codeAny_builtin F.cS ?_;rw[Around.under_plainId F.a5 _];show wpAny _ A.in1 (pyNext (.ref I) >>= _) _ _ s;refine wpAny_bind (W.done s _ _ hst fun h' tk hk'=>?_)
  show wpAny _ A.in1 (Builtin.Dict.addKeywords S [] >>= _) _ _ _;refine wpAny_bind (wpAny_pure (wpAny_pure (hR h' tk (fun b o hb _ e=>hk' b o hb e) ?_)))
  rw[<- hnl,List.take_length]at hS;obtain⟨o,es,ep,ho,r⟩:=hS;exact⟨o,es,ep,hk' S o hSw ho,r⟩
 | succ j ih =>
  intro i s hk hi hst hS hk0 hR;have hlt:i<n:=by omega
  refine codeAny_builtin F.cS ?_;rw[Around.under_plainId F.a5 _];show wpAny _ A.in1 (pyNext (.ref I) >>= _) _ _ s;refine wpAny_bind (W.item i s _ _ hlt hst fun v h' tk hP JJ hk'=>?_)
  obtain⟨a,o,key,val,k,m,rfl,hpi,Hb,ho,hc,hd,haw,haS⟩:=hp i v hP;have ho':h'.get? a=some o:=hk' a o haw (hk0 a o haw haS ho);have hS':h'.DictOf knd S (merged kvs (pairs.take i)):=by
   obtain⟨o,es,ep,ho,r⟩:=hS;exact⟨o,es,ep,hk' S o hSw ho,r⟩
  show wpAny _ A.in1 (holding [Value.ref a] _ >>= _) _ _ _;refine wpAny_bind (wpAny_holding ?_);refine wpAny_bind (wpAny_tryCatch ?_);unfold Builtin.Dict.pairItems;refine wpAny_bind (wpAny_typeOf (T:="tuple") ⟨o,ho',hc⟩ ?_);rw[if_pos (by decide)]
  refine wpAny_bind (wpAny_seqItems ho' hd (wpAny_pure ?_));show wpAny _ A.in1 (holding [key,val] (dictSet S key val)) _ _ _;have hml:(merged kvs (pairs.take i)).length<=sizeLine:=by
   have h1:=oA kvs (pairs.take i);rw[List.length_take]at h1;omega
  refine wpAny_holding (wpAny_dictSet_pairs (hsz:=hml) Hb hS' fun h'' IJ hsb=>?_)
  have e:=merged_take_succ kvs pairs i (k,val) hpi;rw[<- e]at IJ;have fr:∀ b o,b≠S->h'.get? b=some o->h''.get? b=some o:=fun b o hb eb=>(hsb.2 b hb).trans eb
  refine wpAny_pure ⟨plainId_quiet F.a5 _,ih (i+1) _ (by omega) hlt (W.frame _ _ _ JJ fun b hb o eb=>fr b o (fun z=>hSf (z▸hb)) eb) IJ (fun b o hb hbS eb=>fr b o hbS (hk' b o hb (hk0 b o hb hbS eb))) fun h3 tk3 hk3 hS3=>?_⟩
  exact hR h3 tk3 (fun b o hb hbS eb=>hk3 b o hb hbS (fr b o hbS (hk' b o hb eb))) hS3
end
end PySem
namespace PySem
open Sem (wp)
section
variable{prog:Program}{w:World}{A:Around}{E:Value->Shared->Prop}{s:Shared}{κ:Type} [DecidableEq κ] {knd:KeyKind prog w κ}
theorem kl{S p:Addr}{its:Array Value}{kvs pairs:List (κ×Value)}{id:String}{res:Value}{R:Result->Shared->Prop}(hh:A.handled=none)(hS:s.heap.DictOf knd S kvs)(hpS:p≠S)
  (ho:∃(o:Obj)(n:Nat),s.heap.get? p=some o/\o.dict=none/\o.data = .seq its n/\(o.cls = .type "tuple" \/ o.cls = .type "list")) (hsz:kvs.length+pairs.length<=sizeLine) (hnl:pairs.length=its.size)
  (hp:∀(i:Nat)(v:Value),its[i]? = some v->∃(a:Addr)(o:Obj)(key val:Value)(k:κ)(m:Nat),v = .ref a/\pairs[i]? = some (k,val)/\knd.is k key=true/\s.heap.get? a=some o/\o.cls = .type "tuple" /\ o.data = .seq #[key,val] m)
  (hR:∀ h' tk,(∀ b o,b≠S->s.heap.get? b=some o->h'.get? b=some o)->h'.DictOf knd S (merged kvs pairs)->R (.ok (.ret res)) { s with heap:=h',toks:=tk }) :
  wpAny (model prog w) A.in1 (Builtin.Dict.updateFrom id S (.ref p) [] res) (fun fin s'=>match fin with | .done f=>R (.ok f) s' | .again c'=>c'.quiet=true/\codeAny (model prog w) A c' R s') (fun e s'=>R (.error e) s') s:=by
 obtain⟨o,n,hg,hdn,hdt,hcl⟩:=ho;have Ke:p<s.heap.objs.size:=Heap.lt_size hg;have Kg:S<s.heap.objs.size:=by obtain⟨_,_,_,e,_⟩:=hS;exact Heap.lt_size e
 have fin:∀(h1:Heap)(tk:Nat)(h2:Heap)(I:Addr)(St:Nat->Heap->Prop),(∀ b o,s.heap.get? b=some o->h1.get? b=some o) ->(∀ b o,h1.get? b=some o->h2.get? b=some o)->h1.objs.size<=I->Walks prog w A.in1 I [I,p] [I] its.size (fun i v=>its[i]? = some v) St->St 0 h2 ->
   codeAny (model prog w) A (.builtin "dict.update.loop" ⟨[.ref S,.ref I,rawInt 0,res],[]⟩) R { s with heap:=h2,toks:=tk }:=by
  intro h1 tk h2 I St k1 k2 hI W hst;have lt1:∀ b o,s.heap.get? b=some o->b≠I:=fun b o e z=>by
   have:b<h1.objs.size:=Heap.lt_size (k1 b o e)
   exact absurd (Nat.lt_of_lt_of_le this hI) (by rw[z];exact Nat.lt_irrefl _)
  have hSI:S ∉ [I,p]:=fun z=>by
   obtain⟨o,_,_,e,_⟩:=hS;rcases List.mem_cons.mp z with z|z
   ·exact lt1 S o e z
   ·exact hpS (List.mem_singleton.mp z).symm
  refine fi (knd:=knd) W S hSI res s.heap kvs pairs hsz hnl (fun i v hP=>?_) its.size 0 _ rfl (Nat.zero_le _) hst ?_ (fun b o _ _ e=>k2 b o (k1 b o e)) fun h' tk' hk hS'=>?_
  ·obtain⟨a,oa,key,val,k,m,e1,e2,e3,e4,e5,e6⟩:=hp i v hP;refine⟨a,oa,key,val,k,m,e1,e2,e3,e4,e5,e6,fun z=>lt1 a oa e4 (List.mem_singleton.mp z),fun z=>?_⟩
   obtain⟨o,_,_,e,hc,hd,_⟩:=hS;rw[<- z,e4]at e;cases e;rw[e6]at hd;cases hd
  ·obtain⟨o,es,ep,e,r⟩:=hS;exact⟨o,es,ep,k2 _ _ (k1 _ _ e),r⟩
  ·exact hR h' tk' (fun b o hb e=>hk b o (fun z=>lt1 b o e (List.mem_singleton.mp z)) hb (k2 b o (k1 b o e))) hS'
 unfold Builtin.Dict.updateFrom;rcases hcl with hcl|hcl
 ·refine wpAny_bind (wpAny_typeOf (T:="tuple") ⟨o,hg,hcl⟩ ?_);rw[if_pos (by decide)]
  refine wpAny_bind (lJ hg hcl hdt hdn hh fun h1 tk k1=>?_)
  rw[if_pos (show(none:Option Value).isNone=true from rfl)];refine wpAny_bind (wpAny_rule ?_);have hT:h1.IsTuple p its:=⟨o,k1 _ _ hg,hcl,n,hdt⟩;refine wpAny_bind (wpAny_pyIter_tuple hT ?_);refine wpAny_pure ⟨plainId_quiet F.a5 _,?_⟩;exact fin h1 tk _ h1.objs.size _ k1 (fun b o e=>Heap.get?_push_of_some _ e) (Nat.le_refl _) (Walks.tuple (show A.in1.handled=none from hh) _ p (Nat.ne_of_lt (Heap.lt_size (k1 _ _ hg))) its) ⟨⟨_,Heap.get?_push_size _ rfl,rfl,rfl⟩,hT.push _⟩
 ·refine wpAny_bind (wpAny_typeOf (T:="list") ⟨o,hg,hcl⟩ ?_);rw[if_pos (by decide)]
  refine wpAny_bind (ny hg hcl hdt hdn hh fun h1 tk k1=>?_)
  rw[if_pos (show(none:Option Value).isNone=true from rfl)];refine wpAny_bind (wpAny_rule ?_);have hT:h1.IsList p its:=⟨o,k1 _ _ hg,hcl,n,hdt⟩;refine wpAny_bind (wpAny_pyIter_list hT ?_);refine wpAny_pure ⟨plainId_quiet F.a5 _,?_⟩;exact fin h1 tk _ h1.objs.size _ k1 (fun b o e=>Heap.get?_push_of_some _ e) (Nat.le_refl _) (Walks.list (show A.in1.handled=none from hh) _ p (Nat.ne_of_lt (Heap.lt_size (k1 _ _ hg))) its) ⟨⟨_,Heap.get?_push_size _ rfl,rfl,rfl⟩,hT.push _⟩
end
end PySem
namespace L2
open PySem PySem.Spec PyProof.Rows
section
variable{X:Cx}{K:W.Frag}
theorem Inv.FA{pins:List (Addr×Obj)}{σ:St}{H:Hp}{s:Shared}{a:Addr}{xs:List V}(I:Inv X pins σ H s)(h:H a=some (.tup xs)):∃ its:List Value,Vals xs its/\jn s.heap a its.toArray/\xs.length<=sizeLine:=by
 obtain⟨z,its,r,p⟩:=(show bt X.prog X.w H s.heap a (.tup xs)from I.hok a _ h);exact⟨its,r,p,z⟩
theorem AB{pins:List (Addr×Obj)}{σ:St}{H:Hp}{s:Shared}(I:Inv X pins σ H s):∀{ps:List Addr}{kvs:List (Key×V)}{us:List Value},Vals (ps.map V.ref) us->ps.length=kvs.length ->(∀(i:Nat)(p:Addr)(kv:Key×V),ps[i]? = some p->kvs[i]? = some kv->H p=some (.tup [kV kv.1,kv.2])) ->
  ∃ pairs:List (Key×Value),KV kvs pairs/\∀(i:Nat)(v:Value),us[i]? = some v->∃(a:Addr)(o:Obj)(key val:Value)(k:Key)(m:Nat),v = .ref a/\pairs[i]? = some (k,val)/\(a6 X.prog X.w).is k key=true/\s.heap.get? a=some o/\o.cls = .type "tuple" /\ o.data = .seq #[key,val] m:=by
 intro ps
 induction ps with
 | nil =>
  intro kvs us r hl _;have e:kvs = []:=by cases kvs with|nil=>rfl|cons _ _=>simp at hl
  subst e;cases r;exact⟨[],.nil,fun i v h=>by simp at h⟩
 | cons p ps ih =>
  intro kvs us r hl h;cases kvs with
  | nil=>simp at hl
  | cons kv kvs =>
   cases r with
   | @cons _ u _ us r1 r2 =>
    obtain⟨pairs,h1,h2⟩:=ih (kvs:=kvs) (us:=us) r2 (by simpa using hl) fun i p kv e1 e2=>h (i+1) p kv (by simpa using e1) (by simpa using e2)
    have hp:=h 0 p kv (by simp) (by simp)
    obtain⟨its,ri,⟨o,ho,hc,m,hd⟩,_⟩:=I.tuple (SqT.of (K:=X.K) hp);cases ri with
    | @cons _ key _ rest k1 k2 =>
     cases k2 with
     | @cons _ val _ J9 k3 k4 =>
      cases k4;refine⟨(kv.1,val)::pairs,.cons ⟨rfl,k3⟩ h1,fun i v hv=>?_⟩
      cases i with
      | zero =>
       simp at hv;subst hv
       cases(show u=Value.ref p from r1)
       exact⟨p,o,key,val,kv.1,m,rfl,by simp,jN k1,ho,hc,hd⟩
      | succ i =>
       obtain⟨a,oa,JD,Jj,k,m',e1,e2,e3⟩:=h2 i v (by simpa using hv)
       exact⟨a,oa,JD,Jj,k,m',e1,by simpa using e2,e3⟩
def qL:List V->Hp->VK->Prop:=fun xs H Q=>∃(p:Addr)(ps:List Addr)(kvs:List (Key×V)),xs = [.ref p]/\(H p=some (.tup (ps.map V.ref))\/H p=some (.lst (ps.map V.ref)))/\ps.length=kvs.length /\
 (∀(i:Nat)(a:Addr)(kv:Key×V),ps[i]? = some a->kvs[i]? = some kv->H a=some (.tup [kV kv.1,kv.2]))/\∀ d,H d=none->Q (.ref d) (upd H d (.dK (dE [] kvs)))
theorem j8(hc:X.calm=true):cW X (.type "dict") qL:=by
 intro pins s σ H xs us Q I r h;obtain⟨p,ps,kvs,rfl,hp,hl,hps,q⟩:=h;obtain⟨u,rfl,ru⟩:=vals1 r;cases ru;have hh:X.A.handled=none:=I.ok.hd hc;obtain⟨its,rv,hz,ob⟩:∃ its:List Value,Vals (ps.map V.ref) its/\(ps.map V.ref).length<=sizeLine/\∃(o:Obj)(n:Nat),s.heap.get? p=some o/\o.dict=none/\o.data = .seq its.toArray n/\(o.cls = .type "tuple" \/ o.cls = .type "list"):=by
  rcases hp with hp|hp
  ·obtain⟨its,rv,⟨⟨o,ho,h1,n,h2⟩,o',ho',h3⟩,hz⟩:=I.FA hp;rw[ho]at ho';cases ho';exact⟨its,rv,hz,o,n,ho,h3,h2,.inl h1⟩
  ·obtain⟨hz,its,n,rv,e⟩:=(show bt X.prog X.w H s.heap p (.lst (ps.map V.ref))from I.hok p _ hp);exact⟨its,rv,hz,_,n,e,rfl,rfl,.inr rfl⟩
 obtain⟨pairs,kv,G9⟩:=AB I rv hl hps;refine callType_codes (Q₁:=fun obj s₁=>obj = .ref s.heap.objs.size/\s₁ ={ s with heap:=s.heap.push { cls:=.type "dict",data:=.dict #[] } }) F.kt_called_dict (F.kt_typeCall_dict_1 _) F.entry_dict_init (kt_code_dict_new _ ⟨rfl,rfl⟩) ?_
 rintro obj s₁ ⟨rfl,rfl⟩
 have v7:(s.heap.push { cls:=.type "dict",data:=.dict #[] }).DictOf (a6 X.prog X.w) s.heap.objs.size []:=Heap.DictOf.new s.heap;refine⟨v7.typeIs,F.args_dict_init_2 _ _,?_⟩;unfold Builtin.«dict.__init__»;refine wpAny_bind ?_;unfold Builtin.Dict.selfAndRest;refine wpAny_bind (wpAny_notOrdered_dict v7.typeIs ?_);show wpAny _ _ (pure (s.heap.objs.size,[Value.ref p])) _ _ _;refine wpAny_pure ?_;show wpAny _ _ (Builtin.Dict.updateFrom "dict.__init__" s.heap.objs.size (.ref p) [] .none) _ _ _;obtain⟨o,n,ho,hdn,hdt,hcl⟩:=ob;have hlv:=rv.length;rw[List.length_map]at hlv hz;have hkl:=kv.length;refine kl (A:=X.A.in1) (knd:=a6 X.prog X.w) (kvs:=[]) (pairs:=pairs) (its:=its.toArray) hh v7 (Nat.ne_of_lt (Heap.lt_size ho)) ⟨o,n,Heap.get?_push_of_some _ ho,hdn,hdt,hcl⟩ (by simp only[List.length_nil];omega) (by rw[List.size_toArray];omega) (fun i v hv=>?_) fun h' tk hk hd=>?_
 ·obtain⟨a,oa,key,val,k,m,e1,e2,e3,e4,e5,e6⟩:=G9 i v (by simpa using hv)
  exact⟨a,oa,key,val,k,m,e1,e2,e3,Heap.get?_push_of_some _ e4,e5,e6⟩
 ·refine⟨rfl,.ref s.heap.objs.size,_,I.laid (t':=tk) (h':=h') (a:=s.heap.objs.size) (o:=.dK (dE [] kvs)) (fun b u e=>hk b u (Nat.ne_of_lt (Heap.lt_size e)) (Heap.get?_push_of_some _ e)) (Nat.le_refl _) ?_,rfl,q _ (I.hok.fresh (Nat.le_refl _))⟩
  refine so ?_ ?_ (KV.merge kv .nil) hd
  ·have:=e8 kvs []
   simp only[List.length_nil]at this;omega
  ·have:=I.big
   exact beq_eq_false_iff_ne.mpr (Nat.ne_of_gt this)
end
def gO:List T->Option (List (Key×T))
 | []=>some []
 | .t [k,x]::r=>match k.key,gO r with
  | some k,some r=>some ((k,x)::r)
  | _,_=>none
 | _=>none
def c7(ks more:List (Key×T)):List (Key×T):=more.foldl (fun acc p=>lE acc p.1 p.2) ks
section
variable{X:Cx}{K:W.Frag}{dl:Dl}{H:Hp}
theorem av.pairs:∀{vs:List V}{xs:List T}{F:List Addr}{kts:List (Key×T)},av K dl H vs xs F->F = []->gO xs=some kts ->
  ∃(ps:List Addr)(kvs:List (Key×V)),vs=ps.map V.ref/\ps.length=kvs.length/\(∀(i:Nat)(a:Addr)(kv:Key×V),ps[i]? = some a->kvs[i]? = some kv->H a=some (.tup [kV kv.1,kv.2]))/\aK K dl H kvs kts []
 | _,_,_,kts,.nil,_,h=>by
  cases h;exact⟨[],[],rfl,rfl,fun i a kv h=>by simp at h,.nil⟩
 | _,x::xs,_,kts,.cons (F:=F1) h r,e,q=>by
  obtain⟨e1,e2⟩:=List.append_eq_nil_iff.mp e;unfold gO at q
  split at q
  ·rename_i z;cases z
  ·rename_i k y r' z;cases z
   split at q
   ·rename_i k0 r0 ek er;cases q;obtain⟨ps,kvs,rfl,hl,ht,hk⟩:=av.pairs r e2 er;obtain⟨a,ws,rfl,ha,hws⟩:=h.tup;cases hws with
    | @cons w1 _ _ _ G1 G2 w1r w2r =>
     cases w2r with
     | @cons w2 _ _ _ G3 G4 h2 h3 =>
      cases h3;have e3:=w1r.key ek;subst e3;obtain⟨z1,z2⟩:=List.append_eq_nil_iff.mp e1;rw[List.append_nil]at z2;subst z1 z2;refine⟨a::ps,(k0,w2)::kvs,rfl,by simp[hl],fun i b kv h1 h2=>?_,.cons (F:=[]) h2 hk⟩
      cases i with
      | zero =>
       simp at h1 h2;subst h1 h2;exact ha
      | succ i=>exact ht i b kv (by simpa using h1) (by simpa using h2)
   ·cases q
  ·cases q
theorem aK.c7{kvs':List (Key×V)}{kts':List (Key×T)}{kvs:List (Key×V)}{kts:List (Key×T)}{F:List Addr}(h:aK K dl H kvs kts F):F = []->∀{vs:List (Key×V)}{ts:List (Key×T)},aK K dl H vs ts []->aK K dl H (dE vs kvs) (L2.c7 ts kts) [] :=
 h.ind (M:=fun kvs kts F=>F = []->∀{vs:List (Key×V)}{ts:List (Key×T)},aK K dl H vs ts []->aK K dl H (dE vs kvs) (L2.c7 ts kts) []) (fun _ _ _ h=>h) fun _ _ _ _ _ _ _ h1 _ ih e _ _ h=>by
  obtain⟨e1,e2⟩:=List.append_eq_nil_iff.mp e;subst e1;exact ih e2 (aK.put h1 h)
def xk:QC:=fun ts Q=>match ts with
 | [.t xs]=>T.ims xs=true/\∃ kts,gO xs=some kts/\Q (.d (c7 [] kts))
 | [.l xs]=>T.ims xs=true/\∃ kts,gO xs=some kts/\Q (.d (c7 [] kts))
 | _=>False
theorem mI:tj K qL xk:=by
 intro dl H vs ts F Q R D r hq k;have go:∀(p:Addr)(ws:List V)(xs:List T),vs = [.ref p] ->(H p=some (.tup ws)\/H p=some (.lst ws))->av K dl H ws xs [] ->(∃ kts,gO xs=some kts/\Q (.d (c7 [] kts)))->qL vs H R:=by
  rintro p ws xs rfl hp rs ⟨kts,e,hq⟩
  obtain⟨ps,kvs,rfl,hl,ht,hk⟩:=rs.pairs rfl e;refine⟨p,ps,kvs,rfl,hp,hl,ht,fun d hd=>?_⟩
  have ev:=(Evo.refl D).new (o:=.dK (dE [] kvs)) hd;have h2:aK K dl H (dE [] kvs) (c7 [] kts) []:=aK.c7 (kvs':=[]) (kts':=[]) hk rfl .nil;exact k _ _ [d] _ ev ⟨.d au (h2.cX (ev.tf D) (fun _ z=>z) fun _ z=>nomatch z),fun b hb=>by rw[List.mem_singleton.mp hb];exact D.nd0 hd⟩ (fun b hb=>by rw[List.mem_singleton.mp hb];exact hd) (by simp) hq
 unfold xk at hq
 split at hq
 ·obtain⟨v,rfl,r'⟩:=r.one;obtain⟨p,ws,rfl,h1,h2⟩:=r'.r.tup;have e:=h2.im hq.1;subst e;exact go p ws _ rfl (.inl h1) h2 hq.2
 ·obtain⟨v,rfl,r'⟩:=r.one;obtain⟨p,ws,G,rfl,_,h1,h2⟩:=r'.r.lst;have e:=h2.im hq.1;subst e;exact go p ws _ rfl (.inr h1) h2 hq.2
 ·exact hq.elim
end
section
variable{X:Cx}{K:W.Frag}{a b:Expr}{ta tb:TE}{qa qb:QE}{pos:Pos}
theorem vv:OpR X (compareOp .Is) (fun x y H Q=>∃ c d,x = .bl c/\y = .bl d/\Q (.bl (c==d)) H):=by
 intro pins s σ H x y v u Q I rx ry h;obtain⟨c,d,rfl,rfl,q⟩:=h;cases rx;cases ry;exact is_bool ⟨.bl _,H,I,rfl,q⟩
def HX:Q2:=fun t u Q=>match t,u with
 | .b c,.b d=>Q (.b (c==d))
 | _,_=>False
theorem qF:cy K (fun x y H Q=>∃ c d,x = .bl c/\y = .bl d/\Q (.bl (c==d)) H) HX:=by
 intro dl H x y t u F G Q R D r1 r2 hq k;unfold HX at hq
 split at hq
 ·obtain⟨rfl,rfl⟩:=r1.r.bl;obtain⟨rfl,rfl⟩:=r2.r.bl;exact⟨_,_,rfl,rfl,k _ _ [] H (.refl D) (.c (.b _)) (fun _ z=>nomatch z) List.nodup_nil hq⟩
 ·exact hq.elim
def c6:PSp:=fun ts Q=>match ts with
 | [.cY,.i m]=>0<m/\m<18446744073709551616/\∀ r,0<=r->r<m->Q (.i r)
 | _=>False
theorem jh{P:Program}{w:World}{K:W.Frag}{mg:Str->Option Value}{base:Heap}{k:Nat}{f:Addr}{fd:FuncData}{ps:List Str}(F:aH P w K mg base CX0 k f fd ps zm):aH P w K mg base CX0 k f fd ps (spQ K c6):=by
 refine F.imp fun vs H Q E h=>?_
 obtain⟨dl,ts,Fp,Qp,D,r,h,fin⟩:=h;unfold c6 at h
 split at h
 ·obtain⟨v,w',F1,F2,rfl,r1,r2⟩:=r.two;obtain⟨a,l,rfl,hm,_⟩:=r1.r.dea;obtain⟨rfl,_⟩:=r2.r.int;refine⟨a,l,_,rfl,D _ hm,h.1,h.2.1,fun r H' r0 r1' D' K'=>fin _ _ [] H' ⟨fun b o e n _=>K' b o e (n _ hm).1 (n _ hm).2,fun p hp=>?_,fun b x e=>⟨x,Int.le_refl _,by
   obtain⟨s2,n2,l2,Q2⟩:=D _ hm;exact K' b _ e (iS e Q2.hd (fun z=>nomatch z)) (iS e Q2.hl (fun z=>nomatch z))⟩⟩ (.c (.i _)) (fun _ z=>nomatch z) List.nodup_nil (h.2.2 r r0 r1')⟩
  by_cases e:p =(a,l)
  ·rw[e];exact D'
  ·obtain⟨s1,n1,l1,Q1⟩:=D p hp;obtain⟨s2,n2,l2,Q2⟩:=D _ hm;obtain⟨s3,n3,l3,Q3⟩:=D';have pa:p.1≠a:=fun z=>by
    have z1:=Q1.hd;have z2:=Q2.hd;rw[z]at z1;rw[z1]at z2;have z3:dk s1 n1 p.2=dk s2 n2 l:=by injection (Option.some.inj z2)
    have z4:=congrArg (fun kv=>dC kv (.inr "left":Key)) z3
    simp only[xO]at z4;exact e (Prod.ext z (V.ref.inj (Option.some.inj z4)))
   have pl:p.1≠l:=iS Q1.hd Q2.hl (fun z=>nomatch z)
   have p2a:p.2≠a:=iS Q1.hl Q2.hd (fun z=>nomatch z)
   by_cases p2l:p.2=l
   ·exact⟨s1,n1,l3,K' _ _ Q1.hd pa pl,by rw[p2l];exact Q3.hl,Q1.s0,Q1.s1,Q1.n0,Q3.l0⟩
   ·exact⟨s1,n1,l1,K' _ _ Q1.hd pa pl,K' _ _ Q1.hl p2a p2l,Q1.s0,Q1.s1,Q1.n0,Q1.l0⟩
 ·exact h.elim
end
section
variable{X:Cx}{K:W.Frag}{a b c e o:Expr}{ta tb tk tv te:TE}{qa qb qk qv qe:QE}{pos pos':Pos}
theorem av.set{dl:Dl}{H:Hp}{w:V}{t:T}(hw:aC K dl H w t []):∀{vs:List V}{xs:List T}{F:List Addr}(j:Nat),av K dl H vs xs F->F = []->av K dl H (vs.set j w) (xs.set j t) []
 | _,_,_,_,.nil,_=>.nil
 | _,_,_,0,.cons h r,e=>by
  obtain⟨e1,e2⟩:=List.append_eq_nil_iff.mp e;subst e1 e2;exact .cons (F:=[]) hw r
 | _,_,_,j+1,.cons h r,e=>by
  obtain⟨e1,e2⟩:=List.append_eq_nil_iff.mp e;subst e1 e2;exact .cons (F:=[]) h (av.set hw j r rfl)
theorem zy{i:Nat}(hk:iP K tk qk)(hv:iP K tv qv):ke K (iM tv (Bs (bS i) tk zS)) (E9 i qk qv):=fun dl H₀ hs H σ q Dq D ⟨F,r⟩ hq E=>by
 refine hv dl H σ q _ _ r.rd hq fun w t F1 H1 e1 r1 hq=>?_
 split at hq
 ·rename_i xs ei;obtain⟨v,hv',rp⟩:=(r.evo e1).g i _ _ ei rfl;refine⟨v,hv',hk dl H1 σ q _ _ (r.rd.evo e1) hq fun y u F2 H2 e2 r2 hq=>?_⟩
  split at hq
  ·obtain⟨j,hj,hm,ht,hq⟩:=hq;obtain⟨rfl,_⟩:=r2.r.int;obtain rfl:=r1.r.im ht;have rp2:=rp.evo e1.d e2;obtain⟨p,vs,G,rfl,eF,h1,h2⟩:=rp2.r.lst;have eG:=h2.im hm;subst eG;refine⟨p,vs,_,j,rfl,rfl,h1,by rw[h2.len];exact hj,?_⟩
   exact E.nx _ _ _ (r.qK ei hv' eF (e1.trans e2) (av.set (r1.evo e1.d e2).r j h2 rfl) List.nodup_nil fun _ z=>nomatch z) hq
  ·exact hq.elim
 ·exact hq.elim
theorem CI{i:Nat}(ho:PE X o (bS i))(hk:QPE X K a tk qk)(hv:QPE X K b tv qv)(hs:swapsWithSole [.Subscript o a pos'] b pos.line X.env=pure false:=by rfl)(hw:swappedStores [.Subscript o a pos'] b X.env=pure none:=by rfl)
  (h1:(assignEach [.Subscript o a pos'] X.env).map (·.2) = [assign (.Subscript o a pos') X.env]:=by rfl)
  (ha:∀ v,assign (.Subscript o a pos') X.env v =(do
   let ov <- holding [v] (eval o X.env)
   let iv <- holding [v,ov] (eval a X.env)
   standAt pos'
   holding [v,ov,iv] (setItem ov iv v)
   release [v,ov,iv] []):=by intro _;rfl):QPS X K (.Assign [.Subscript o a pos'] b pos) (iM tv (Bs (bS i) tk zS)) (E9 i qk qv) :=
 ⟨qV hv.h (As ho hk.h set_list ha) hs hw h1,zy hk.s hv.s⟩
end
section
variable{X:Cx}{K:W.Frag}{dl:Dl}
def p9(xs ys:List T):List T:=(xs.zip ys).map fun p=>.t [p.1,p.2]
theorem lQ{xs ys:List T}{i:Nat}{z:T}(h:(p9 xs ys)[i]? = some z):∃ x y,xs[i]? = some x/\ys[i]? = some y/\z = .t [x,y]:=by
 unfold p9 at h;rw[List.getElem?_map]at h;obtain⟨p,hp,rfl⟩:=Option.map_eq_some_iff.mp h;rw[List.getElem?_zip_eq_some]at hp;exact⟨p.1,p.2,hp.1,hp.2,rfl⟩
theorem gA{xs ys:List T}:(p9 xs ys).length=min xs.length ys.length:=by simp[p9]
theorem Bd{a b:Addr}{xs ys:List T}:uR K dl (Itz K true true a b) (p9 xs ys) [(.ref a,.t xs),(.ref b,.t ys)] where
 go:=fun H i D h hi=>by
  obtain⟨F,r⟩:=h (.ref a,.t xs) (by simp)
  obtain⟨F',r'⟩:=h (.ref b,.t ys) (by simp)
  obtain⟨p,vs,e,h1,h2⟩:=r.r.tup;cases e;obtain⟨p',vs',e',h1',h2'⟩:=r'.r.tup;cases e';rw[gA]at hi;have l1:i<vs.length:=by rw[h2.len];omega
  have l2:i<vs'.length:=by rw[h2'.len];omega
  exact⟨vs,vs',vs[i],vs'[i],SqT.of h1,SqT.of h1',by simp[l1],by simp[l2]⟩
 yld:=fun H i x fp v H' D h hx y=>by
  have r:=h (.ref a,.t xs) (by simp)
  have r':=h (.ref b,.t ys) (by simp)
  obtain⟨p,vs,e,h1,h2⟩:=r.r.tup;cases e;obtain⟨p',vs',e',h1',h2'⟩:=r'.r.tup;cases e';obtain⟨x1,y1,hx1,hy1,rfl⟩:=lQ hx;obtain⟨w1,G1,hw1,rw1,hs1⟩:=h2.get hx1;obtain⟨w2,G2,hw2,rw2,hs2⟩:=h2'.get hy1;obtain⟨q,u1,u2,hq,rfl,rfl,y1',y2'⟩:=y;have e1:=y1' vs (SqT.of h1);rw[hw1]at e1;cases e1;have e2:=y2' vs' (SqT.of h1');rw[hw2]at e2;cases e2;have rs:Rps K dl H [w1,w2] [x1,y1] (G1++(G2 ++ [])):=Rps.cons ⟨rw1,fun b hb=>r.n b (hs1 b hb)⟩ (Rps.cons ⟨rw2,fun b hb=>r'.n b (hs2 b hb)⟩ ⟨.nil,fun _ z=>nomatch z⟩)
  refine⟨(Evo.refl D).new hq,_,rs.tup D hq,fun c hb=>.inr ?_⟩
  rw[List.append_nil]at hb;rcases List.mem_append.mp hb with z|z
  ·exact⟨_,by simp,hs1 c z⟩
  ·exact⟨(.ref b,.t ys),by simp,hs2 c z⟩
 stop:=fun H D h=>by
  obtain⟨F,r⟩:=h (.ref a,.t xs) (by simp)
  obtain⟨F',r'⟩:=h (.ref b,.t ys) (by simp)
  obtain⟨p,vs,e,h1,h2⟩:=r.r.tup;cases e;obtain⟨p',vs',e',h1',h2'⟩:=r'.r.tup;cases e';refine⟨vs,vs',SqT.of h1,SqT.of h1',?_⟩;rw[gA,h2.len,h2'.len];omega
variable{tg e a b:Expr}{te ta tb:TE}{qe qa qb:QE}{tl:TA}{ql:QA}{pos p:Pos}
def asZ(ql:QA):QI:=fun q Q=>ql q fun ts=>match ts with | [.t xs,.t ys]=>Q (p9 xs ys) | _=>False
theorem xu{elts:List Expr}{x1}{pos':Pos}{ta:TA}{t1 t2:Bool}(hK:X.K=K)(hg:Gl X "zip")(hm:X.mg "zip" = none)(d9:bootBuiltins "zip" = some (.type "zip"))(ha:PA X [a,b] ta)(hs:starEach [a,b] X.env = [(false,eval a X.env),(false,eval b X.env)])(hs2:starEach [b] X.env = [(false,eval b X.env)]) :
  PI X (.Tuple elts x1 pos') (.Call (.Name "zip" p) [a,b] [] pos) (D7 K t1 t2 ta):=by subst hK;exact Gk hg hm d9 ha hs hs2
theorem FZ{elts:List Expr}{x1}{pos':Pos}(hg:Gl X "zip")(hm:X.mg "zip" = none)(d9:bootBuiltins "zip" = some (.type "zip"))(ha:QPA X K [a,b] tl ql)(hs:starEach [a,b] X.env = [(false,eval a X.env),(false,eval b X.env)]:=by rfl)(hs2:starEach [b] X.env = [(false,eval b X.env)]:=by rfl)(hK:X.K=K:=by rfl) :
  QPI X K (.Tuple elts x1 pos') (.Call (.Name "zip" p) [a,b] [] pos) (D7 K true true tl) (asZ ql):=⟨xu hK hg hm d9 ha.h hs hs2,fun dl H σ q Q R rd hq k=>ha.s dl H σ q _ _ rd hq fun vs ts F H' e1 r _ hz=>by
 split at hz
 ·obtain⟨v,w,F1,F2,rfl,r1,r2⟩:=r.two;obtain⟨l1,vs1,rfl,h1,h2⟩:=r1.r.tup;obtain⟨l2,vs2,rfl,h3,h4⟩:=r2.r.tup;exact⟨l1,l2,rfl,⟨vs1,SqT.of h1⟩,⟨vs2,SqT.of h3⟩,k _ _ _ H' e1 Bd (fun p hp=>by
   simp only[List.mem_cons,List.not_mem_nil,or_false]at hp;rcases hp with rfl|rfl
   ·exact⟨_,r1⟩
   ·exact⟨_,r2⟩) hz⟩
 ·exact hz.elim⟩
end
def mD(K:W.Frag):Sp:=fun vs H Q _=>∃(a:Addr)(ns:List Int),vs = [.ref a]/\FzL K H a (ns.map V.int)/\ns.length<=63/\∀ H',Q (.bl true) H'
theorem IP{K:W.Frag}{H:Hp}{a:Addr}{xs:List V}(h:EU H)(hS:SqL K H a xs):FzL K H a xs:=by
 rcases hS with(z |⟨o,z⟩)|z
 ·rcases h a with e |⟨o,ys,e⟩
  ·rw[e]at z;cases z
  ·rw[e]at z;cases z
 ·exact .inl ⟨o,z⟩
 ·exact .inr z
theorem FzL.same{K:W.Frag}{H H':Hp}{a:Addr}{xs:List V}(h:FzL K H a xs)(s:jm H H'):FzL K H' a xs:=by
 rcases h with⟨o,z⟩|z
 ·exact .inl ⟨o,s _ _ z⟩
 ·exact .inr z
theorem Fun.JB{P:Program}{w:World}{K:W.Frag}{mg:Str->Option Value}{base:Heap}{x qual:Str}{st:Stmt}{f:Addr}{fd:FuncData}{N:List Str}{k n:Nat}{s1:Stmt}{rest:List Stmt}(F:Fun K x qual st f fd)(S:aP N ["_law_script"] (ak st))(hN:N.length=n+2)(hst:aE st=s1::rest)
  (jO:∀(cdv:Value)(A:Around)(outer:List Env)(s:Shared)(H:Hp)(E:XK),cU k (A.deeper (envOfC qual (ak st) s.heap.objs.size f cdv)) ->
   ∃ t1 t qs,PS (oT CX0 P w K mg base N qual (ak st) f cdv A outer s H E).nox s1 t1/\nT (oT CX0 P w K mg base N qual (ak st) f cdv A outer s H E).nox K rest t qs /\
    (∀(a:Addr)(ns:List Int)(D:Ends),SqL K H a (ns.map V.int)->ns.length<=63 ->(∀(d l:Addr)(H':Hp),H d=none->H l=none->ki H' d l->jm H H'->D.nx ([some (.ref a),some (.ref d)]++List.replicate n none) H')->t1 D ([some (.ref a),none]++List.replicate n none) H) /\
    ∀ ns:List Int,ns.length<=63->qs { nx:=fun _=>False,rt:=fun t=>t = .b true } ([.r (.z ns),.r .cY]++List.replicate n .no)):aH P w K mg base CX0 (k+1) f fd ["_law_script"] (mD K):=by
 refine F.ok S (fun vs H Q E h=>?_) (fun cdv A outer s H vs Q E hr h=>?_)
 ·obtain⟨a,ns,rfl,_⟩:=h;rfl
 ·obtain⟨a,ns,rfl,hS,hlen,k⟩:=h;obtain⟨t1,t,qs,h1,hb,r1,hq⟩:=jO cdv A outer s H E hr;rw[hst];refine⟨_,bK h1 hb.h,?_⟩;have es:start N [V.ref a] = [some (.ref a),none]++List.replicate n none:=by
   unfold start;rw[hN];rfl
  rw[es];refine r1 a ns _ hS.sq hlen fun d l H' hd hl D1 sm=>?_
  have Dq:Dls [(d,l)] H':=fun p hp=>by rw[List.mem_singleton.mp hp];exact D1
  have rp:Rps K [(d,l)] H' [.ref a,.ref d] [.z ns,.cY] ([]++([] ++ [])):=⟨.cons (.z (hS.same sm)) (.cons (.x (l:=l) (List.mem_singleton.mpr rfl)) .nil),fun _ z=>nomatch z⟩
  have R:=pB (n:=n+2) Dq rp (by simp)
  refine hb.s [(d,l)] H' [] H' _ _ _ _ R (hq ns hlen) ⟨fun _ _ _ _ z=>z.elim,fun _ _ _ _ z=>z.elim,fun _ _ _ _ z=>z.elim,fun v t F H2 _ r' _ _ _ hz=>?_⟩
  subst hz;obtain⟨rfl,_⟩:=r'.r.bl;exact k H2
section
variable{X:Cx}{K:W.Frag}{dl:Dl}
def iV(xs:List T):List T:=xs.zipIdx.map fun p=>.t [.i (p.2:Nat),p.1]
theorem jS{xs:List T}{i:Nat}{z:T}(h:(iV xs)[i]? = some z):∃ x,xs[i]? = some x/\z = .t [.i (i:Nat),x]:=by
 unfold iV at h;rw[List.getElem?_map]at h;obtain⟨p,hp,rfl⟩:=Option.map_eq_some_iff.mp h;rw[List.getElem?_zipIdx]at hp;obtain⟨x,hx,rfl⟩:=Option.map_eq_some_iff.mp hp;exact⟨x,hx,by simp⟩
theorem de{xs:List T}:(iV xs).length=xs.length:=by simp[iV]
theorem DZ{a:Addr}{xs:List T}:uR K dl (Ite K true a) (iV xs) [(.ref a,.t xs)] where
 go:=fun H i D h hi=>by
  obtain⟨F,r⟩:=h (.ref a,.t xs) (by simp)
  obtain⟨p,vs,e,h1,h2⟩:=r.r.tup;cases e;rw[de]at hi;have l1:i<vs.length:=by rw[h2.len];omega
  exact⟨vs,vs[i],SqT.of h1,by simp[l1]⟩
 yld:=fun H i x fp v H' D h hx y=>by
  have r:=h (.ref a,.t xs) (by simp)
  obtain⟨p,vs,e,h1,h2⟩:=r.r.tup;cases e;obtain⟨x1,hx1,rfl⟩:=jS hx;obtain⟨w1,G1,hw1,rw1,hs1⟩:=h2.get hx1;obtain⟨q,u1,hq,rfl,rfl,y1'⟩:=y;have e1:=y1' vs (SqT.of h1);rw[hw1]at e1;cases e1;have rs:Rps K dl H [.int (i:Nat),w1] [.i (i:Nat),x1] ([]++(G1 ++ [])):=Rps.cons ⟨.i _,fun _ z=>nomatch z⟩ (Rps.cons ⟨rw1,fun b hb=>r.n b (hs1 b hb)⟩ ⟨.nil,fun _ z=>nomatch z⟩)
  refine⟨(Evo.refl D).new hq,_,rs.tup D hq,fun c hb=>.inr ?_⟩
  rw[List.append_nil]at hb;exact⟨_,by simp,hs1 c hb⟩
 stop:=fun H D h=>by
  obtain⟨F,r⟩:=h (.ref a,.t xs) (by simp)
  obtain⟨p,vs,e,h1,h2⟩:=r.r.tup;cases e;exact⟨vs,SqT.of h1,by rw[de,h2.len];exact Nat.le_refl _⟩
variable{tg e a b c:Expr}{te ta tb:TE}{qe qa qb:QE}{tl:TA}{ql:QA}{pos p:Pos}
def J2(ql:QA):QI:=fun q Q=>ql q fun ts=>match ts with | [.t xs]=>Q (iV xs) | _=>False
theorem t8{elts:List Expr}{x1}{pos':Pos}{ta:TA}{tp:Bool}(hK:X.K=K)(hg:Gl X "enumerate")(hm:X.mg "enumerate" = none)(d9:bootBuiltins "enumerate" = some (.type "enumerate"))(ha:PA X [a] ta)(hs:starEach [a] X.env = [(false,eval a X.env)]) :
  PI X (.Tuple elts x1 pos') (.Call (.Name "enumerate" p) [a] [] pos) (xK K tp ta):=by subst hK;exact C6 hg hm d9 ha hs
theorem CK{elts:List Expr}{x1}{pos':Pos}(hg:Gl X "enumerate")(hm:X.mg "enumerate" = none)(d9:bootBuiltins "enumerate" = some (.type "enumerate"))(ha:QPA X K [a] tl ql)(hs:starEach [a] X.env = [(false,eval a X.env)]:=by rfl)(hK:X.K=K:=by rfl) :
  QPI X K (.Tuple elts x1 pos') (.Call (.Name "enumerate" p) [a] [] pos) (xK K true tl) (J2 ql):=⟨t8 hK hg hm d9 ha.h hs,fun dl H σ q Q R rd hq k=>ha.s dl H σ q _ _ rd hq fun vs ts F H' e1 r _ hz=>by
 split at hz
 ·obtain⟨v,rfl,r1⟩:=r.one;obtain⟨l1,vs1,rfl,h1,h2⟩:=r1.r.tup;exact⟨l1,rfl,⟨vs1,SqT.of h1⟩,k _ _ _ H' e1 DZ (fun p hp=>by rw[List.mem_singleton.mp hp];exact⟨_,r1⟩) hz⟩
 ·exact hz.elim⟩
theorem av.snoc{H:Hp}{v:V}{t:T}(hv:aC K dl H v t []){vs:List V}{ts:List T}{F:List Addr}(h:av K dl H vs ts F):F = []->av K dl H (vs ++ [v]) (ts ++ [t]) [] :=
 h.ind (M:=fun vs ts F=>F = []->av K dl H (vs ++ [v]) (ts ++ [t]) []) (fun _=>.cons (F:=[]) (G:=[]) hv .nil) fun _ _ _ _ _ _ h _ ih e=>by
  obtain⟨e1,e2⟩:=List.append_eq_nil_iff.mp e;subst e1;exact .cons (F:=[]) (G:=[]) h (ih e2)
theorem av.rev{H:Hp}{vs:List V}{ts:List T}{F:List Addr}(h:av K dl H vs ts F):F = []->av K dl H vs.reverse ts.reverse [] :=
 h.ind (M:=fun vs ts F=>F = []->av K dl H vs.reverse ts.reverse []) (fun _=>.nil) fun _ _ _ _ _ _ h _ ih e=>by
  obtain⟨e1,e2⟩:=List.append_eq_nil_iff.mp e;subst e1;rw[List.reverse_cons,List.reverse_cons];exact av.snoc h (ih e2) rfl
variable{o:Expr}{apos bc:Pos}
end
section
variable{X:Cx}{K:W.Frag}{dl:Dl}{H:Hp}{v:V}{F:List Addr}
theorem aC.JX{o:Obj}{vs:List (Key×V)}{ts:List (Key×T)}(h:aC K dl H v (.fd o vs ts) F):∃ a,v = .ref a/\F = []/\H a=some (.frz o (.dK vs))/\aK K dl H vs ts []:=by cases h with|fd h r=>exact⟨_,rfl,rfl,h,r⟩
variable{tg e a b:Expr}{te ta tb:TE}{qe qa qb:QE}{pos:Pos}
theorem ki.oth{H:Hp}{d l a:Addr}{o:HO}(D:ki H d l)(h1:a≠d)(h2:a≠l):ki (upd H a o) d l:=by
 obtain⟨s,n,ls,Q⟩:=D;exact⟨s,n,ls,by rw[aj h1.symm];exact Q.hd,by rw[aj h2.symm];exact Q.hl,Q.s0,Q.s1,Q.n0,Q.l0⟩
end
section
variable{X:Cx}{K:W.Frag}{dl:Dl}{H:Hp}{v:V}{F:List Addr}
theorem av.lookup{f:Str}:∀{ns:List Str}{vs:List V}{ts:List T}{F:List Addr}{u:T},av K dl H vs ts F ->(ns.zip ts).lookup f=some u->∃ w G,(ns.zip vs).lookup f=some w/\aC K dl H w u G/\∀ b∈G,b∈F
 | [],_,_,_,_,_,h=>by simp at h
 | _::_,_,_,_,_,.nil,h=>by simp at h
 | n::ns,_,_,_,u,.cons h1 r,h=>by
  rw[List.zip_cons_cons,List.lookup_cons]at h ⊢;cases e:(f==n)with
  | true =>
   rw[e]at h;cases h;exact⟨_,_,rfl,h1,fun b hb=>List.mem_append_left _ hb⟩
  | false =>
   rw[e]at h;obtain⟨w,G,a1,a2,a3⟩:=av.lookup (ns:=ns) r h;exact⟨w,G,a1,a2,fun b hb=>List.mem_append_right _ (a3 b hb)⟩
end
section
variable{X:Cx}{K:W.Frag}{dl:Dl}{H:Hp}{a b e:Expr}{ta tb te:TE}{qa qb qe:QE}{pos:Pos}
def Jq(qa qb:QE):QE:=fun q Q=>qa q fun t=>qb q fun u=>match t,u with
 | .l xs,.i k=>∃ x,atI xs k=some x/\Q x
 | _,_=>False
theorem gI(ha:QPF X K a ta qa)(hb:QPE X K b tb qb)(hs:kf b:=by intro _ _;rfl)(hK:X.K=K:=by rfl):QPF X K (.Subscript a b pos) (tOp (rIx K) ta tb) (Jq qa qb):=by
 refine⟨by subst hK;exact ub Bb ha.h hb.h hs,fun dl H σ q Q R rd hq k=>?_⟩
 refine ha.s dl H σ q _ _ rd hq fun v t F H1 e1 r1 f1 n1 hq1=>?_
 refine hb.s dl H1 σ q _ _ (rd.evo e1) hq1 fun w u G H2 e2 r2 hq2=>?_
 have r1:=r1.evo e1.d e2
 split at hq2
 ·obtain⟨rfl,rfl⟩:=r2.r.int;obtain⟨p,vs,G,rfl,rfl,h1,h2⟩:=r1.r.lst;obtain⟨z,hz,hq⟩:=hq2;obtain⟨j,hj,hi⟩:=ml hz h2.len.symm;obtain⟨v,G',hv,rv,hs⟩:=h2.Hg hj;have sub:∀ c∈G',c∈p::G:=fun c hc=>List.mem_cons_of_mem _ (hs.subset hc)
  exact .inl ⟨p,vs,_,v,rfl,rfl,SqL.of h1,sQ hi hv,k v z G' H2 (e1.trans e2) (Rp.sub rv r1.n sub) (fun c hc=>f1 c (sub c hc)) ((List.nodup_cons.mp n1).2.sublist hs) hq⟩
 ·exact hq2.elim
def FV(K:W.Frag):R2:=fun x y H Q=>∃ p q vs ws,x = .ref p/\y = .ref q/\SqL K H p vs/\SqL K H q ws/\vs.all dM=true/\ws.all dM=true/\Q (.bl (!jR vs ws)) H
theorem Gw(hu:X.A.units+1<cLine):OpR X (compareOp .NotEq) (FV X.K):=by
 intro pins s σ H x y v u Q I rx ry h;obtain⟨p,q,vs,ws,rfl,rfl,h1,h2,f1,f2,k⟩:=h;cases rx;cases ry;obtain⟨its,r1,p1,_⟩:=I.list h1;obtain⟨dP,r2,p2,_⟩:=I.list h2;have l1:=r1.length;have l2:=r2.length;by_cases hl:its.length=dP.length
 ·refine SeqAt.RcNeAt.lists (e:=fun j=>match vs[j]?,ws[j]? with|some x,some y=>eqV x y | _,_=>false) p1.isList p2.isList (by simpa using hl) (by omega) (fun j g1 g2=>?_) X.prog X.w X.xe _ ⟨.bl _,H,I,rfl,?_⟩
  ·obtain⟨a,ea,ra⟩:=r1.at' g1;obtain⟨b,eb,rb⟩:=r2.at' g2;simp only[ea,eb];exact sk ra rb (iI f1 ea) (iI f2 eb)
  ·have e:jR vs ws =(List.range its.toArray.size).all fun j=>match vs[j]?,ws[j]? with|some x,some y=>eqV x y | _,_=>false:=by
    unfold jR;rw[show(vs.length==ws.length)=true from by simp;omega,Bool.true_and,List.size_toArray,l1]
    try rfl
   rw[<- e];exact k
 ·refine SeqAt.RcNeAt.lists_lengths p1.isList p2.isList (by simpa using hl) (by omega) X.prog X.w X.xe _ ⟨.bl _,H,I,rfl,?_⟩
  have e:jR vs ws=false:=by
   unfold jR;rw[show(vs.length==ws.length)=false from by simp;omega,Bool.false_and]
  rw[e]at k;exact k
def HV:Q2:=fun t u Q=>match t,u with
 | .l xs,.l ys=>(fls xs&&fls ys)=true/\Q (.b (!eqF xs ys))
 | _,_=>False
theorem Gv(hu:X.A.units+1<cLine)(hK:X.K=K):OpR X (compareOp .NotEq) (FV K):=by subst hK;exact Gw hu
theorem Cr:cy K (FV K) HV:=by
 intro dl H x y t u F G Q R D r1 r2 hq k;unfold HV at hq
 split at hq
 ·obtain⟨p,vs,G1,rfl,rfl,h1,h2⟩:=r1.r.lst;obtain⟨p',vs',G2,rfl,rfl,h3,h4⟩:=r2.r.lst;obtain⟨f,hq⟩:=hq;rw[Bool.and_eq_true]at f;obtain⟨rfl,rfl⟩:=h2.vs f.1;obtain⟨rfl,rfl⟩:=h4.vs f.2;exact⟨p,p',_,_,rfl,rfl,SqL.of h1,SqL.of h3,je f.1,je f.2,k _ _ [] H (.refl D) (.c (.b _)) (fun _ z=>nomatch z) List.nodup_nil hq⟩
 ·exact hq.elim
theorem Bx{xs:List T}(h:∀ x∈xs,eqV x.v x.v=true):eqF xs xs=true:=by
 unfold eqF jR;simp only[beq_self_eq_true,Bool.true_and,List.all_eq_true,List.mem_range,List.length_map];intro i hi;simp only[List.getElem?_map,List.getElem?_eq_getElem hi,Option.map_some];exact h _ (List.getElem_mem hi)
end
section
variable{X:Cx}{K:W.Frag}{dl:Dl}{a e:Expr}{te:TE}{qe:QE}{tl:TA}{ql:QA}{pos p:Pos}
def Gb(qe:QE):QE:=fun q Q=>qe q fun t=>match t with | .l xs=>T.ims xs=true/\Q (.l xs.reverse) | _=>False
theorem ua{p1 p2 i6:Pos}(hK:X.K=K)(hc:X.calm=true)(hg1:Gl X "list")(hm1:X.mg "list" = none)(hg2:Gl X "reversed")(hm2:X.mg "reversed" = none)(he:PE X e te)
  (hs1:starEach [e] X.env = [(false,eval e X.env)]) (hs2:starEach [.Call (.Name "reversed" p2) [e] [] i6] X.env = [(false,eval (.Call (.Name "reversed" p2) [e] [] i6) X.env)]) :
  PE X (.Call (.Name "list" p1) [.Call (.Name "reversed" p2) [e] [] i6] [] pos) (mx K te):=by subst hK;exact mX hc hg1 hm1 hg2 hm2 he hs1 hs2
theorem tV{p1 p2 i6:Pos}(hc:X.calm=true)(hg1:Gl X "list")(hm1:X.mg "list" = none)(hg2:Gl X "reversed")(hm2:X.mg "reversed" = none)(he:QPE X K e te qe)
  (hs1:starEach [e] X.env = [(false,eval e X.env)]:=by rfl) (hs2:starEach [.Call (.Name "reversed" p2) [e] [] i6] X.env = [(false,eval (.Call (.Name "reversed" p2) [e] [] i6) X.env)]:=by rfl) (hK:X.K=K:=by rfl) :
  QPF X K (.Call (.Name "list" p1) [.Call (.Name "reversed" p2) [e] [] i6] [] pos) (mx K te) (Gb qe) :=
 ⟨ua hK hc hg1 hm1 hg2 hm2 he.h hs1 hs2,fun dl H σ q Q R rd hq k=>he.s dl H σ q _ _ rd hq fun v t F H1 e1 r hz=>by
  split at hz
  ·obtain⟨i1,hz⟩:=hz;obtain⟨l,vs,G,rfl,rfl,h1,h2⟩:=r.r.lst;obtain rfl:=h2.im i1;refine⟨l,vs,rfl,SqL.of h1,fun p hp=>?_⟩
   have rs:Rps K dl H1 vs.reverse _ []:=⟨h2.rev rfl,fun _ z=>nomatch z⟩
   exact k _ _ [p] _ (e1.new hp) (rs.lst e1.d hp) (fun b hb=>by rw[List.mem_singleton.mp hb];exact e1.free hp) (by simp) hz
  ·exact hz.elim⟩
end
section
variable{X:Cx}{K:W.Frag}{ek ev:Expr}{tk tv:TE}{qk qv:QE}{pos:Pos}
theorem TF.dict{H:Hp}{p:Addr}{kv kw:List (Key×V)}(hp:H p=some (.dK kv)):TF H (upd H p (.dK kw)) :=
 have ne:∀{a:Addr}{o:HO},H a=some o ->(∀ kv,o ≠ .dK kv)->a≠p:=fun h n e=>by rw[e,hp]at h;exact n _ (Option.some.inj h).symm
 ⟨fun a vs h=>by rw[aj (ne h fun _ z=>nomatch z)];exact h,fun a o u h=>by rw[aj (ne h fun _ z=>nomatch z)];exact h,fun a φ h=>by rw[aj (ne h fun _ z=>nomatch z)];exact h,fun a xs h=>⟨xs,by rw[aj (ne h fun _ z=>nomatch z)];exact h⟩,fun a x h=>⟨x,Int.le_refl _,by rw[aj (ne h fun _ z=>nomatch z)];exact h⟩⟩
end
section
variable{X:Cx}{pins:List (Addr×Obj)}{σ:St}{H:Hp}{s:Shared}{a:Addr}{x:Int}
theorem Inv.Fg(I:Inv X pins σ H s){u:HO}(ha:H a=some u)(hu:∀ o v,u ≠ .frz o v):∀ o v,X.H₀ a≠some (.frz o v):=fun o v e=>by
 have:=I.base.jQ a o v e
 rw[ha]at this;exact hu o v (Option.some.inj this)
theorem Inv.zd(I:Inv X pins σ H s)(ha:H a=some (.lst [.int x])):Inv X pins σ (upd H a (.room x)) s:=by
 obtain⟨_,its,n,r,e⟩:=(show bt X.prog X.w H s.heap a (.lst [.int x])from I.hok a _ ha);exact I.zP ha (fun _ z=>nomatch z) (fun _ z=>nomatch z) (fun _ z=>nomatch z) (I.Fg ha (fun _ _ z=>nomatch z)) ⟨its,n,r,e⟩
theorem Inv.GF(I:Inv X pins σ H s)(ha:H a=some (.room x)):Inv X pins σ (upd H a (.lst [.int x])) s:=by
 obtain⟨its,n,r,e⟩:=(show bt X.prog X.w H s.heap a (.room x)from I.hok a _ ha);exact I.zP ha (fun _ z=>nomatch z) (fun _ z=>nomatch z) (fun _ z=>nomatch z) (I.Fg ha (fun _ _ z=>nomatch z)) ⟨by show 1<=sizeLine;decide,its,n,r,e⟩
end
section
variable{X:Cx}{K:W.Frag}{a b e o:Expr}{ta tb te:TE}{qa qb qe:QE}{pos pos' p2:Pos}
def zV:R2:=fun x y H Q=>∃ p r,x = .ref p/\y = .int 0/\H p=some (.room r)/\Q (.int r) H
theorem xE:IxR X zV:=by
 intro value slice pins s σ H x y v u Q I rx ry h hs;obtain⟨p,m,rfl,rfl,hq,q⟩:=h;cases rx;obtain⟨t,rfl⟩:=ry;obtain⟨its,n,r,e⟩:=(show bt X.prog X.w H s.heap p (.room m)from I.hok p _ hq);have pl:PlainL s.heap p its.toArray:=⟨_,n,e,rfl,rfl,rfl⟩;obtain⟨w,ew,rw'⟩:=r.get (show [V.int m][0]? = some (.int m)from rfl);have hl:=r.length;have hn:=gQ;have fin:EP X pins σ Q w s:=⟨.int m,H,I,rw',q⟩;have hl':its.length=1:=hl.symm;exact item_listR pl.isList (Int.le_refl 0) (by decide) (by simpa using ew) fin hs
def zR:ET:=fun o i v H Q=>∃ p x y,o = .ref p/\i = .int 0/\v = .int y/\H p=some (.room x)/\Q (upd H p (.room y))
theorem zJ:Hn X zR:=by
 intro pins s σ H o i v ov iv u Q I ro ri rv h;obtain⟨p,x,y,rfl,rfl,rfl,hp,q⟩:=h;have I1:=I.GF hp;refine thn (set_list (X:=X) pins s σ _ (.ref p) (.int 0) (.int y) ov iv u (fun H'=>H'=upd H p (.lst [.int y])) I1 ro ri rv ⟨p,[.int x],0,0,rfl,rfl,au,rfl,by rw[lR];rfl⟩) fun _ s' z=>?_
 obtain⟨H',I',z⟩:=z;subst z;have I2:=I'.zd au;rw[lR]at I2;exact⟨_,I2,q⟩
def EY(te:TE):TE:=fun σ H Q=>te σ H fun v H1=>∃ a x,v = .ref a/\H1 a=some (.lst [.int x])/\Q v (upd H1 a (.room x))
theorem C7(he:PE X e te):PE X e (EY te):=by
 intro pins s σ H Q I h;refine thn (he pins s σ H _ I h) fun u s' hPP=>?_
 obtain⟨v,H',I',r,a,x,e1,e2,q⟩:=hPP;exact⟨v,_,I'.zd e2,r,q⟩
theorem Evo.fresh{dl:Dl}{H H':Hp}{a:Addr}{o:HO}(e:Evo dl H H')(ha:H a=none)(nd:Nd dl a):Evo dl H (upd H' a o) :=
 ⟨fun b u h n r=>by rw[aj (aM h ha)];exact e.k b u h n r,fun p hp=>(e.d p hp).oth (nd p hp).1 (nd p hp).2,fun b x h=>let⟨y,hy,e'⟩:=e.r b x h;⟨y,hy,by rw[aj (aM h ha)];exact e'⟩⟩
def HU(qe:QE):QE:=fun q Q=>qe q fun t=>match t with
 | .l [.i x]=>Q (.rm x)
 | _=>False
theorem CM(he:QPF X K e te qe):QPF X K e (EY te) (HU qe):=⟨C7 he.h,fun dl H σ q Q R rd hq k=>he.s dl H σ q _ _ rd hq fun v t F H1 e1 r1 f1 n1 hz=>by
 split at hz
 ·rename_i x;obtain⟨p,vs,G,rfl,rfl,h1,h2⟩:=r1.r.lst;cases h2 with
  | cons h3 h4 =>
   cases h4;obtain⟨rfl,rfl⟩:=h3.int;exact⟨p,x,rfl,h1,k _ (.rm x) [] _ (e1.fresh (f1 p List.mem_cons_self) (r1.n p List.mem_cons_self)) ⟨.rm au (Int.le_refl _),fun _ z=>nomatch z⟩ (fun _ z=>nomatch z) List.nodup_nil hz⟩
 ·exact hz.elim⟩
def Gd:Q2:=fun t u Q=>match t,u with
 | .rm m,.i k=>k=0/\∀ r,r<=m->Q (.i r)
 | _,_=>False
theorem Ct:BW K zV Gd:=by
 intro dl H x y t u F G Q R D r1 r2 hq k;unfold Gd at hq
 split at hq
 ·obtain⟨p,m,rfl,h1,h2,_⟩:=r1.r.roo;obtain⟨rfl,_⟩:=r2.r.int;obtain⟨rfl,hq⟩:=hq;exact⟨p,m,rfl,rfl,h1,k _ (.i m) [] H (.refl D) ⟨.i m,fun _ z=>nomatch z⟩ (hq m h2)⟩
 ·exact hq.elim
theorem CN(ha:QPE X K a ta qa)(hb:QPE X K b tb qb)(hs:kf b:=by intro _ _;rfl):QPE X K (.Subscript a b pos) (tOp zV ta tb) (qOp Gd qa qb):=⟨ub xE ha.h hb.h hs,qE Ct ha.s hb.s⟩
def vm(i:Nat)(qe:QE):QS:=fun D q=>match q[i]? with
 | some x=>match x.get with
  | some (.rm u)=>qe q fun t=>match t with
   | .i k=>0<=k/\D.nx (q.set i (.r (.rm (u - k))))
   | _=>False
  | _=>False
 | none=>False
def E7:R2:=rI0 fun i j=>.int (i - j)
theorem zI{α:Type}{xs:List α}{i:Nat}{x:α}(h:xs[i]? = some x):xs.set i x=xs:=by
 obtain⟨hl,e⟩:=List.getElem?_eq_some_iff.mp h;subst e;exact List.set_getElem_self hl
theorem yj{i:Nat}(he:iP K te qe):ke K (iM (tOp E7 (tOp zV (bS i) (tC (.int 0))) te) (Bs (bS i) (tC (.int 0)) zR)) (vm i qe):=fun dl H₀ hs H σ q Dq D ⟨F,r⟩ hq E=>by
 unfold vm at hq
 split at hq
 ·rename_i x ex
  split at hq
  ·rename_i u eg;obtain⟨v,hv,rp⟩:=r.g i x _ ex eg;obtain⟨p,m,rfl,h1,h2,hF⟩:=rp.r.roo;refine⟨_,hv,p,m,rfl,rfl,h1,he dl H σ q _ _ r.rd hq fun w t F1 H1 e1 r1 hz=>?_⟩
   split at hz
   ·rename_i k;obtain⟨hk,hz⟩:=hz;obtain⟨rfl,_⟩:=r1.r.int;obtain⟨y,hy,e2⟩:=e1.r p m h1;have nd:Nd dl p:=r.d.nd h1 (fun _ z=>nomatch z) (fun _ z=>nomatch z)
    refine⟨m,k,rfl,rfl,_,hv,p,y,m - k,rfl,rfl,rfl,e2,?_⟩;have ev:Evo dl H (upd H1 p (.room (m - k))):=by
     refine⟨fun b o hb n nr=>?_,fun d hd=>(e1.d d hd).oth (nd d hd).1 (nd d hd).2,fun b z hb=>?_⟩
     ·have ne:b≠p:=fun z=>by rw[z,h1]at hb;exact nr _ (Option.some.inj hb).symm
      rw[aj ne];exact e1.k b o hb n nr
     ·by_cases eb:b=p
      ·subst eb;rw[h1]at hb;cases hb;exact⟨_,Int.sub_le_self _ hk,au⟩
      ·obtain⟨z',hz',e3⟩:=e1.r b z hb;exact⟨z',hz',by rw[aj eb];exact e3⟩
    have R2:=(r.evo ev).Gg (i:=i) (v:=.ref p) (t:=.rm (u - k)) (F':=[]) (List.getElem?_eq_some_iff.mp ex).1 ⟨.rm au (by omega),fun _ z=>nomatch z⟩ (fun _ _ _ _ _ _=>List.not_mem_nil)
    rw[zI hv]at R2;exact E.nx _ _ _ ⟨_,R2⟩ hz
   ·exact hz.elim
  ·exact hq.elim
 ·exact hq.elim
theorem tU{i:Nat}{x:Str}{p1 p3 p4 p5 p6 p7:Pos}{j1 j2:Nat}(ho:PE X (.Name x p1) (bS i))(ho':PE X (.Name x p3) (bS i))(he:QPE X K e te qe)
  (hs:swapsWithSole [.Subscript (.Name x p1) (.Constant (.int 0) j1 p4) pos'] (.BinOp (.Subscript (.Name x p3) (.Constant (.int 0) j2 p5) p6) .Sub e p7) pos.line X.env=pure false:=by rfl) (hw:swappedStores [.Subscript (.Name x p1) (.Constant (.int 0) j1 p4) pos'] (.BinOp (.Subscript (.Name x p3) (.Constant (.int 0) j2 p5) p6) .Sub e p7) X.env=pure none:=by rfl)
  (h1:(assignEach [.Subscript (.Name x p1) (.Constant (.int 0) j1 p4) pos'] X.env).map (·.2) = [assign (.Subscript (.Name x p1) (.Constant (.int 0) j1 p4) pos') X.env]:=by rfl)
  (ha:∀ v,assign (.Subscript (.Name x p1) (.Constant (.int 0) j1 p4) pos') X.env v =(do
   let ov <- holding [v] (eval (.Name x p1) X.env)
   let iv <- holding [v,ov] (eval (.Constant (.int 0) j1 p4) X.env)
   standAt pos'
   holding [v,ov,iv] (setItem ov iv v)
   release [v,ov,iv] []):=by intro _;rfl) :
  QPS X K (.Assign [.Subscript (.Name x p1) (.Constant (.int 0) j1 p4) pos'] (.BinOp (.Subscript (.Name x p3) (.Constant (.int 0) j2 p5) p6) .Sub e p7) pos) (iM (tOp E7 (tOp zV (bS i) (tC (.int 0))) te) (Bs (bS i) (tC (.int 0)) zR)) (vm i qe) :=
 ⟨qV (cj AE (ub xE ho' br (fun _ _=>rfl)) he.h) (As ho br zJ ha) hs hw h1,yj he.s⟩
end
def nu(H:Hp)(a:Addr):Hp:=fun b=>if b=a then none else H b
theorem ja{H:Hp}{a:Addr}:nu H a a=none:=if_pos rfl
theorem nt{H:Hp}{a b:Addr}(h:b≠a):nu H a b=H b:=if_neg h
def spM(K:W.Frag)(j:Nat)(ps:PSp):Sp:=fun vs H Q _=>∃(dl:Dl)(ts:List T)(a:Addr)(ks:List (Key×T))(Qp:T->Prop),Dls dl H/\vs.length=ts.length/\vs[j]? = some (.ref a)/\ts[j]? = some (.dp a ks)/\Rp K dl H (.ref a) (.dp a ks) [a] /\
 (∀ i v t,i≠j->vs[i]? = some v->ts[i]? = some t->Rp K dl H v t [])/\ps ts Qp /\
 ∀ ks' H',Frm dl (nu H a) H'->Dls dl H'->Rp K dl H' (.ref a) (.dp a ks') [a]->Qp (.dp a ks')->Q .non H'
theorem Fun.okM{P:Program}{w:World}{K:W.Frag}{mg:Str->Option Value}{base:Heap}{x qual:Str}{st:Stmt}{f:Addr}{fd:FuncData}{N ps:List Str}{k j:Nat}{psp:PSp}(F:Fun K x qual st f fd)(S:aP N ps (ak st))(len:∀ ts Q,psp ts Q->ts.length=ps.length)
  (jO:∀(cdv:Value)(A:Around)(outer:List Env)(s:Shared)(H:Hp)(E:XK),cU k (A.deeper (envOfC qual (ak st) s.heap.objs.size f cdv)) ->
   ∃ t qs,nT (oT CX0 P w K mg base N qual (ak st) f cdv A outer s H E).nox K (aE st) t qs/\∀ ts Q a ks,psp ts Q->ts[j]? = some (.dp a ks)->qs { nx:=fun q=>∃ ks',q[j]? = some (.o (.dp a ks'))/\T.imk ks'=true/\Q (.dp a ks'),rt:=fun _=>False } ((ts.map Sl.r).set j (.o (.dp a ks))++List.replicate (N.length - ts.length) .no)):aH P w K mg base CX0 (k+1) f fd ps (spM K j psp):=by
 have hPN:ps.length<=N.length:=by have:=congrArg List.length S.pre;rw[List.length_take]at this;omega
 refine F.ok S (fun vs H Q E h=>?_) (fun cdv A outer s H vs Q E hr h=>?_)
 ·obtain⟨dl,ts,a,ks,Qp,_,hl,_,_,_,_,h,_⟩:=h;rw[hl];exact len ts Qp h
 ·obtain⟨dl,ts,a,ks,Qp,D,hl,hv,ht,r0,ro,h,fin⟩:=h;obtain⟨t,qs,hb,hq⟩:=jO cdv A outer s H E hr;refine⟨t,hb.h,?_⟩;have hlen:=len ts Qp h;have z:=hq ts Qp a ks h ht;have hj:j<ts.length:=(List.getElem?_eq_some_iff.mp ht).1;have lk:∀(i:Nat)(y:Sl),((ts.map Sl.r).set j (.o (.dp a ks))++List.replicate (N.length - ts.length) Sl.no)[i]? = some y ->(i=j/\y = .o (.dp a ks))\/(i≠j/\∃ t,ts[i]? = some t/\y = .r t)\/(ts.length<=i/\y = .no):=fun i y h=>by
   by_cases hi:i<ts.length
   ·rw[List.getElem?_append_left (by simpa using hi)]at h
    rcases get_set h with⟨e1,e2,_⟩ |⟨e1,e2⟩
    ·exact .inl ⟨e1,e2⟩
    ·rw[List.getElem?_map,List.getElem?_eq_getElem hi]at e2;exact .inr (.inl ⟨e1,ts[i],by simp,(Option.some.inj e2).symm⟩)
   ·rw[List.getElem?_append_right (by simpa using hi),List.getElem?_replicate]at h
    split at h
    ·exact .inr (.inr ⟨by omega,(Option.some.inj h).symm⟩)
    ·cases h
  have vat:∀(i:Nat)(v:V),vs[i]? = some v ->(start N vs)[i]? = some (some v):=fun i v e=>by
   have hi:i<vs.length:=(List.getElem?_eq_some_iff.mp e).1;show(vs.map some++List.replicate (N.length - vs.length) none)[i]? = _;rw[List.getElem?_append_left (by simpa using hi),List.getElem?_map,e]
   rfl
  have R:Rel K dl (nu H a) [] H (start N vs) ((ts.map Sl.r).set j (.o (.dp a ks))++List.replicate (N.length - ts.length) .no) (fun i=>if i=j then [a]else []):=by
   refine⟨D,fun i y t h1 h2=>?_,fun i y h1 h2=>?_,fun i hi=>?_,fun i t h1=>?_,fun p hp=>(by cases hp),⟨fun b o h _ _=>?_,fun b x h=>⟨x,Int.le_refl _,?_⟩⟩,?_⟩
   ·rcases lk i y h1 with⟨rfl,rfl⟩ |⟨ne,u,e,rfl⟩ |⟨_,rfl⟩
    ·cases h2;refine⟨.ref a,vat _ _ hv,?_⟩;rw[if_pos rfl];exact r0
    ·cases h2;obtain⟨v,ev⟩:∃ v,vs[i]? = some v:=⟨vs[i]'(by rw[hl];exact(List.getElem?_eq_some_iff.mp e).1),List.getElem?_eq_getElem _⟩
     refine⟨v,vat _ _ ev,?_⟩;show Rp K dl H v t (if i=j then [a]else [])
     rw[if_neg ne];exact ro i v t ne ev e
    ·cases h2
   ·rcases lk i y h1 with⟨rfl,rfl⟩ |⟨ne,u,e,rfl⟩ |⟨hi,rfl⟩
    ·cases h2
    ·cases h2
    ·exact if_neg (by omega)
   ·refine if_neg ?_;simp at hi;omega
   ·rcases lk i _ h1 with⟨rfl,e⟩ |⟨ne,u,e,z⟩ |⟨_,z⟩
    ·refine⟨by simp,fun b hb=>?_,fun k hk b hb=>?_⟩
     ·simp only[if_pos]at hb;rw[List.mem_singleton.mp hb];exact ja
     ·simp only[if_neg hk];exact List.not_mem_nil
    ·cases z
    ·cases z
   ·by_cases e:b=a
    ·rw[e,ja]at h;cases h
    ·rw[nt e]at h;exact h
   ·by_cases e:b=a
    ·rw[e,ja]at h;cases h
    ·rw[nt e]at h;exact h
   ·show _ =(vs.map some++List.replicate (N.length - vs.length) none).length;simp[hl]
  refine hb.s dl (nu H a) [] H _ _ _ _ ⟨_,R⟩ z ⟨fun H' σ q hr hz=>?_,fun _ _ _ _ hz=>hz.elim,fun _ _ _ _ hz=>hz.elim,fun _ _ _ _ _ _ _ _ _ hz=>hz.elim⟩
  obtain⟨F,r'⟩:=hr;obtain⟨ks',e1,him,hz⟩:=hz;obtain⟨v',_,rp⟩:=r'.g j _ _ e1 rfl;obtain⟨vs',G,rfl,eF,g1,g2⟩:=rp.r.dpp;obtain rfl:=g2.im him;rw[eF]at rp;exact fin ks' H' r'.f r'.d rp hz
section
variable{X:Cx}{K:W.Frag}{dl:Dl}{H₀ H H':Hp}{hs:List (V×T)}{σ:St}{q:Sq}{F:Nat->List Addr}
theorem Rel.Jz{i:Nat}{a:Addr}{t t':T}{v:V}(r:Rel K dl H₀ hs H σ q F)(hi:q[i]? = some (.o t))(hv:σ[i]? = some (some v))(hF:F i = [a])(ha:∃ kvs,H a=some (.dK kvs))(f:Frm dl (nu H a) H')(D:Dls dl H')(hr:Rp K dl H' v t' [a]):ix K dl H₀ hs H' σ (q.set i (.o t')):=by
 obtain⟨kvs,ha⟩:=ha;have ne:∀{b:Addr}{o:HO},H b=some o ->(∀ kv,o ≠ .dK kv)->b≠a:=fun h n e=>by rw[e,ha]at h;exact n _ (Option.some.inj h).symm
 have cut:∀{b:Addr}{o:HO},H b=some o->b≠a->nu H a b=some o:=fun h n=>by rw[nt n];exact h
 have tf:TF H H':=⟨fun b vs h=>f.k b _ (cut h (ne h fun _ z=>nomatch z)) (r.d.nd h (fun _ z=>nomatch z) fun _ z=>nomatch z) (fun _ z=>nomatch z),fun b o u h=>f.k b _ (cut h (ne h fun _ z=>nomatch z)) (r.d.nd h (fun _ z=>nomatch z) fun _ z=>nomatch z) (fun _ z=>nomatch z),
  fun b φ h=>f.k b _ (cut h (ne h fun _ z=>nomatch z)) (r.d.nd h (fun _ z=>nomatch z) fun _ z=>nomatch z) (fun _ z=>nomatch z),fun b xs h=>(by
  by_cases hn:Nd dl b
  ·exact⟨xs,f.k b _ (cut h (ne h fun _ z=>nomatch z)) hn (fun _ z=>nomatch z)⟩
  ·unfold Nd at hn;obtain⟨p,hp,z⟩:∃ p∈dl,¬(b≠p.1/\b≠p.2):=Classical.byContradiction fun c=>hn fun p hp=>Classical.byContradiction fun z=>c ⟨p,hp,z⟩
   obtain⟨s,n,ls,Q⟩:=r.d p hp;obtain⟨s',n',ls',Q'⟩:=D p hp;have h1:b≠p.1:=iS h Q.hd (fun z=>nomatch z)
   have h2:b=p.2:=Classical.byContradiction fun z'=>z ⟨h1,z'⟩
   exact⟨_,by rw[h2];exact Q'.hl⟩),fun b x h=>f.r b x (cut h (ne h fun _ z=>nomatch z))⟩
 have st:∀{w:V}{u:T}{Fw:List Addr},Rp K dl H w u Fw->a ∉ Fw->Rp K dl H' w u Fw:=fun{w u Fw} h np =>
  ⟨h.r.cX tf (fun _ z=>z) fun b hb o e=>f.k b o (cut e fun z=>np (z▸hb)) (h.n b hb) (.of (h.r.there b hb) e),h.n⟩
 obtain⟨o1,o2,o3⟩:=r.o i t hi;have hF':∀ j,(ve F i [a]) j=F j:=fun j=>by
  by_cases e:j=i
  ·subst e;rw[a8,hF]
  ·rw[aR e]
 refine⟨F,D,fun j x u h1 h2=>?_,fun j x h1 h2=>?_,fun j hj=>r.z j (by rw[List.length_set]at hj;exact hj),fun j u h1=>?_,fun p hp=>?_,⟨fun b o h n nr=>?_,fun b x h=>?_⟩,by simp[r.l]⟩
 ·rcases get_set h1 with⟨rfl,rfl,_⟩ |⟨ne',h1⟩
  ·cases h2;exact⟨v,hv,by rw[hF];exact hr⟩
  ·obtain⟨w,h3,h4⟩:=r.g j x u h1 h2;exact⟨w,h3,st h4 (o3 j ne' a (by rw[hF];exact List.mem_cons_self))⟩
 ·rcases get_set h1 with⟨rfl,rfl,_⟩ |⟨ne',h1⟩
  ·cases h2
  ·exact r.n j x h1 h2
 ·rcases get_set h1 with⟨rfl,e,_⟩ |⟨ne',h1⟩
  ·exact⟨o1,o2,o3⟩
  ·exact r.o j u h1
 ·obtain⟨Fp,h1,h2⟩:=r.h p hp;refine⟨Fp,st h1 (h2 i t hi a (by rw[hF];exact List.mem_cons_self)),fun j u hj b hb z=>?_⟩
  rcases get_set hj with⟨rfl,e,_⟩ |⟨ne',hj⟩
  ·exact h2 j t hi b hb z
  ·exact h2 j u hj b hb z
 ·have n0:b≠a:=fun z=>by rw[z,o2 a (by rw[hF];exact List.mem_cons_self)]at h;cases h
  exact f.k b o (cut (r.f.k b o h n nr) n0) n nr
 ·have n0:b≠a:=fun z=>by rw[z,o2 a (by rw[hF];exact List.mem_cons_self)]at h;cases h
  obtain⟨y,hy,e1⟩:=r.f.r b x h;obtain⟨y',hy',e2⟩:=f.r b y (cut e1 n0);exact⟨y',Int.le_trans hy' hy,e2⟩
end
section
variable{X:Cx}{K:W.Frag}{e a b o:Expr}{es:List Expr}{te tk tv:TE}{tl:TA}{qe qk qv:QE}{ql:QA}{pos pos' p:Pos}{x:Str}{k:Nat}{f:Addr}{fd:FuncData}{prs:List Str}{ps:PSp}{i j:Nat}
structure BX(X:Cx)(K:W.Frag)(es:List Expr)(tl:TA)(i j:Nat)(ql:QA):Prop where
 h:PA X es tl
 s:∀(dl:Dl)(H:Hp)(σ:St)(q:Sq)(v0:V)(Q:List T->Prop)(R:List V->Hp->Prop),RdR K dl H σ q->σ[i]? = some (some v0)->ql q Q ->
  (∀ vs ts H',Evo dl H H'->vs.length=ts.length->vs[j]? = some v0 ->(∀ n v t,n≠j->vs[n]? = some v->ts[n]? = some t->Rp K dl H' v t [])->Q ts->R vs H')->tl σ H R
theorem av.im1{dl:Dl}{H:Hp}{vs:List V}{ts:List T}{F:List Addr}(h:av K dl H vs ts F)(him:T.ims ts=true):∀(n:Nat)(v:V)(t:T),vs[n]? = some v->ts[n]? = some t->aC K dl H v t []:=by
 obtain rfl:=h.im him;intro n v t h1 h2;obtain⟨v',G,e1,r,s⟩:=h.Hg h2;rw[h1]at e1;cases e1;rw[List.sublist_nil.mp s]at r;exact r
theorem dq(hx:PE X e (bS i))(hr:QPA X K es tl ql)(hs:starEach (e::es) X.env =(false,eval e X.env)::starEach es X.env:=by rfl):BX X K (e::es) (fA (bS i) tl) i 0 (fun q Q=>ql q fun ts=>T.ims ts=true/\Q (.n::ts)) :=
 ⟨ck hx hr.h hs,fun dl H σ q v0 Q R rd hv hq k=>⟨v0,hv,hr.s dl H σ q _ _ rd hq fun vs ts F H1 e1 r1 l1 hz=>k _ (.n::ts) H1 e1 (by simp[r1.r.len]) rfl (fun n v t ne h1 h2=>by
  cases n with
  | zero=>exact absurd rfl ne
  | succ n=>exact⟨r1.r.im1 hz.1 n v t (by simpa using h1) (by simpa using h2),fun _ z=>nomatch z⟩) hz.2⟩⟩
theorem iG(he:QPE X K e te qe)(hr:BX X K es tl i j ql)(hs:starEach (e::es) X.env =(false,eval e X.env)::starEach es X.env:=by rfl):BX X K (e::es) (fA te tl) i (j+1) (fun q Q=>qe q fun t=>t.im=true/\ql q fun ts=>Q (t::ts)) :=
 ⟨ck he.h hr.h hs,fun dl H σ q v0 Q R rd hv hq k=>he.s dl H σ q _ _ rd hq fun v t F H1 e1 r1 hz=>hr.s dl H1 σ q v0 _ _ (rd.evo e1) hv hz.2 fun vs ts H2 e2 l2 hj ho z=>by
  have r2:=r1.evo e1.d e2;obtain rfl:=r1.r.im hz.1;exact k (v::vs) (t::ts) H2 (e1.trans e2) (by simp[l2]) (by simpa using hj) (fun n w u ne h1 h2=>by
   cases n with
   | zero=>simp at h1 h2;subst h1 h2;exact r2
   | succ n=>exact ho n w u (fun z=>ne (by rw[z])) (by simpa using h1) (by simpa using h2)) z⟩
def Af(i j:Nat)(ps:PSp)(ql:QA):QS:=fun D q=>match q[i]? with
 | some (.o (.d ks))=>T.imk ks=true/\∀ a,ql q fun ts=>ps (ts.set j (.dp a ks)) fun t=>match t with
  | .dp _ ks'=>D.nx (q.set i (.o (.d ks')))
  | _=>False
 | some (.o (.dp a ks))=>T.imk ks=true/\ql q fun ts=>ps (ts.set j (.dp a ks)) fun t=>match t with
  | .dp _ ks'=>D.nx (q.set i (.o (.dp a ks')))
  | _=>False
 | _=>False
def Ad(i:Nat)(qk qv:QE):QS:=fun D q=>match q[i]? with
 | some (.o (.dp a xs))=>qv q fun t=>qk q fun u=>match u.key with
  | some k=>xs.length<sizeLine/\T.imk xs=true/\t.im=true/\D.nx (q.set i (.o (.dp a (lE xs k t))))
  | none=>False
 | _=>False
theorem Rel.CC{dl:Dl}{H₀ H H':Hp}{hs:List (V×T)}{σ:St}{q:Sq}{F:Nat->List Addr}{i:Nat}{p:Addr}{ws:List (Key×V)}{xs ys:List (Key×T)}(r:Rel K dl H₀ hs H σ q F)(hi:q[i]? = some (.o (.dp p xs)))(hv:σ[i]? = some (some (.ref p)))(e:Evo dl H H')
  (rs:aK K dl H' ws ys []):ix K dl H₀ hs (upd H' p (.dK ws)) σ (q.set i (.o (.dp p ys))):=by
 have r':=r.evo e;obtain⟨v',hv',rp⟩:=r'.g i _ _ hi rfl;rw[hv]at hv';cases hv';obtain⟨vs2,G2,e2,eF,h1,h2⟩:=rp.r.dpp;have pn:Nd dl p:=rp.n p (by rw[eF];exact List.mem_cons_self)
 have rs2:aK K dl (upd H' p (.dK ws)) ws ys []:=rs.cX (TF.dict h1) (fun _ z=>z) fun _ z=>nomatch z
 exact⟨_,r'.write (t':=.dp p ys) (F':=[p]) hi hv (by rw[eF];exact List.mem_cons_self) (fun xs' h=>by rw[h1]at h;cases h) ⟨.dp au rs2,fun b hb=>by rw[List.mem_singleton.mp hb];exact pn⟩ (by simp) fun b hb=>by rw[List.mem_singleton.mp hb,eF];exact .inl List.mem_cons_self⟩
theorem zz{i:Nat}(hk:iP K tk qk)(hv:iP K tv qv):ke K (zL (bS i) tk tv) (Ad i qk qv):=fun dl H₀ hs H σ q Dq D ⟨F,r⟩ hq E=>by
 unfold Ad at hq
 split at hq
 ·rename_i p xs ei;refine hv dl H σ q _ _ r.rd hq fun w t F1 H1 e1 r1 hq=>?_
  obtain⟨v,hv',rp⟩:=(r.evo e1).g i _ _ ei rfl;refine⟨v,hv',hk dl H1 σ q _ _ (r.rd.evo e1) hq fun y u F2 H2 e2 r2 hq=>?_⟩
  split at hq
  ·rename_i k ek;obtain⟨hz,hm,ht,hq⟩:=hq;obtain rfl:=r1.r.im ht;have rp2:=rp.evo e1.d e2;obtain⟨vs,G,rfl,eF,h1,h2⟩:=rp2.r.dpp;obtain rfl:=h2.im hm;rw[r2.r.key ek];exact⟨p,_,rfl,tu.k h1 (by rw[h2.len];exact hz),E.nx _ _ _ (r.CC ei hv' (e1.trans e2) (aK.put (r1.evo e1.d e2).r h2)) hq⟩
  ·exact hq.elim
 ·exact hq.elim
theorem CJ{i:Nat}{pos':Pos}(hu:X.A.units+1<cLine)(ho:PE X o (bS i))(hk:QPE X K a tk qk)(hv:QPE X K b tv qv)(hs:swapsWith b (some (.Subscript o a pos')) pos.line X.env=pure false:=by rfl) :
  QPS X K (.Assign [.Subscript o a pos'] b pos) (zL (bS i) tk tv) (Ad i qk qv):=⟨ma hu ho hk.h hv.h hs,zz hk.s hv.s⟩
theorem zA(ha:BX X K es tl i j ql):ke K (js (pz (spM K j ps) [] E0 tl)) (Af i j ps ql):=fun dl H₀ hs H σ q Dq D ⟨F,r⟩ hq E=>by
 have go:∀{a:Addr}{ks:List (Key×T)}{t:T}(W:T->Prop)(t1:List (Key×T)->T),q[i]? = some (.o t)->σ[i]? = some (some (.ref a)) ->(∀{H:Hp}{G:List Addr},aC K dl H (.ref a) t G->aC K dl H (.ref a) (.dp a ks) G)->F i = [a] ->(∀{H:Hp}{ks':List (Key×T)},aC K dl H (.ref a) (.dp a ks') [a]->aC K dl H (.ref a) (t1 ks') [a]) ->
   (∀ ks',W (.dp a ks')->Dq.nx (q.set i (.o (t1 ks')))) ->(ql q fun ts=>ps (ts.set j (.dp a ks)) W)->js (pz (spM K j ps) [] E0 tl) D σ H:=by
  intro a ks t W t1 hi hv tr hF ba hW hq;refine ha.s dl H σ q (.ref a) _ _ r.rd hv hq fun vs ts H1 e1 l1 hj ho hz=>?_
  have r1:=r.evo e1;obtain⟨v',hv',rp⟩:=r1.g i _ _ hi rfl;rw[hv]at hv';cases hv';rw[hF]at rp;show spM K j ps (vs ++ []) H1 _ _;rw[List.append_nil];have hjl:j<ts.length:=by rw[<- l1];exact(List.getElem?_eq_some_iff.mp hj).1
  obtain⟨kvs,G,_,_,g1,_⟩:=(tr rp.r).dpp;refine⟨dl,ts.set j (.dp a ks),a,ks,W,r1.d,by simp[l1],hj,List.getElem?_set_self hjl,⟨tr rp.r,rp.n⟩,fun n v u ne h1 h2=>ho n v u ne h1 (by rwa [List.getElem?_set_ne (fun z=>ne z.symm)]at h2),hz,fun ks' H' f D' r' hw=>?_⟩
  exact E.nx _ _ _ (r1.Jz hi hv hF ⟨_,g1⟩ f D' ⟨ba r'.r,r'.n⟩) (hW ks' hw)
 unfold Af at hq
 split at hq
 ·rename_i ks ei;obtain⟨v,hv,rp⟩:=r.g i _ _ ei rfl;obtain⟨a,vs,G,rfl,eF,h1,h2⟩:=rp.r.dic;obtain rfl:=h2.im hq.1;refine go (a:=a) (ks:=ks) _ (fun ks'=>.d ks') ei hv (fun{H G} z=>?_) eF (fun{H ks'} z=>?_) (fun ks' z=>z) (hq.2 a)
  ·obtain⟨a',vs',G',e1,rfl,h3,h4⟩:=z.dic;cases e1;exact .dp h3 h4
  ·obtain⟨vs',G',e1,e2,h3,h4⟩:=z.dpp;rw[e2];exact .d h3 h4
 ·rename_i a ks ei;obtain⟨v,hv,rp⟩:=r.g i _ _ ei rfl;obtain⟨vs,G,rfl,eF,h1,h2⟩:=rp.r.dpp;obtain rfl:=h2.im hq.1;exact go (a:=a) (ks:=ks) _ (fun ks'=>.dp a ks') ei hv (fun z=>z) eF (fun z=>z) (fun ks' z=>z) hq.2
 ·exact hq.elim
theorem dn(F:aH X.prog X.w X.K X.mg X.base CX0 k f fd prs (spM K j ps))(hr:cU k X.A)(hg:Gl X x)(hm:X.mg x=some (.ref f))(hk:W.keepIn X.K (.ref f)=true)(hb:Binds X.K fd prs [])(ha:BX X K (e::es) tl i j ql)
  (hdb:(x ==("__debug__":Str))=false:=by decide) (he:starEach (e::es) X.env =(false,eval e X.env)::starEach es X.env:=by rfl) (hpl:(backTo pos (starEach es X.env)).any (·.1)=false:=by rfl) (hs:swapsWith (.Call (.Name x p) (e::es) [] pos) none pos'.line X.env=pure false:=by rfl) :
  QPS X K (.Expr (.Call (.Name x p) (e::es) [] pos) pos') (js (pz (spM K j ps) [] E0 tl)) (Af i j ps ql):=⟨l9 (rf F hr hg hm hk hb .nil xw ha.h hdb he hpl) hs,zA ha⟩
end
def T.dof:T->Option (List (Key×T))
 | .d ks=>some ks
 | .fd _ _ ks=>some ks
 | .dp _ ks=>some ks
 | _=>none
section
variable{X:Cx}{K:W.Frag}{dl:Dl}{H:Hp}{v:V}{F:List Addr}{a b c e:Expr}{ta tb tk tx te:TE}{qa qb qk qx qe:QE}{pos apos bc:Pos}
theorem aC.dof{t:T}{ks:List (Key×T)}(h:aC K dl H v t F)(e:t.dof=some ks):∃ a vs G,v = .ref a/\Rd H a (.dK vs)/\aK K dl H vs ks G/\∀ b∈G,b∈F:=by
 cases t with
 | d ks' =>
  cases e;obtain⟨a,vs,G,rfl,rfl,h1,h2⟩:=h.dic;exact⟨a,vs,G,rfl,.inl h1,h2,fun _ hb=>List.mem_cons_of_mem _ hb⟩
 | fd o vs ks' =>
  cases e;obtain⟨a,rfl,rfl,h1,h2⟩:=h.JX;exact⟨a,vs,[],rfl,.inr ⟨_,h1⟩,h2,fun _ hb=>hb⟩
 | dp a ks' =>
  cases e;obtain⟨vs,G,rfl,rfl,h1,h2⟩:=h.dpp;exact⟨a,vs,G,rfl,.inl h1,h2,fun _ hb=>List.mem_cons_of_mem _ hb⟩
 | _=>cases e
theorem fI.rd{a:Addr}{kvs:List (Key×V)}{k:Key}(e:Rd H a (.dK kvs)):fI H a (kV k) (dC kvs k):=.inl ⟨kvs,k,e,rfl,rfl⟩
def Fc(neg:Bool):Q2:=fun t u Q=>match u.dof with
 | some ks=>match t.key with
  | some k=>Q (.b (if neg then !(bL ks k).isSome else(bL ks k).isSome))
  | none=>False
 | none=>False
theorem tN{neg:Bool}:cy K (FW neg) (Fc neg):=by
 intro dl H x y t u F G Q R D r1 r2 hq k;unfold Fc at hq
 split at hq
 ·rename_i ks eks
  split at hq
  ·rename_i k0 ek;obtain⟨p,vs,G,rfl,h1,h2,_⟩:=r2.r.dof eks;rw[r1.r.key ek];refine⟨p,_,rfl,fI.rd h1,k _ _ [] H (.refl D) (.c (.b _)) (fun _ z=>nomatch z) List.nodup_nil ?_⟩
   have e:(dC vs k0).isSome =(bL ks k0).isSome:=by
    rcases h2.look k0 with⟨z1,z2⟩ |⟨_,_,_,z1,z2,_⟩
    ·rw[z1,z2];rfl
    ·rw[z1,z2];rfl
   rw[e];exact hq
  ·exact hq.elim
 ·exact hq.elim
def Ag:Q2:=fun t u Q=>match t.dof with
 | some ks=>match u.key with
  | some k=>∃ x,bL ks k=some x/\Q x
  | none=>False
 | none=>False
def zW:R2:=fun x y H Q=>∃ a kvs k v,x = .ref a/\y=kV k/\Rd H a (.dK kvs)/\dC kvs k=some v/\Q v H
theorem Bc:IxR X zW:=by
 intro value slice pins s σ H x y v u Q I rx ry h hs;obtain⟨a,kvs,k,w,rfl,rfl,ha,hv,q⟩:=h;cases rx;obtain⟨z,hd,vs,rel,dd⟩:=iW I.hok ha;obtain⟨w',hw,rw'⟩:=iy.some_of (v:=w) (o:=valueAt vs k) (by rw[<- hv];exact rel.val k)
 exact subscriptTail_builtinR (x:=w') dd.typeIs PySem.F.slot_dict_getitem.lookup (wpAny_getItem_of (Q:=fun r s'=>r=w'/\EP X pins σ Q r s') (jN ry) dd.mapOf hw ⟨rfl,w,H,I.tok _,rw',q⟩) hs
theorem zB:BW K zW Ag:=by
 intro dl H x y t u F G Q R D r1 r2 hq k;unfold Ag at hq
 split at hq
 ·rename_i ks eks
  split at hq
  ·rename_i k0 ek;obtain⟨z,hz,hq⟩:=hq;obtain⟨p,vs,G,rfl,h1,h2,sub⟩:=r1.r.dof eks;rw[r2.r.key ek];rcases h2.look k0 with⟨z1,z2⟩ |⟨t',v,G',z1,z2,z3,z4⟩
   ·rw[z1]at hz;cases hz
   ·rw[z1]at hz;cases hz;exact⟨p,vs,k0,v,rfl,rfl,h1,z2,k v _ G' H (.refl D) (Rp.sub z3 r1.n fun b hb=>sub b (z4 b hb)) hq⟩
  ·exact hq.elim
 ·exact hq.elim
theorem fR(ha:QPE X K a ta qa)(hb:QPE X K b tb qb)(hs:kf b:=by intro _ _;rfl):QPE X K (.Subscript a b pos) (tOp zW ta tb) (qOp Ag qa qb):=⟨ub Bc ha.h hb.h hs,qE zB ha.s hb.s⟩
def HY(qd qk qx:QE):QE:=fun q Q=>qd q fun d=>match d.dof with
 | some ks=>qk q fun u=>match u.key with
  | some k=>qx q fun x=>Q ((bL ks k).getD x)
  | none=>False
 | none=>False
theorem CP{d f:Expr}{td:TE}{qd:QE}(hu:X.A.units+1<cLine)(hd:QPE X K d td qd)(hk:QPE X K e tk qk)(hx:QPE X K f tx qx)(m:M2 X d "get" apos e f bc:=by exact⟨rfl,rfl,rfl,rfl⟩):QPE X K (.Call (.Attribute d "get" apos) [e,f] [] bc) (zj td tk tx) (HY qd qk qx) :=
 ⟨Ay hu hd.h hk.h hx.h m,fun dl H σ q Q R rd hq k=>hd.s dl H σ q _ _ rd hq fun v t F H1 e1 r1 hq=>by
  split at hq
  ·rename_i ks eks;obtain⟨p,vs,G,rfl,h1,h2,sub⟩:=r1.r.dof eks;refine⟨p,rfl,.inl ⟨vs,h1⟩,hk.s dl H1 σ q _ _ (rd.evo e1) hq fun y u F2 H2 e2 r2 hq=>?_⟩
   split at hq
   ·rename_i k0 ek;refine hx.s dl H2 σ q _ _ ((rd.evo e1).evo e2) hq fun z w F3 H3 e3 r3 hq=>?_
    have rp:=(r1.evo e1.d e2).evo e2.d e3;obtain⟨p',vs',G',e',h1',h2',HD⟩:=rp.r.dof eks;cases e';rw[r2.r.key ek];refine⟨_,fI.rd h1',?_⟩;rcases h2'.look k0 with⟨z1,z2⟩ |⟨t,v,G2,z1,z2,z3,z4⟩
    ·rw[z2];rw[z1]at hq;exact k _ _ F3 H3 ((e1.trans e2).trans e3) r3 hq
    ·rw[z2];rw[z1]at hq;exact k _ _ G2 H3 ((e1.trans e2).trans e3) (Rp.sub z3 rp.n fun b hb=>HD b (z4 b hb)) hq
   ·exact hq.elim
  ·exact hq.elim⟩
def pE:List V->Hp->VK->Prop:=fun xs H Q=>∃(p:Addr)(kvs:List (Key×V)),xs = [.ref p]/\Rd H p (.dK kvs)/\∀ d,H d=none->Q (.ref d) (upd H d (.dK kvs))
theorem nO:cW X (.type "dict") pE:=by
 intro pins s σ H xs us Q I r h;obtain⟨p,kvs,rfl,hp,q⟩:=h;obtain⟨u,rfl,ru⟩:=vals1 r;cases ru;obtain⟨z,hsm,vs,kv,dd⟩:=iW I.hok hp;refine callType_codes (Q₁:=fun obj s₁=>obj = .ref s.heap.objs.size/\s₁ ={ s with heap:=s.heap.push { cls:=.type "dict",data:=.dict #[] } }) F.kt_called_dict (F.kt_typeCall_dict_1 _) F.entry_dict_init (kt_code_dict_new _ ⟨rfl,rfl⟩) ?_
 rintro obj s₁ ⟨rfl,rfl⟩
 have v7:(s.heap.push { cls:=.type "dict",data:=.dict #[] }).DictOf (a6 X.prog X.w) s.heap.objs.size []:=Heap.DictOf.new s.heap;have hlt:p<s.heap.objs.size:=by
  obtain⟨o,_,_,e,_⟩:=dd;exact Heap.lt_size e
 have dd':(s.heap.push { cls:=.type "dict",data:=.dict #[] }).DictOf (a6 X.prog X.w) p vs:=by
  obtain⟨o,es,ep,e,r⟩:=dd;exact⟨o,es,ep,Heap.get?_push_of_some _ e,r⟩
 have nod:(vs.map (·.1)).Nodup:=by
  obtain⟨o,es,ep,_,_,_,_,_,n⟩:=dd;exact n
 have hkl:kvs.length=vs.length:=Paired.length kv;refine⟨v7.typeIs,F.args_dict_init_2 _ _,?_⟩;unfold Builtin.«dict.__init__»;refine wpAny_bind ?_;unfold Builtin.Dict.selfAndRest;refine wpAny_bind (wpAny_notOrdered_dict v7.typeIs ?_);show wpAny _ _ (pure (s.heap.objs.size,[Value.ref p])) _ _ _;refine wpAny_pure ?_;show wpAny _ _ (Builtin.Dict.updateFrom "dict.__init__" s.heap.objs.size (.ref p) [] .none) _ _ _;unfold Builtin.Dict.updateFrom;refine wpAny_bind (wpAny_typeOf dd'.typeIs ?_);rw[if_neg (by decide)]
 refine wpAny_bind ?_;unfold Builtin.Dict.merge;refine wpAny_bind ?_;unfold Builtin.Dict.readDirectly;refine wpAny_bind (wpAny_isInstance dd'.typeIs isSubtype_dict_dict ?_);simp only[Bool.not_true,Bool.false_eq_true,if_false];refine wpAny_bind (wpAny_specialOf dd'.typeIs F.slot_dict_iter.lookup (wpAny_pure ?_));simp only[beq_self_eq_true,if_true];refine wpAny_bind (wpAny_pure ?_);refine wpAny_mergeDict (hsz:=by simp only[List.length_nil];omega) (Nat.ne_of_gt hlt) hsm v7 dd' fun h' hd' ho' hs'=>?_
 show wpAny _ _ (Builtin.Dict.addKeywords _ [] >>= _) _ _ _;rw[merged_nil_of_nodup _ nod]at hd';refine wpAny_bind (wpAny_pure (wpAny_pure ⟨rfl,.ref s.heap.objs.size,_,I.laid (h':=h') (a:=s.heap.objs.size) (o:=.dK kvs) (fun b u e=>?_) (Nat.le_refl _) (so z ?_ kv hd'),rfl,q _ (I.hok.fresh (Nat.le_refl _))⟩))
 ·rw[hs'.2 b (Nat.ne_of_lt (Heap.lt_size e))];exact Heap.get?_push_of_some _ e
 ·have:=I.big
  exact beq_eq_false_iff_ne.mpr (Nat.ne_of_gt this)
def pF:QC:=fun ts Q=>match ts with
 | [t]=>match t.dof with
  | some ks=>T.imk ks=true/\Q (.d ks)
  | none=>False
 | _=>False
theorem qG:tj K pE pF:=by
 intro dl H vs ts F Q R D r hq k;unfold pF at hq
 split at hq
 ·split at hq
  ·rename_i ks eks;obtain⟨v,rfl,r1⟩:=r.one;obtain⟨p,kvs,G,rfl,h1,h2,sub⟩:=r1.r.dof eks;obtain rfl:=h2.im hq.1;refine⟨p,kvs,rfl,h1,fun d hd=>?_⟩
   have ev:Evo dl H (upd H d (.dK kvs)):=(Evo.refl D).new hd;exact k _ _ [d] _ ev ⟨.d au (h2.cX (ev.tf D) (fun _ z=>z) fun _ z=>nomatch z),fun b hb=>by rw[List.mem_singleton.mp hb];exact D.nd0 hd⟩ (fun b hb=>by rw[List.mem_singleton.mp hb];exact hd) (by simp) hq.2
  ·exact hq.elim
 ·exact hq.elim
def E2(te:TE):TE:=fun σ H Q=>te σ H fun v H1=>∃ a kvs,v = .ref a/\H1 a=some (.dK kvs)/\∀ o,Q v (upd H1 a (.frz o (.dK kvs)))
theorem C8(he:PE X e te):PE X e (E2 te):=by
 intro pins s σ H Q I h;refine thn (he pins s σ H _ I h) fun u s' hPP=>?_
 obtain⟨v,H',I',r,a,kvs,e1,e2,q⟩:=hPP;obtain⟨_,o,I2⟩:=I'.freeze e2;exact⟨v,_,I2,r,q o⟩
def HZ(qe:QE):QE:=fun q Q=>qe q fun t=>match t with
 | .d ks=>T.imk ks=true/\∀ o vs,Q (.fd o vs ks)
 | _=>False
theorem TF.IU{H:Hp}{p:Addr}{kv:List (Key×V)}{o:Obj}{u:HO}(hp:H p=some (.dK kv)):TF H (upd H p (.frz o u)) :=
 have ne:∀{a:Addr}{o:HO},H a=some o ->(∀ kv,o ≠ .dK kv)->a≠p:=fun h n e=>by rw[e,hp]at h;exact n _ (Option.some.inj h).symm
 ⟨fun a vs h=>by rw[aj (ne h fun _ z=>nomatch z)];exact h,fun a o u h=>by rw[aj (ne h fun _ z=>nomatch z)];exact h,fun a φ h=>by rw[aj (ne h fun _ z=>nomatch z)];exact h,fun a xs h=>⟨xs,by rw[aj (ne h fun _ z=>nomatch z)];exact h⟩,fun a x h=>⟨x,Int.le_refl _,by rw[aj (ne h fun _ z=>nomatch z)];exact h⟩⟩
theorem xi(he:QPF X K e te qe):QPF X K e (E2 te) (HZ qe):=⟨C8 he.h,fun dl H σ q Q R rd hq k=>he.s dl H σ q _ _ rd hq fun v t F H1 e1 r1 f1 n1 hz=>by
 split at hz
 ·rename_i ks;obtain⟨p,vs,G,rfl,rfl,h1,h2⟩:=r1.r.dic;obtain rfl:=h2.im hz.1;exact⟨p,vs,rfl,h1,fun o=>k _ (.fd o vs ks) [] _ (e1.fresh (f1 p List.mem_cons_self) (r1.n p List.mem_cons_self)) ⟨.fd au (h2.cX (TF.IU h1) (fun _ z=>z) fun _ z=>nomatch z),fun _ z=>nomatch z⟩ (fun _ z=>nomatch z) List.nodup_nil (hz.2 o vs)⟩
 ·exact hz.elim⟩
end
section
variable{X:Cx}{K:W.Frag}{st:Stmt}{t:TS}{qt:QS}
def zh(i:Nat)(t:TS):TS:=fun D σ H=>∃ a kvs,σ[i]? = some (some (.ref a))/\H a=some (.dK kvs)/\∀ o,t D σ (upd H a (.frz o (.dK kvs)))
theorem Gh{i:Nat}(h:PS X st t):PS X st (zh i t):=by
 intro pins s σ H D I z;obtain⟨a,kvs,_,ha,k⟩:=z;obtain⟨_,o,I1⟩:=I.freeze ha;exact h pins s σ _ D I1 (k o)
def Ah(i:Nat)(qt:QS):QS:=fun D q=>match q[i]? with
 | some (.o (.d ks))=>T.imk ks=true/\∀ o vs,qt D (q.set i (.o (.fd o vs ks)))
 | _=>False
theorem zE{i:Nat}(h:ke K t qt):ke K (zh i t) (Ah i qt):=fun dl H₀ hs H σ q Dq D ⟨F,r⟩ hq E=>by
 unfold Ah at hq
 split at hq
 ·rename_i ks ei;obtain⟨v,hv,rp⟩:=r.g i _ _ ei rfl;obtain⟨a,vs,G,rfl,eF,h1,h2⟩:=rp.r.dic;obtain rfl:=h2.im hq.1;refine⟨a,vs,hv,h1,fun o=>h dl H₀ hs _ σ _ Dq D ⟨ve F i [],?_⟩ (hq.2 o vs) E⟩
  have tf:=TF.IU (o:=o) (u:=.dK vs) h1;have na:Nd dl a:=rp.n a (by rw[eF];exact List.mem_cons_self)
  obtain⟨o1,o2,o3⟩:=r.o i _ ei;have st:∀{w:V}{u:T}{Fw:List Addr},Rp K dl H w u Fw->a ∉ Fw->Rp K dl (upd H a (.frz o (.dK vs))) w u Fw:=fun{w u Fw} h np =>
   ⟨h.r.cX tf (fun _ z=>z) fun b hb ob e=>(by
    have n0:b≠a:=fun z=>np (by rw[<- z];exact hb)
    rw[aj n0];exact e),h.n⟩
  refine⟨fun d hd=>(r.d d hd).oth (na d hd).1 (na d hd).2,fun j x u h3 h4=>?_,fun j x h3 h4=>?_,fun j hj=>?_,fun j u h3=>?_,fun p hp=>?_,⟨fun b ob hb nb nr=>?_,fun b x hb=>?_⟩,by simp[r.l]⟩
  ·rcases get_set h3 with⟨rfl,rfl,_⟩ |⟨ne,h3⟩
   ·cases h4;exact⟨_,hv,by rw[a8];exact⟨.fd au (h2.cX tf (fun _ z=>z) fun _ z=>nomatch z),fun _ z=>nomatch z⟩⟩
   ·obtain⟨w,h5,h6⟩:=r.g j x u h3 h4;exact⟨w,h5,by rw[aR ne];exact st h6 (o3 j ne a (by rw[eF];exact List.mem_cons_self))⟩
  ·rcases get_set h3 with⟨rfl,rfl,_⟩ |⟨ne,h3⟩
   ·cases h4
   ·rw[aR ne];exact r.n j x h3 h4
  ·rw[List.length_set]at hj;by_cases e:j=i
   ·rw[e,a8]
   ·rw[aR e];exact r.z j hj
  ·rcases get_set h3 with⟨rfl,e,_⟩ |⟨ne,h3⟩
   ·rw[a8];exact⟨List.nodup_nil,fun _ z=>absurd z List.not_mem_nil,fun _ _ _ z=>absurd z List.not_mem_nil⟩
   ·rw[aR ne];obtain⟨p1,p2,p3⟩:=r.o j u h3;refine⟨p1,p2,fun k hk b hb=>?_⟩
    by_cases ek:k=i
    ·rw[ek,a8];exact List.not_mem_nil
    ·rw[aR ek];exact p3 k hk b hb
  ·obtain⟨Fp,h3,h4⟩:=r.h p hp;refine⟨Fp,st h3 (h4 i _ ei a (by rw[eF];exact List.mem_cons_self)),fun j u hj b hb z=>?_⟩
   rcases get_set hj with⟨rfl,e,_⟩ |⟨ne,hj⟩
   ·rw[a8]at hb;cases hb
   ·rw[aR ne]at hb;exact h4 j u hj b hb z
  ·have n0:b≠a:=fun z=>by rw[z,o2 a (by rw[eF];exact List.mem_cons_self)]at hb;cases hb
   rw[aj n0];exact r.f.k b ob hb nb nr
  ·have n0:b≠a:=fun z=>by rw[z,o2 a (by rw[eF];exact List.mem_cons_self)]at hb;cases hb
   rw[aj n0];exact r.f.r b x hb
 ·exact hq.elim
theorem vh{i:Nat}(h:QPS X K st t qt):QPS X K st (zh i t) (Ah i qt):=⟨Gh h.h,zE h.s⟩
end
section
variable{X:Cx}{pins:List (Addr×Obj)}{σ:St}{H:Hp}{s:Shared}{a d:Addr}{u1 u2 v1 v2:HO}{C:Addr}{fs:List (Str×V)}
theorem Inv.zO(I:Inv X pins σ H s)(ne:d≠a)(ha:H a=some v1)(hd:H d=some v2)(t1:∀ xs,v1 ≠ .tup xs)(t2:∀ xs,v2 ≠ .tup xs)(b1:∀ ps,v1 ≠ .tbl ps)(b2:∀ ps,v2 ≠ .tbl ps)(z1:∀ o v,v1 ≠ .frz o v)(z2:∀ o v,v2 ≠ .frz o v)(w1:∀ c,v1 ≠ .own c)(w2:∀ c,v2 = .own c->c=a)
  (Jx:bt X.prog X.w (upd (upd H a u1) d u2) s.heap a u1) (Jw:bt X.prog X.w (upd (upd H a u1) d u2) s.heap d u2):Inv X pins σ (upd (upd H a u1) d u2) s:=by
 have nea:∀{b:Addr}{o:HO},H b=some o->o≠v1->b≠a:=fun e n z=>by rw[z,ha]at e;exact n (Option.some.inj e).symm
 have ned:∀{b:Addr}{o:HO},H b=some o->o≠v2->b≠d:=fun e n z=>by rw[z,hd]at e;exact n (Option.some.inj e).symm
 have n0:∀{b:Addr},H b=none->b≠a/\b≠d:=fun{b} e=>⟨fun z=>(by rw[z,ha]at e;cases e),fun z=>(by rw[z,hd]at e;cases e)⟩
 have st:∀{b:Addr},b≠a->b≠d->upd (upd H a u1) d u2 b=H b:=fun h1 h2=>by rw[aj h2,aj h1]
 refine⟨I.ok,I.os,I.bare,⟨I.base.keep,I.base.slot,fun b o e n hx=>?_,I.base.there,fun b xs e=>?_,fun b o v e=>?_,fun b ps e=>?_⟩,I.loc,I.cell,?_,fun x c e=>?_,fun p hp=>?_,fun b o e=>?_,I.len⟩
 ·have:=I.base.free b o e n hx
  rw[st (n0 this).1 (n0 this).2];exact this
 ·have:=I.base.mv b xs e
  rw[st (nea this fun z=>t1 _ z.symm) (ned this fun z=>t2 _ z.symm)]
  exact this
 ·have:=I.base.jQ b o v e
  rw[st (nea this fun z=>z1 _ _ z.symm) (ned this fun z=>z2 _ _ z.symm)]
  exact this
 ·obtain⟨more,this⟩:=I.base.mw b ps e;refine⟨more,?_⟩;rw[st (nea this fun z=>b1 _ z.symm) (ned this fun z=>b2 _ z.symm)]
  exact this
 ·rw[st (n0 I.free).1 (n0 I.free).2];exact I.free
 ·rw[st (n0 (I.eh x c e)).1 (n0 (I.eh x c e)).2];exact I.eh x c e
 ·obtain⟨p1,p2,p3⟩:=I.pin p hp;exact⟨p1,by rw[st (n0 p2).1 (n0 p2).2];exact p2,p3⟩
 ·by_cases hbd:b=d
  ·subst hbd;rw[au]at e;cases e;exact Jw
  ·by_cases hba:b=a
   ·subst hba;rw[aj hbd,au]at e;cases e;exact Jx
   ·rw[st hba hbd]at e;refine(I.hok b o e).cX (fun _ _ _ q=>q) (fun c q=>?_) fun c xs q=>?_
    ·rw[st (nea q fun z=>w1 _ z.symm) (fun z=>by rw[z,hd]at q;exact hba (w2 b (Option.some.inj q)))];exact q
    ·rw[st (nea q fun z=>t1 _ z.symm) (ned q fun z=>t2 _ z.symm)];exact q
theorem Inv.Ht(I:Inv X pins σ H s)(ha:H a=some (.ins C d fs)):d≠a/\fs.length<=1000/\H d=some (.own a)/\Inv X pins σ (upd (upd H a (.ext (pe a C d))) d (.ext (XD d fs))) s:=by
 obtain⟨hd,hl,ne,e,mA,n,r,w⟩:=(show bt X.prog X.w H s.heap a (.ins C d fs)from I.hok a _ ha);exact⟨ne,hl,hd,I.zO ne ha hd (fun _ z=>nomatch z) (fun _ z=>nomatch z) (fun _ z=>nomatch z) (fun _ z=>nomatch z) (fun _ _ z=>nomatch z) (fun _ _ z=>nomatch z) (fun _ z=>nomatch z) (fun c z=>by cases z;rfl)
  ⟨e,⟨_,e⟩,fun h1 h2 p k=>k _ p⟩ (XD.ok ⟨mA,n,r,w⟩)⟩
theorem Inv.Js(I:Inv X pins σ H s)(ne:d≠a)(hl:fs.length<=1000)(ha:H a=some (.ext (pe a C d)))(hd:H d=some (.ext (XD d fs))):Inv X pins σ (upd (upd H a (.ins C d fs)) d (.own a)) s:=by
 have e:pe a C d s.heap:=(I.hok a _ ha).1;obtain⟨mA,n,r,w⟩:XD d fs s.heap:=(I.hok d _ hd).1;refine I.zO ne ha hd (fun _ z=>nomatch z) (fun _ z=>nomatch z) (fun _ z=>nomatch z) (fun _ z=>nomatch z) (fun _ _ z=>nomatch z) (fun _ _ z=>nomatch z) (fun _ z=>nomatch z) (fun c z=>nomatch z) ⟨au,hl,ne,e,mA,n,r,w⟩ ?_
 obtain⟨o,_,_,e',_⟩:=n;exact⟨o,e'⟩
end
section
variable{X:Cx}{K:W.Frag}{e:Expr}{es:List Expr}{te:TE}{qe:QE}{tl:TA}{ql:QA}{pos p:Pos}{f:Str}
def E4(K:W.Frag)(ta:TE)(f:Str):TE:=fun σ H Q=>ta σ H fun x H1=>∃ a C fs v,x = .ref a/\ObH H1 a C fs/\fs.length<=1000/\Cls K C/\ft K C f/\fs.lookup f=some v/\Q v H1
theorem C9(he:PE X e te)(hb:attributeBase e f X.env (eval e X.env)=eval e X.env):PE X (.Attribute e f pos) (E4 X.K te f):=by
 intro pins s σ H Q I h;refine EF hb (thn (he pins s σ H _ I h) fun u s1 ⟨x,H1,I1,rx,a,C,fs,v,ex,⟨dx,ne,h1,h2⟩,hl,c,n,l,q⟩=>?_)
 subst ex;obtain rfl:u=Value.ref a:=rx;refine v8 (I1.Js ne hl h1 h2) (C:=C) (dx:=dx) (fs:=fs) (by rw[aj ne.symm,au]) c n l fun u' s2 I2 ru=>⟨v,H1,?_,ru,q⟩
 obtain⟨_,_,_,I3⟩:=I2.Ht (a:=a) (C:=C) (d:=dx) (fs:=fs) (by rw[aj ne.symm,au])
 have e:upd (upd (upd (upd H1 a (.ins C dx fs)) dx (.own a)) a (.ext (pe a C dx))) dx (.ext (XD dx fs))=H1:=by
  funext b
  by_cases hbd:b=dx
  ·rw[hbd,au,h2]
  ·by_cases hba:b=a
   ·rw[aj hbd,hba,au,h1]
   ·rw[aj hbd,aj hba,aj hbd,aj hba]
 rw[e]at I3;exact I3
def H0(C:Addr)(f:Str)(qe:QE):QE:=fun q Q=>qe q fun t=>match t with
 | .ob C' ns ts=>C'=C/\ns.length<=1000/\∃ x,(ns.zip ts).lookup f=some x/\Q x
 | _=>False
theorem jz{C:Addr}(hc:Cls K C)(hn:ft K C f)(he:QPE X K e te qe)(hb:attributeBase e f X.env (eval e X.env)=eval e X.env:=by rfl)(hK:X.K=K:=by rfl):QPE X K (.Attribute e f pos) (E4 K te f) (H0 C f qe):=⟨by subst hK;exact C9 he.h hb,fun dl H σ q Q R rd hq k=>he.s dl H σ q _ _ rd hq fun v t F H1 e1 r1 hz=>by
 split at hz
 ·obtain⟨rfl,hl,x,hx,hz⟩:=hz;obtain⟨a,vs,rfl,rfl,ho,rs⟩:=r1.r.obj;obtain⟨w,G,e2,r2,s2⟩:=rs.lookup hx;refine⟨a,_,_,w,rfl,ho,?_,hc,hn,e2,k _ _ G H1 e1 ⟨r2,fun b hb=>nomatch s2 b hb⟩ hz⟩
  rw[List.length_zip];exact Nat.le_trans (Nat.min_le_left _ _) hl
 ·exact hz.elim⟩
def qm(C:Addr)(ns:List Str):Sp:=fun vs H Q _=>∃ x dx args,vs = .ref x::args/\args.length=ns.length/\H x=some (.ins C dx [])/\Q .non (upd H x (.ins C dx (ns.zip args)))
def zg(C:Addr)(ns:List Str)(t:TA):TE:=fun σ H Q=>t σ H fun vs H1=>vs.length=ns.length/\∀ x dx,H1 x=none->H1 dx=none->dx≠x->Q (.ref x) (upd (upd H1 x (.ext (pe x C dx))) dx (.ext (XD dx (ns.zip vs))))
theorem Aw{C g:Addr}{ns prs:List Str}{k:Nat}{fd:FuncData}{x:Str}(M:Mk X.K C g)(G:aH X.prog X.w X.K X.mg X.base CX0 k g fd prs (qm C ns))(hr:cU (k+1) X.A)(hg:Gl X x)(hm:X.mg x=some (.ref C))(hb:Binds X.K fd prs [])(ha:PA X (e::es) tl)
  (hdb:(x ==("__debug__":Str))=false:=by decide) (he:starEach (e::es) X.env =(false,eval e X.env)::starEach es X.env:=by rfl) (hpl:(backTo pos (starEach es X.env)).any (·.1)=false:=by rfl) :
  PE X (.Call (.Name x p) (e::es) [] pos) (zg C ns tl):=by
 intro pins s σ H Q I h;refine wpAny_Call_Name_kw (xD I hg hm ?_ hdb);refine W.callWith_K (h₀:=X.base) I.ok.mod.kin M.kp (thn (ha pos pins s σ H _ I h) fun us s1 ⟨vs,H1,I1,r,q⟩=>⟨I1.kIn,?_⟩) he hpl
 refine thn (zM (Q:=fun v H2=>∃ a dx fs,v = .ref a/\H2 a=some (.ins C dx fs)/\Q v (upd (upd H2 a (.ext (pe a C dx))) dx (.ext (XD dx fs)))) M G hr hb .nil xw I1 r fun x dx hx hd ne=>⟨x,dx,vs,by simp,q.1,au,rfl,x,dx,ns.zip vs,rfl,au,?_⟩) fun u s' ⟨v,H',I',rv,a,dx,fs,e1,e2,qq⟩=>?_
 ·have e:upd (upd (upd (upd (upd H1 dx (.own x)) x (.ins C dx [])) x (.ins C dx (ns.zip vs))) x (.ext (pe x C dx))) dx (.ext (XD dx (ns.zip vs)))=upd (upd H1 x (.ext (pe x C dx))) dx (.ext (XD dx (ns.zip vs))):=by
   funext b
   by_cases hbd:b=dx
   ·rw[hbd,au,au]
   ·by_cases hba:b=x
    ·rw[aj hbd,aj hbd,hba,au,au]
    ·rw[aj hbd,aj hba,aj hba,aj hba,aj hbd,aj hbd,aj hba]
  rw[e];exact q.2 x dx hx hd ne
 ·obtain⟨_,_,_,I2⟩:=I'.Ht e2;exact⟨v,_,I2,rv,qq⟩
def Ga(C:Addr)(ns:List Str)(ql:QA):QE:=fun q Q=>ql q fun ts=>T.ims ts=true/\ts.length=ns.length/\Q (.ob C ns ts)
theorem z6{C g:Addr}{ns prs:List Str}{k:Nat}{fd:FuncData}{x:Str}(hK:X.K=K)(M:Mk K C g)(G:aH X.prog X.w X.K X.mg X.base CX0 k g fd prs (qm C ns))(hr:cU (k+1) X.A)(hg:Gl X x)(hm:X.mg x=some (.ref C))(hb:Binds X.K fd prs [])(ha:QPA X K (e::es) tl ql)
  (hdb:(x ==("__debug__":Str))=false:=by decide) (he:starEach (e::es) X.env =(false,eval e X.env)::starEach es X.env:=by rfl) (hpl:(backTo pos (starEach es X.env)).any (·.1)=false:=by rfl) :
  QPF X K (.Call (.Name x p) (e::es) [] pos) (zg C ns tl) (Ga C ns ql):=by
 subst hK;refine⟨Aw M G hr hg hm hb ha.h hdb he hpl,fun dl H σ q Q R rd hq k=>ha.s dl H σ q _ _ rd hq fun vs ts F H1 e1 r1 _ hz=>?_⟩
 obtain⟨z1,z2,z3⟩:=hz;obtain rfl:=r1.r.im z1;refine⟨r1.r.len.trans z2,fun x dx hx hd ne=>?_⟩
 have ev:Evo dl H1 (upd (upd H1 x (.ext (pe x C dx))) dx (.ext (XD dx (ns.zip vs)))):=((Evo.refl e1.d).new hx).new (by rw[aj ne];exact hd)
 have r2:=r1.evo e1.d ev;exact k _ _ [] _ (e1.trans ev) ⟨.ob ⟨dx,ne,by rw[aj ne.symm,au],au⟩ r2.r,fun _ z=>nomatch z⟩ (fun _ z=>nomatch z) List.nodup_nil z3
end
section
variable{X:Cx}{K:W.Frag}
def zT(K:W.Frag):R2:=fun x y H Q=>∃ p q vs,x = .ref p/\y = .ref q/\SqL K H p vs/\SqL K H q []/\Q (.bl (!vs.isEmpty)) H
theorem uc(hu:X.A.units+1<cLine)(hK:X.K=K):OpR X (compareOp .NotEq) (zT K):=by
 subst hK;intro pins s σ H x y v u Q I rx ry h;obtain⟨p,q,vs,rfl,rfl,h1,h2,k⟩:=h;cases rx;cases ry;obtain⟨its,r1,p1,_⟩:=I.list h1;obtain⟨dP,r2,p2,_⟩:=I.list h2;have l1:=r1.length;have l2:=r2.length;have e2:dP.length=0:=l2.symm;by_cases hl:its.length=dP.length
 ·refine SeqAt.RcNeAt.lists (e:=fun _=>true) p1.isList p2.isList (by simpa using hl) (by omega) (fun j g1 g2=>?_) X.prog X.w X.xe _ ⟨.bl _,H,I,rfl,?_⟩
  ·obtain⟨a,ea,ra⟩:=r2.at' g2;simp at ea
  ·have e:vs = []:=List.length_eq_zero_iff.mp (by omega)
   subst e;have e3:its.toArray.size=0:=by simp;exact List.length_eq_zero_iff.mp (by omega)
   rw[e3];exact k
 ·refine SeqAt.RcNeAt.lists_lengths p1.isList p2.isList (by simpa using hl) (by omega) X.prog X.w X.xe _ ⟨.bl _,H,I,rfl,?_⟩
  cases vs with
  | nil=>exact absurd l1.symm (by rw[<- l2]at hl;exact hl)
  | cons _ _=>exact k
def Ae:Q2:=fun t u Q=>match t,u with
 | .l xs,.l []=>Q (.b (!xs.isEmpty))
 | _,_=>False
theorem pA:cy K (zT K) Ae:=by
 intro dl H x y t u F G Q R D r1 r2 hq k;unfold Ae at hq
 split at hq
 ·rename_i xs;obtain⟨p,vs,G1,rfl,rfl,h1,h2⟩:=r1.r.lst;obtain⟨p',vs',G2,rfl,rfl,h3,h4⟩:=r2.r.lst;cases h4;refine⟨p,p',vs,rfl,rfl,SqL.of h1,SqL.of h3,k _ _ [] H (.refl D) (.c (.b _)) (fun _ z=>nomatch z) List.nodup_nil ?_⟩
  have e:vs.isEmpty=xs.isEmpty:=by
   have:=h2.len
   cases vs <;> cases xs <;> simp at this ⊢
  rw[e];exact hq
 ·exact hq.elim
theorem Ii{tg e:Expr}{w1 w2:TI}(h1:PI X tg e w1)(h2:PI X tg e w2):PI X tg e (fun σ H R=>w1 σ H R\/w2 σ H R):=by
 intro pins s σ H R I h;rcases h with h|h
 ·exact h1 pins s σ H R I h
 ·exact h2 pins s σ H R I h
def asP(i:Nat):QJ:=fun q Q=>match q[i]? with
 | some (.r (.l xs))=>Q xs q
 | some (.r (.t xs))=>Q xs q
 | _=>False
theorem FY{tg e:Expr}{i:Nat}(h:PE X e (bS i))(hK:X.K=K:=by rfl):QPJ X K tg e (fun σ H R=>xJ K (bS i) σ H R\/Bj K (bS i) σ H R) (asP i):=⟨Ii (t7 hK h) (q9 hK h),fun dl H₀ hs H σ q Q R ⟨F0,r0⟩ hq k=>by
 have hold:∀{t:T}{v:V},q[i]? = some (.r t)->Rp K dl H v t (F0 i)->Rel K dl H₀ ((v,t)::hs) H σ q F0:=fun{t v} e r=>r0.hold r fun j u hj b hb=>by
  have ne:i≠j:=fun z=>by rw[z,hj]at e;cases e
  exact(r0.o j u hj).2.2 i ne b hb
 unfold asP at hq
 split at hq
 ·rename_i xs e1;obtain⟨v,hv,r⟩:=r0.g i _ _ e1 rfl;have r1:=hold e1 r;obtain⟨p,vs,G,rfl,_,h1,h2⟩:=r.r.lst;exact .inl ⟨_,hv,p,rfl,⟨vs,SqL.of h1⟩,k _ _ _ H q ⟨F0,r1⟩ xG hq⟩
 ·rename_i xs e1;obtain⟨v,hv,r⟩:=r0.g i _ _ e1 rfl;have r1:=hold e1 r;obtain⟨p,vs,rfl,h1,h2⟩:=r.r.tup;exact .inr ⟨_,hv,p,rfl,⟨vs,SqT.of h1⟩,k _ _ _ H q ⟨F0,r1⟩ vW hq⟩
 ·exact hq.elim⟩
def z8(g:Tg)(i:Nat):QS:=fun D q=>match q[i]? with
 | some (.r t)=>∃ q',g.put t q=some q'/\D.nx q'
 | _=>False
theorem zv{g:Tg}{i:Nat}:ke K (iM (bS i) (g.h K)) (z8 g i):=fun dl H₀ hs H σ q Dq D ⟨F,r⟩ hq E=>by
 unfold z8 at hq
 split at hq
 ·rename_i t ei;obtain⟨q',hq',hz⟩:=hq;obtain⟨v,hv,rp⟩:=r.g i _ _ ei rfl;exact⟨v,hv,vf r rp (fun j u hj b hb=>(r.o j u hj).2.2 i (fun z=>by rw[z,hj]at ei;cases ei) b hb) hq' fun σ' r'=>E.nx _ _ _ r' hz⟩
 ·exact hq.elim
theorem qM{tg e:Expr}{g:Tg}{i:Nat}{pos:Pos}(he:PE X e (bS i))(hg:PG X tg (g.h K))(hs:swapsWithSole [tg] e pos.line X.env=pure false:=by rfl)(hw:swappedStores [tg] e X.env=pure none:=by rfl)
  (h1:(assignEach [tg] X.env).map (·.2) = [assign tg X.env]:=by rfl):QPS X K (.Assign [tg] e pos) (iM (bS i) (g.h K)) (z8 g i):=⟨qV he hg hs hw h1,zv⟩
theorem uA{dl:Dl}{a:Addr}{xs:List T}:uR K dl (Ite K false a) (iV xs) [(.ref a,.l xs)] where
 go:=fun H i D h hi=>by
  obtain⟨F,r⟩:=h (.ref a,.l xs) (by simp)
  obtain⟨p,vs,G,e,_,h1,h2⟩:=r.r.lst;cases e;rw[de]at hi;have l1:i<vs.length:=by rw[h2.len];omega
  exact⟨vs,vs[i],SqL.of h1,by simp[l1]⟩
 yld:=fun H i x fp v H' D h hx y=>by
  have r:=h (.ref a,.l xs) (by simp)
  obtain⟨p,vs,G,e,eF,h1,h2⟩:=r.r.lst;cases e;obtain⟨x1,hx1,rfl⟩:=jS hx;obtain⟨w1,G1,hw1,rw1,hs1⟩:=h2.get hx1;obtain⟨q,u1,hq,rfl,rfl,y1'⟩:=y;have e1:=y1' vs (SqL.of h1);rw[hw1]at e1;cases e1;have sub:∀ b∈G1,b∈fp (.ref a,.l xs):=fun b hb=>by rw[eF];exact List.mem_cons_of_mem _ (hs1 b hb)
  have rs:Rps K dl H [.int (i:Nat),w1] [.i (i:Nat),x1] ([]++(G1 ++ [])):=Rps.cons ⟨.i _,fun _ z=>nomatch z⟩ (Rps.cons ⟨rw1,fun b hb=>r.n b (sub b hb)⟩ ⟨.nil,fun _ z=>nomatch z⟩)
  refine⟨(Evo.refl D).new hq,_,rs.tup D hq,fun c hb=>.inr ?_⟩
  rw[List.append_nil]at hb;exact⟨_,by simp,sub c hb⟩
 stop:=fun H D h=>by
  obtain⟨F,r⟩:=h (.ref a,.l xs) (by simp)
  obtain⟨p,vs,G,e,_,h1,h2⟩:=r.r.lst;cases e;exact⟨vs,SqL.of h1,by rw[de,h2.len];exact Nat.le_refl _⟩
def Fu(i:Nat):QJ:=fun q Q=>match q[i]? with
 | some (.o (.l xs))=>Q (iV xs) (q.set i (.r (.l xs)))
 | some (.r (.l xs))=>Q (iV xs) q
 | _=>False
theorem z5{a:Expr}{elts:List Expr}{x1}{pos pos' p:Pos}{i:Nat}(hg:Gl X "enumerate")(hm:X.mg "enumerate" = none)(d9:bootBuiltins "enumerate" = some (.type "enumerate"))(h:PE X a (bS i))(hs:starEach [a] X.env = [(false,eval a X.env)]:=by rfl)(hs':starEach [a] X.env =(false,eval a X.env)::starEach [] X.env:=by rfl)(hK:X.K=K:=by rfl) :
  QPJ X K (.Tuple elts x1 pos') (.Call (.Name "enumerate" p) [a] [] pos) (xK K false (fA (bS i) n6)) (Fu i):=⟨t8 hK hg hm d9 (ck h fU hs') hs,fun dl H₀ hs H σ q Q R ⟨F0,r0⟩ hq k=>by
 unfold Fu at hq
 split at hq
 ·rename_i xs e1;obtain⟨v,hv,r⟩:=r0.g i _ _ e1 rfl;obtain⟨o1,o2,o3⟩:=r0.o i _ e1;have r1:=(r0.down e1).hold r fun j u hj b hb=>by
   rcases get_set hj with⟨_,z,_⟩ |⟨ne,hj⟩
   ·cases z
   ·exact(r0.o j u hj).2.2 i (fun z=>ne z.symm) b hb
  obtain⟨p,vs,G,rfl,_,h1,h2⟩:=r.r.lst;exact⟨_,hv,p,rfl,⟨vs,SqL.of h1⟩,k _ _ _ H _ ⟨F0,r1⟩ uA hq⟩
 ·rename_i xs e1;obtain⟨v,hv,r⟩:=r0.g i _ _ e1 rfl;have r1:=r0.hold r fun j u hj b hb=>(r0.o j u hj).2.2 i (fun z=>by subst z;rw[e1]at hj;cases hj) b hb
  obtain⟨p,vs,G,rfl,_,h1,h2⟩:=r.r.lst;exact⟨_,hv,p,rfl,⟨vs,SqL.of h1⟩,k _ _ _ H _ ⟨F0,r1⟩ uA hq⟩
 ·exact hq.elim⟩
def J1(ql:QA):QJ:=fun q Q=>ql q fun ts=>match ts with | [.t xs,.t ys]=>T.ims xs=true/\T.ims ys=true/\Q (p9 xs ys) q | _=>False
theorem zZ{a b:Expr}{tl:TA}{ql:QA}{pos p:Pos}{elts:List Expr}{x1}{pos':Pos}(hg:Gl X "zip")(hm:X.mg "zip" = none)(d9:bootBuiltins "zip" = some (.type "zip"))(ha:QPA X K [a,b] tl ql)(hs:starEach [a,b] X.env = [(false,eval a X.env),(false,eval b X.env)]:=by rfl)(hs2:starEach [b] X.env = [(false,eval b X.env)]:=by rfl)(hK:X.K=K:=by rfl) :
  QPJ X K (.Tuple elts x1 pos') (.Call (.Name "zip" p) [a,b] [] pos) (D7 K true true tl) (J1 ql):=⟨xu hK hg hm d9 ha.h hs hs2,fun dl H₀ hs H σ q Q R ⟨F0,r0⟩ hq k=>ha.s dl H σ q _ _ r0.rd hq fun vs ts F H' e1 r _ hz=>by
 split at hz
 ·obtain⟨i1,i2,hz⟩:=hz;obtain⟨v,w,F1,F2,rfl,r1,r2⟩:=r.two;obtain rfl:=r1.r.im (t:=.t _) i1;obtain rfl:=r2.r.im (t:=.t _) i2;have q1:=((r0.evo e1).hold r2 fun j u hj b hb z=>nomatch z).hold r1 fun j u hj b hb z=>nomatch z
  obtain⟨l1,vs1,rfl,h1,h2⟩:=r1.r.tup;obtain⟨l2,vs2,rfl,h3,h4⟩:=r2.r.tup;exact⟨l1,l2,rfl,⟨vs1,SqT.of h1⟩,⟨vs2,SqT.of h3⟩,k _ _ _ H' q ⟨F0,q1⟩ Bd hz⟩
 ·exact hz.elim⟩
theorem xy:OpR X (compareOp .IsNot) (fun x y H Q=>∃ c d,x = .bl c/\y = .bl d/\Q (.bl (c != d)) H):=by
 intro pins s σ H x y v u Q I rx ry h;obtain⟨c,d,rfl,rfl,q⟩:=h;cases rx;cases ry;exact isnot_bool ⟨.bl _,H,I,rfl,q⟩
def Fb:Q2:=fun t u Q=>match t,u with
 | .b c,.b d=>Q (.b (c != d))
 | _,_=>False
theorem tL:cy K (fun x y H Q=>∃ c d,x = .bl c/\y = .bl d/\Q (.bl (c != d)) H) Fb:=by
 intro dl H x y t u F G Q R D r1 r2 hq k;unfold Fb at hq
 split at hq
 ·obtain⟨rfl,rfl⟩:=r1.r.bl;obtain⟨rfl,rfl⟩:=r2.r.bl;exact⟨_,_,rfl,rfl,k _ _ [] H (.refl D) (.c (.b _)) (fun _ z=>nomatch z) List.nodup_nil hq⟩
 ·exact hq.elim
end
end L2
namespace K08
open PySem L2
def top(i:Nat):Stmt:=PySem.Challenge.pw_pursewright_k08_sound_programs.main.body.getD i (.Pass ⟨0,0,0,0⟩)
abbrev fns:List Str:=[]
abbrev cN:Stmt:=inClass (top 2) 0
abbrev b6:Stmt:=inClass (top 5) 0
theorem om:aP ["self","kinds","makers","functions"] ["self","kinds","makers","functions"] (ak b6):=⟨rfl,rfl,rfl,by decide +kernel,rfl,by decide +kernel,by decide +kernel⟩
abbrev ku:Stmt:=top 4
theorem iB:aP ["program","kinds","kind","makers","known","function"] ["program"] (ak ku):=⟨rfl,rfl,rfl,by decide +kernel,rfl,by decide +kernel,by decide +kernel⟩
abbrev kr:Stmt:=top 6
theorem CA:aP ["known","name"] ["known","name"] (ak kr):=⟨rfl,rfl,rfl,by decide +kernel,rfl,by decide +kernel,by decide +kernel⟩
abbrev kC:Stmt:=top 7
theorem CB:aP ["bound","name","what"] ["bound","name","what"] (ak kC):=⟨rfl,rfl,rfl,by decide +kernel,rfl,by decide +kernel,by decide +kernel⟩
abbrev b8:Stmt:=top 8
theorem bE:aP ["kinds","rows","makers","kind","own","maker","fields","field"] ["kinds","rows"] (ak b8):=⟨rfl,rfl,rfl,by decide +kernel,rfl,by decide +kernel,by decide +kernel⟩
abbrev bC:Stmt:=top 9
theorem cf:aP ["rows","functions","function","due"] ["rows"] (ak bC):=⟨rfl,rfl,rfl,by decide +kernel,rfl,by decide +kernel,by decide +kernel⟩
abbrev bG:Stmt:=top 10
theorem cp:aP ["known","function","bound","name","kind"] ["known","function"] (ak bG):=⟨rfl,rfl,rfl,by decide +kernel,rfl,by decide +kernel,by decide +kernel⟩
abbrev cJ:Stmt:=top 11
theorem bI:aP ["known","function","params","waiting","begun","arm","bound","piece","arms"] ["known","function","params"] (ak cJ):=⟨rfl,rfl,rfl,by decide +kernel,rfl,by decide +kernel,by decide +kernel⟩
abbrev cI:Stmt:=top 12
theorem dN:aP ["arm","fields","above","bound","name","kind"] ["arm","fields","above"] (ak cI):=⟨rfl,rfl,rfl,by decide +kernel,rfl,by decide +kernel,by decide +kernel⟩
abbrev cq:Stmt:=top 13
theorem iR:aP ["known","piece","bound","word"] ["known","piece","bound"] (ak cq):=⟨rfl,rfl,rfl,by decide +kernel,rfl,by decide +kernel,by decide +kernel⟩
abbrev cZ:Stmt:=top 14
theorem cG:aP ["makings","piece","bound","names","name","due","kind"] ["makings","piece","bound"] (ak cZ):=⟨rfl,rfl,rfl,by decide +kernel,rfl,by decide +kernel,by decide +kernel⟩
abbrev cH:Stmt:=top 15
theorem qJ:aP ["bound","name","kind"] ["bound","name","kind"] (ak cH):=⟨rfl,rfl,rfl,by decide +kernel,rfl,by decide +kernel,by decide +kernel⟩
abbrev cK:Stmt:=top 16
theorem ju:aP ["known","piece","bound","makers"] ["known","piece","bound"] (ak cK):=⟨rfl,rfl,rfl,by decide +kernel,rfl,by decide +kernel,by decide +kernel⟩
abbrev kz:Stmt:=top 18
theorem jv:aP ["_law_script","_law_base","_law_cells","_law_number","_law_cell"] ["_law_script","_law_base"] (ak kz):=⟨rfl,rfl,rfl,by decide +kernel,rfl,by decide +kernel,by decide +kernel⟩
abbrev ky:Stmt:=top 19
theorem lV:aP ["_law_deal_here","_law_many","_law_number","_law_one","_law_other"] ["_law_deal_here","_law_many"] (ak ky):=⟨rfl,rfl,rfl,by decide +kernel,rfl,by decide +kernel,by decide +kernel⟩
abbrev iC:Stmt:=top 20
theorem bY:aP ["_law_deal_here","_law_many","_law_letters","_law_core","_law_at","_law_turn","_law_found","_law_k","_law_own","_law_word","_law_near"] ["_law_deal_here","_law_many"] (ak iC):=⟨rfl,rfl,rfl,by decide +kernel,rfl,by decide +kernel,by decide +kernel⟩
abbrev iD:Stmt:=top 21
theorem bF:aP ["_law_deal_here","_law_words_here","_law_turn","_law_m","_law_many","_law_most","_law_some","_law_bare","_law_found","_law_made","_law_k","_law_makers","_law_j","_law_fields"] ["_law_deal_here","_law_words_here"] (ak iD):=⟨rfl,rfl,rfl,by decide +kernel,rfl,by decide +kernel,by decide +kernel⟩
abbrev kx:Stmt:=top 22
theorem lU:aP ["_law_deal_here","_law_scope","_law_some","_law_found","_law_kind","_law_own"] ["_law_deal_here","_law_scope","_law_some"] (ak kx):=⟨rfl,rfl,rfl,by decide +kernel,rfl,by decide +kernel,by decide +kernel⟩
abbrev iE:Stmt:=top 23
theorem cn:aP ["_law_deal_here","_law_world","_law_scope","_law_f","_law_kinds_here","_law_heads","_law_words_here","_law_kind","_law_own","_law_x","_law_maker","_law_fields","_law_names"] ["_law_deal_here","_law_world","_law_scope","_law_f"] (ak iE):=⟨rfl,rfl,rfl,by decide +kernel,rfl,by decide +kernel,by decide +kernel⟩
abbrev kA:Stmt:=top 24
theorem cA:aP ["_law_deal_here","_law_world","_law_scope","_law_f","_law_room","_law_kinds_here","_law_heads","_law_words_here","_law_x","_law_kind","_law_makers","_law_arms","_law_maker","_law_fields","_law_more","_law_names"] ["_law_deal_here","_law_world","_law_scope","_law_f","_law_room"] (ak kA):=⟨rfl,rfl,rfl,by decide +kernel,rfl,by decide +kernel,by decide +kernel⟩
abbrev kB:Stmt:=top 25
theorem bJ:aP ["_law_deal_here","_law_world","_law_scope","_law_f","_law_room","_law_kinds_here","_law_heads","_law_words_here","_law_form","_law_x","_law_coins","_law_word","_law_y","_law_other","_law_g","_law_names","_law_name","_law_makers","_law_maker","_law_fields"] ["_law_deal_here","_law_world","_law_scope","_law_f","_law_room"] (ak kB):=⟨rfl,rfl,rfl,by decide +kernel,rfl,by decide +kernel,by decide +kernel⟩
abbrev dX:Stmt:=top 26
theorem bD:aP ["_law_deal_here","_law_words_here","_law_kinds_here","_law_turn","_law_heads","_law_f","_law_many","_law_params","_law_functions","_law_head","_law_room"] ["_law_deal_here","_law_words_here"] (ak dX):=⟨rfl,rfl,rfl,by decide +kernel,rfl,by decide +kernel,by decide +kernel⟩
abbrev gF:Stmt:=top 27
theorem mK:aP ["_law_script","_law_deal_here","_law_words_here","_law_one","_law_other"] ["_law_script"] (ak gF):=⟨rfl,rfl,rfl,by decide +kernel,rfl,by decide +kernel,by decide +kernel⟩
set_option genInjectivity false in
structure Adr where
 aZ:Addr
 bp:Addr
 bA:Addr
 jT:FuncData
 aF:Addr
 a7:Addr
 dU:FuncData
 f_look:Addr
 wc:FuncData
 dc:Addr
 hJ:FuncData
 cF:Addr
 fg:FuncData
 bj:Addr
 du:FuncData
 aW:Addr
 cu:FuncData
 aY:Addr
 cB:FuncData
 bO:Addr
 eI:FuncData
 bN:Addr
 eD:FuncData
 bx:Addr
 dS:FuncData
 bX:Addr
 gd:FuncData
 bB:Addr
 dw:FuncData
 bP:Addr
 eJ:FuncData
 gb:Addr
 sC:FuncData
 cE:Addr
 ff:FuncData
 eB:Addr
 sA:FuncData
 dQ:Addr
 mf:FuncData
 fc:Addr
 nJ:FuncData
 dR:Addr
 mh:FuncData
 g9:Addr
 we:FuncData
 fe:Addr
 nK:FuncData
 cL:Addr
 kU:FuncData
 nG:Addr
 BF:FuncData
structure Txt(K:W.Frag)(mg:Str->Option Value)(a:Adr):Prop where
 B6:Hl K fns a.aZ (bmV) none
 B2:mg "PurseError" = some (.ref a.aZ)
 B4:W.keepIn K (.ref a.aZ)=true
 EX:Hl K fns a.bp (.ref a.aZ::bmV) (some a.bA)
 DI:mg "NoProgram" = some (.ref a.bp)
 DP:W.keepIn K (.ref a.bp)=true
 gu:Fun K "__init__" "NoProgram.__init__" cN a.bA a.jT
 Ef:W.isFn K (.ref a.bA)=true
 j9:Binds K a.jT ["self","word","name"] []
 dy:Cls K a.aF
 AX:mg "Known" = some (.ref a.aF)
 A0:Mk K a.aF a.a7
 cR:ft K a.aF "kinds"
 gw:ft K a.aF "makers"
 d3:ft K a.aF "functions"
 dW:Fun K "__init__" "Known.__init__" b6 a.a7 a.dU
 B3:Meth K a.aF "__init__" a.a7
 gn:Binds K a.dU ["self","kinds","makers","functions"] []
 nd:[a.aZ,a.bp].Nodup
 gs:Fun K "look" "look" ku a.f_look a.wc
 nk:mg "look" = some (.ref a.f_look)
 jk:Binds K a.wc ["program"] []
 el:Fun K "need" "need" kr a.dc a.hJ
 i8:mg "need" = some (.ref a.dc)
 gh:Binds K a.hJ ["known","name"] []
 et:Fun K "bind" "bind" kC a.cF a.fg
 i9:mg "bind" = some (.ref a.cF)
 gm:Binds K a.fg ["bound","name","what"] []
 cz:Fun K "look_makers" "look_makers" b8 a.bj a.du
 oC:mg "look_makers" = some (.ref a.bj)
 fk:Binds K a.du ["kinds","rows"] []
 bU:Fun K "look_functions" "look_functions" bC a.aW a.cu
 kM:mg "look_functions" = some (.ref a.aW)
 dg:Binds K a.cu ["rows"] []
 bZ:Fun K "look_function" "look_function" bG a.aY a.cB
 lG:mg "look_function" = some (.ref a.aY)
 dI:Binds K a.cB ["known","function"] []
 dA:Fun K "look_body" "look_body" cJ a.bO a.eI
 uw:mg "look_body" = some (.ref a.bO)
 ie:Binds K a.eI ["known","function","params"] []
 dz:Fun K "look_head" "look_head" cI a.bN a.eD
 uv:mg "look_head" = some (.ref a.bN)
 ic:Binds K a.eD ["arm","fields","above"] []
 cV:Fun K "look_piece" "look_piece" cq a.bx a.dS
 rM:mg "look_piece" = some (.ref a.bx)
 gj:Binds K a.dS ["known","piece","bound"] []
 dj:Fun K "look_use" "look_use" cZ a.bX a.gd
 nj:mg "look_use" = some (.ref a.bX)
 gi:Binds K a.gd ["makings","piece","bound"] []
 cM:Fun K "need_kind" "need_kind" cH a.bB a.dw
 lg:mg "need_kind" = some (.ref a.bB)
 eO:Binds K a.dw ["bound","name","kind"] []
 dB:Fun K "look_arms" "look_arms" cK a.bP a.eJ
 ux:mg "look_arms" = some (.ref a.bP)
 ig:Binds K a.eJ ["known","piece","bound"] []
 nY:Fun K "_law_deal" "_law_deal" kz a.gb a.sC
 GK:mg "_law_deal" = some (.ref a.gb)
 wC:Binds K a.sC ["_law_script","_law_base"] []
 aJ:Fun K "_law_draw" "_law_draw" ky a.cE a.ff
 aU:mg "_law_draw" = some (.ref a.cE)
 aN:Binds K a.ff ["_law_deal_here","_law_many"] []
 kg:Fun K "_law_words" "_law_words" iC a.eB a.sA
 m_words:mg "_law_words" = some (.ref a.eB)
 sO:Binds K a.sA ["_law_deal_here","_law_many"] []
 kh:Fun K "_law_kinds" "_law_kinds" iD a.dQ a.mf
 DM:mg "_law_kinds" = some (.ref a.dQ)
 sP:Binds K a.mf ["_law_deal_here","_law_words_here"] []
 iA:Fun K "_law_fill" "_law_fill" kx a.fc a.nJ
 rN:mg "_law_fill" = some (.ref a.fc)
 kZ:Binds K a.nJ ["_law_deal_here","_law_scope","_law_some"] []
 iL:Fun K "_law_ended" "_law_ended" iE a.dR a.mh
 xB:mg "_law_ended" = some (.ref a.dR)
 mj:Binds K a.mh ["_law_deal_here","_law_world","_law_scope","_law_f"] []
 nZ:Fun K "_law_case" "_law_case" kA a.g9 a.we
 GL:mg "_law_case" = some (.ref a.g9)
 wD:Binds K a.we ["_law_deal_here","_law_world","_law_scope","_law_f","_law_room"] []
 fu:Fun K "_law_body" "_law_body" kB a.fe a.nK
 kN:mg "_law_body" = some (.ref a.fe)
 ij:Binds K a.nK ["_law_deal_here","_law_world","_law_scope","_law_f","_law_room"] []
 dY:Fun K "_law_program" "_law_program" dX a.cL a.kU
 pL:mg "_law_program" = some (.ref a.cL)
 iK:Binds K a.kU ["_law_deal_here","_law_words_here"] []
 x9:Fun K "law" "law" gF a.nG a.BF
 Ka:mg "law" = some (.ref a.nG)
 Ft:Binds K a.BF ["_law_script"] []
 cw:mg "len" = none
 wA:mg "list" = none
 dv:mg "tuple" = none
 wB:mg "dict" = none
 nQ:mg "reversed" = none
 BP:mg "max" = none
 gg:mg "range" = none
 BO:mg "zip" = none
 lD:mg "enumerate" = none
 EE:mg "ValueError" = none
def rO:Str:="abcdefghijklmnopqrstuvwxyz"
def Iv:List Str:=["kind","def","to","let","make","call"]
def Iu:List Str:=["name","case","end","pay","get","give"]
def kept:List Str:=Iv++Iu
def near:List Str:=["lets","callx","payer","ender","tom","nameb","makes","gets","giver","kinds","defs","cases"]
theorem xC{i:Int}(h0:0<=i)(h1:i<26):atI (Str.cps rO).toList i=some (lH i.toNat):=by
 obtain⟨n,rfl⟩:∃ n:Nat,i=n:=⟨i.toNat,by omega⟩
 have h2:n<26:=by omega
 have h3:∀ n:Fin 26,atI (Str.cps rO).toList (n.val:Int)=some (lH n.val):=by decide +kernel
 have:=h3 ⟨n,h2⟩
 simpa using this
theorem AW:∀ w∈near,1<=w.length/\w.length<=20:=by decide +kernel
def tM(m:Mk1):T:=.t [.s m.1,.t (m.2.map .s)]
def tMs(ms:List Mk1):T:=.t (ms.map tM)
def tK(k:Kd):T:=.t [.s k.1,tMs k.2]
def tKs(ks:List Kd):T:=.t (ks.map tK)
theorem bh{α:Type}{f:α->T}(h:∀ x,(f x).im=true):∀ xs:List α,T.ims (xs.map f)=true
 | []=>by simp[T.ims]
 | x::r=>by simp[T.ims,h x,bh h r]
theorem Bi(m:Mk1):(tM m).im=true:=by simp[tM,T.im,T.ims,bh (f:=T.s) (fun _=>rfl)]
theorem d6(m:List Mk1):(tMs m).im=true:=by simp[tMs,T.im,bh Bi]
theorem uB(m:Kd):(tK m).im=true:=by simp[tK,T.im,T.ims,d6]
theorem sf(m:List Kd):(tKs m).im=true:=by simp[tKs,T.im,bh uB]
def CU:PSp:=fun ts Q=>∃ m:Int,ts = [.cY,.i m]/\0<m/\m<=52/\∀ ws:List Str,(ws.length:Int)=m->ws.Nodup ->(∀ w∈ws,1<=w.length/\w.length<=20)->Q (.l (ws.map .s))
theorem nC{w:Str}{ws:List Str}:inT (.s w) (ws.map T.s)=inV (.str w) (ws.map V.str):=by
 unfold inT inV;rw[List.any_map,List.any_map];rfl
theorem nF(ws:List Str):fls (ws.map T.s)=true:=by
 unfold fls;rw[List.all_map,List.all_eq_true];exact fun _ _=>rfl
theorem aA(ws:List Str):T.ims (ws.map T.s)=true:=bh (fun _=>rfl) ws
theorem EG{ws:List Str}{i:Int}(h0:0<=i)(h1:i<ws.length):∃ w,atI (ws.map T.s) i=some (.s w)/\w∈ws:=by
 obtain⟨v,e,hm⟩:=Hk (xs:=ws.map T.s) h0 (by simpa using h1)
 obtain⟨w,hw,rfl⟩:=List.mem_map.mp hm;exact⟨w,e,hw⟩
theorem lu{ws:List Str}{j:Nat}{w:Str}(h:ws[j]? = some w):atI (ws.map T.s) (j:Int)=some (.s w):=sR (by rw[List.getElem?_map,h];rfl)
theorem BI{α β:Type}(f:α->β)(xs:List α)(lo hi:Option Int):fh (xs.map f) lo hi =(fh xs lo hi).map f:=by
 unfold fh;rw[List.length_map,<- List.map_drop,<- List.map_take]
theorem xI(ws:List Str)(lo hi:Option Int):T.ims (fh (ws.map T.s) lo hi)=true:=by rw[BI];exact aA _
theorem xt{x y z r:Int}(h0:0<=r)(h1:r<3):∃ v,atI [T.i x,T.i y,T.i z] r=some (.i v)/\(v=x\/v=y\/v=z):=by
 obtain⟨n,rfl⟩:∃ n:Nat,r=n:=⟨r.toNat,by omega⟩
 match n,h1 with
 | 0,_=>exact⟨x,rfl,.inl rfl⟩
 | 1,_=>exact⟨y,rfl,.inr (.inl rfl)⟩
 | 2,_=>exact⟨z,rfl,.inr (.inr rfl)⟩
 | n+3,h=>omega
structure pW(ws M:List Str)(many:Nat)(ks:List Kd)(k made:Nat):Prop where
 nm:ks.map (·.1)=ws.take k
 mn:names ks=M.take made
 b1:made<=6*k
 ne:∀ k∈ks,k.2 ≠ []/\k.2.length<=6
 fl:∀ k∈ks,∀ m∈k.2,m.2.length<=4/\∀ f∈m.2,f∈ws.take many
theorem pW.next{ws M:List Str}{many:Nat}{ks:List Kd}{k made cx:Nat}{ms:List Mk1}{n:Str}(D:pW ws M many ks k made)(hn:ws[k]? = some n)(hm:M.take made++ms.map (·.1)=M.take cx)(h0:ms ≠ [])(h1:ms.length<=6)(h2:cx<=made+ms.length)(h3:∀ m∈ms,m.2.length<=4/\∀ f∈m.2,f∈ws.take many) :
  pW ws M many (ks ++ [(n,ms)]) (k+1) cx where
 nm:=by rw[List.map_append,D.nm,<- take_one hn];rfl
 mn:=by
  have:names (ks ++ [(n,ms)])=names ks++ms.map (·.1):=by unfold names;rw[List.flatMap_append];simp
  rw[this,D.mn,hm]
 b1:=by have:=D.b1;omega
 ne:=fun x hx=>by
  rcases List.mem_append.mp hx with h|h
  ·exact D.ne x h
  ·rw[List.mem_singleton.mp h];exact⟨h0,h1⟩
 fl:=fun x hx=>by
  rcases List.mem_append.mp hx with h|h
  ·exact D.fl x h
  ·rw[List.mem_singleton.mp h];exact h3
theorem se{a b:Str}:decide ((Sum.inr a:Key) = .inr b)=decide (a=b):=by
 by_cases h:a=b
 ·subst h;simp
 ·rw[decide_eq_false h,decide_eq_false fun z=>h (Sum.inr.inj z)]
theorem never{P:Program}{w:World}{K:W.Frag}{mg:Str->Option Value}{base:Heap}{CX:CXT}{k:Nat}{f:Addr}{fd:FuncData}{ps:List Str}{sp:PSp}(h:∀ ts Q,¬ sp ts Q):aH P w K mg base CX k f fd ps (spQ K sp) :=
 ⟨fun _ _ _ _ hz=>by obtain⟨_,ts,_,Qp,_,_,z,_⟩:=hz;exact(h ts Qp z).elim,fun _ _ _ _ _ _ _ _ _ _ _ _ _ hz=>by obtain⟨_,ts,_,Qp,_,_,z,_⟩:=hz;exact(h ts Qp z).elim⟩
def kEn(k:Kd):Key×T:=(.inr k.1,tMs k.2)
theorem mZ:∀ ks:List Kd,gO (ks.map tK)=some (ks.map kEn)
 | []=>rfl
 | k::r=>by
  show(match(some (.inr k.1):Option Key),gO (r.map tK)with|some k',some r=>some ((k',tMs k.2)::r) | _,_=>none)=_
  rw[mZ r];rfl
theorem ur:∀{ps acc:List (Key×T)},(ps.map (·.1)).Nodup ->(∀ p∈ps,∀ q∈acc,q.1≠p.1)->c7 acc ps=acc++ps
 | [],acc,_,_=>by simp[c7]
 | p::ps,acc,h,hd=>by
  have h':=List.nodup_cons.mp h;have e:lE acc p.1 p.2=acc ++ [p]:=by
   unfold lE;rw[if_neg];intro z;obtain⟨q,hq,hz⟩:=List.any_eq_true.mp z;exact hd p (by simp) q hq (of_decide_eq_true hz)
  show c7 (lE acc p.1 p.2) ps=_;rw[e,ur h'.2 fun p' hp' q hq=>?_]
  ·simp
  ·rcases List.mem_append.mp hq with z|z
   ·exact hd p' (by simp[hp']) q z
   ·rw[List.mem_singleton.mp z];exact fun e=>h'.1 (List.mem_map.mpr ⟨p',hp',e.symm⟩)
theorem DN{ks:List Kd}{k:Str}(h:k∈ks.map (·.1)):bL (ks.map kEn) (.inr k)=some (tMs (A1 ks k)):=by
 unfold bL A1
 induction ks with
 | nil=>cases h
 | cons x r ih =>
  by_cases e:x.1=k
  ·rw[List.map_cons,List.find?_cons,List.find?_cons,show(kEn x).1 = .inr x.1 from rfl,se,decide_eq_true e];rfl
  ·have h':k∈r.map (·.1):=by
    rcases List.mem_cons.mp h with z|z
    ·exact absurd z.symm e
    ·exact z
   rw[List.map_cons,List.find?_cons,List.find?_cons,show(kEn x).1 = .inr x.1 from rfl,se,decide_eq_false e];exact ih h'
theorem Ei{ks:List Kd}(h:(ks.map (·.1)).Nodup):c7 [] (ks.map kEn)=ks.map kEn:=by
 rw[ur]
 ·rfl
 ·rw[List.map_map]
  have:(ks.map ((fun x:Key×T=>x.1) ∘ kEn)) =(ks.map (·.1)).map Sum.inr:=by rw[List.map_map];rfl
  rw[this];exact List.pairwise_map.mpr (h.imp fun hne z=>hne (Sum.inr.inj z))
 ·intro p _ q hq;cases hq
theorem pM{ks:List Kd}{k:Str}(g:(ks.map (·.1)).Nodup)(h:k∈ks.map (·.1)):bL (c7 [] (ks.map kEn)) (.inr k)=some (tMs (A1 ks k)):=by rw[Ei g,DN h]
structure pY(ks:List Kd):Prop where
 k1:1<=ks.length
 k2:ks.length<=6
 nd:(ks.map (·.1)).Nodup
 mn:(names ks).Nodup
 ne:∀ k∈ks,k.2 ≠ []/\k.2.length<=6
 fl:∀ k∈ks,∀ m∈k.2,m.2.length<=4/\∀ f∈m.2,f∈ks.map (·.1)
def xr:PSp:=fun ts Q=>∃ ws:List Str,ts = [.cY,.l (ws.map .s)]/\ws.length=52/\ws.Nodup/\∀ ks,pY ks->Q (tKs ks)
theorem pW.IK{ws M:List Str}{many:Nat}{ks:List Kd}{made:Nat}(D:pW ws M many ks many made)(hw:ws.Nodup)(hM:M.Nodup)(h1:1<=many)(h2:many<=6)(hl:6<=ws.length):pY ks:=by
 have hlen:ks.length=many:=by
  have:=congrArg List.length D.nm
  rw[List.length_map,List.length_take]at this;omega
 refine⟨by omega,by omega,by rw[D.nm];exact hw.sublist (List.take_sublist _ _),by rw[D.mn];exact hM.sublist (List.take_sublist _ _),D.ne,fun k hk m hm=>?_⟩
 have z:=D.fl k hk m hm;rw[D.nm];exact z
theorem IW{ws:List Str}{t:Int}(h:ws.length=52)(h0:0<=t)(h1:t<52):fh (ws.map T.s) (some t) none++fh (ws.map T.s) none (some t) =(ws.drop t.toNat++ws.take t.toNat).map T.s:=by
 unfold fh;obtain⟨n,rfl⟩:∃ n:Nat,t=n:=⟨t.toNat,by omega⟩
 have e1:∀ d,HT.sIx (ws.map T.s).length d (some (n:Int))=n:=fun d=>by rw[List.length_map,h,HT.xb];omega
 rw[e1,e1];show(List.drop n (ws.map T.s)).take ((ws.map T.s).length - n)++(List.drop 0 (ws.map T.s)).take (n - 0)=_;rw[List.take_of_length_le (by rw[List.length_drop];omega),List.drop_zero,List.map_append,List.map_drop,List.map_take]
 rfl
theorem BQ{ws:List Str}{r:Int}(h0:0<=r)(h1:r.toNat<ws.length):atI (ws.map L2.T.s) r=some (.s ws[r.toNat]):=by
 have:=lu (ws:=ws) (j:=r.toNat) (w:=ws[r.toNat]) (by simp[h1])
 rwa [Int.toNat_of_nonneg h0]at this
abbrev Sc:=List (Str×Str)
def tP(p:Str×Str):T:=.t [.s p.1,.s p.2]
theorem gx(p:Str×Str):(tP p).im=true:=rfl
def Fills(sc:Sc)(ns fs:List Str):Prop:=ns.length=fs.length/\∀ p∈ns.zip fs,p∈sc
theorem Fills.snoc{sc:Sc}{ns fs:List Str}{n f:Str}(h:Fills sc ns fs)(hp:(n,f)∈sc):Fills sc (ns ++ [n]) (fs ++ [f]):=by
 refine⟨by simp[h.1],fun p hp'=>?_⟩
 rw[List.zip_append h.1]at hp';rcases List.mem_append.mp hp' with z|z
 ·exact h.2 p z
 ·simp at z;rw[z];exact hp
def mT:PSp:=fun ts Q=>∃(sc:Sc)(fs:List Str)(t:T),(t = .t (fs.map .s)\/t = .l (fs.map .s))/\ts = [.cY,.l (sc.map tP),t]/\sc.length<=60/\fs.length<=1000/\Q .n/\∀ ns:List Str,Fills sc ns fs->Q (.t (ns.map .s))
abbrev Hd:=Str×Sc×Str
def tH(h:Hd):T:=.t [.s h.1,.t (h.2.1.map tP),.s h.2.2]
theorem Iy(h:Hd):(tH h).im=true:=by
 show(true&&(T.ims (h.2.1.map tP)&&true))=true;rw[bh gx];rfl
def tW(ks:List Kd)(hs:List Hd)(ws:List Str):T:=.t [tKs ks,.l (hs.map tH),.l (ws.map .s)]
structure Wld(ks:List Kd)(hs:List Hd)(ws:List Str):Prop where
 gk:pY ks
 wl:ws.length=52
 wn:ws.Nodup
 h1:1<=hs.length
 h8:hs.length<=8
 hn:(hs.map (·.1)).Nodup
 hp:∀ h∈hs,h.2.1.length<=4/\(∀ p∈h.2.1,p.2∈ks.map (·.1))/\h.2.1.map (·.1)=ws.take h.2.1.length/\h.2.2∈ks.map (·.1)
structure nS(ks:List Kd)(ws:List Str)(h:Hd)(sc:Sc):Prop where
 nm:sc.map (·.1)=ws.take sc.length
 ln:sc.length<=40
 kd:∀ p∈sc,p.2∈ks.map (·.1)
 p1:h.2.1.length<=sc.length
 pf:sc.take h.2.1.length=h.2.1
abbrev Arm:=Str×List Str×T×Nat
def tA(a:Arm):T:=.t [.s a.1,.t (a.2.1.map .s),a.2.2.1]
inductive Snd(ks:List Kd)(hs:List Hd)(r:Str):Nat->Sc->T->Prop
 | give{sc:Sc}{x:Str}:(x,r)∈sc->Snd ks hs r 1 sc (.t [.s "give",.s x])
 | pR{n:Nat}{sc:Sc}{w:Str}{c:Int}{b:T}:(w = "pay" \/ w = "get")->Snd ks hs r n sc b->Snd ks hs r (n+1) sc (.t [.s w,.i c,b])
 | name{n:Nat}{sc:Sc}{x y k:Str}{b:T}:(y,k)∈sc->x ∉ sc.map (·.1)->Snd ks hs r n (sc ++ [(x,k)]) b->Snd ks hs r (n+1) sc (.t [.s "name",.s x,.s y,b])
 | make{n:Nat}{sc:Sc}{x:Str}{m:Mk1}{kd:Kd}{ns:List Str}{b:T}:kd∈ks->m∈kd.2->Fills sc ns m.2->x ∉ sc.map (·.1)->Snd ks hs r n (sc ++ [(x,kd.1)]) b->Snd ks hs r (n+1) sc (.t [.s "make",.s x,.s m.1,.t (ns.map .s),b])
 | call{n:Nat}{sc:Sc}{x:Str}{h:Hd}{ns:List Str}{b:T}:h∈hs->Fills sc ns (h.2.1.map (·.2))->x ∉ sc.map (·.1)->Snd ks hs r n (sc ++ [(x,h.2.2)]) b->Snd ks hs r (n+1) sc (.t [.s "call",.s x,.s h.1,.t (ns.map .s),b])
 | case{sc:Sc}{x:Str}{kd:Kd}(arms:List Arm):(x,kd.1)∈sc->kd∈ks->arms.map (·.1)=kd.2.map (·.1) ->
   (∀(i:Nat)(a:Arm)(m:Mk1),arms[i]? = some a->kd.2[i]? = some m->a.2.1.length=m.2.length/\(sc.map (·.1)++a.2.1).Nodup) ->
   (∀(i:Nat)(a:Arm)(m:Mk1),arms[i]? = some a->kd.2[i]? = some m->Snd ks hs r a.2.2.2 (sc++a.2.1.zip m.2) a.2.2.1) ->
   Snd ks hs r (1+(arms.map (·.2.2.2)).sum) sc (.t [.s "case",.s x,.t (arms.map tA)])
theorem Snd.im{ks:List Kd}{hs:List Hd}{r:Str}{n:Nat}{sc:Sc}{b:T}(h:Snd ks hs r n sc b):b.im=true:=by
 induction h with
 | give _=>rfl
 | pR _ _ ih=>show(true&&(true&&(T.im _&&true)))=true;rw[ih];rfl
 | name _ _ _ ih=>show(true&&(true&&(true&&(T.im _&&true))))=true;rw[ih];rfl
 | make _ _ _ _ _ ih=>show(true&&(true&&(true&&(T.ims _&&(T.im _&&true)))))=true;rw[ih,aA];rfl
 | call _ _ _ _ ih=>show(true&&(true&&(true&&(T.ims _&&(T.im _&&true)))))=true;rw[ih,aA];rfl
 | @case sc x kd arms _ _ hn _ _ ih =>
  show(true&&(true&&(T.ims (arms.map tA)&&true)))=true
  have:T.ims (arms.map tA)=true:=by
   have go:∀(l:List T),(∀ t∈l,t.im=true)->T.ims l=true:=by
    intro l
    induction l with
    | nil=>intro _;rfl
    | cons t r ih=>intro h;show(t.im&&T.ims r)=true;rw[h t List.mem_cons_self,ih fun t ht=>h t (List.mem_cons_of_mem _ ht)];rfl
   refine go _ fun t ht=>?_
   obtain⟨a,ha,rfl⟩:=List.mem_map.mp ht;obtain⟨i,hi,e⟩:=List.getElem_of_mem ha;have hl:kd.2.length=arms.length:=by have:=congrArg List.length hn;simpa using this.symm
   have z:=ih i a (kd.2[i]'(by omega)) (by rw[List.getElem?_eq_getElem hi,e]) (List.getElem?_eq_getElem _)
   show(true&&(T.ims (a.2.1.map .s)&&(a.2.2.1.im&&true)))=true;rw[z,aA];rfl
  rw[this];rfl
def tb:Nat->List Nat
 | 0=>[2]
 | n+1=>(1+max ((tb n).getD 0 2) (max ((tb n).getD 1 2) (max (2*(tb n).getD 2 2) (max (3*(tb n).getD 3 2) (max (4*(tb n).getD 4 2) (max (5*(tb n).getD 5 2) (6*(tb n).getD 6 2)))))))::tb n
def sz(n:Nat):Nat:=(tb n).getD 0 2
theorem gD:∀ n k:Nat,(tb n).getD k 2=sz (n - k)
 | 0,0=>rfl
 | 0,k+1=>by rw[Nat.zero_sub];rfl
 | n+1,0=>rfl
 | n+1,k+1=>by
  rw[Nat.add_sub_add_right,<- gD n k];rfl
theorem wX(n:Nat):sz (n+1)=1+max (sz n) (max (sz (n - 1)) (max (2*sz (n - 2)) (max (3*sz (n - 3)) (max (4*sz (n - 4)) (max (5*sz (n - 5)) (6*sz (n - 6))))))):=by
 show 1+max ((tb n).getD 0 2) _=_;rw[gD,gD,gD,gD,gD,gD,gD];rfl
theorem u6(n:Nat):1+sz n<=sz (n+1):=by rw[wX];omega
theorem zl:∀ n:Nat,2<=sz n
 | 0=>Nat.le_refl _
 | n+1=>by have:=u6 n;have:=zl n;omega
theorem Ca{n k:Nat}(h1:1<=k)(h6:k<=6):1+k*sz (n - k)<=sz (n+1):=by
 rw[wX]
 have:k=1\/k=2\/k=3\/k=4\/k=5\/k=6:=by omega
 rcases this with rfl|rfl|rfl|rfl|rfl|rfl <;> omega
theorem B9{n m:Nat}(h:n<=m):sz n<=sz m:=by
 induction h with
 | refl=>exact Nat.le_refl _
 | step _ ih=>exact Nat.le_trans ih (Nat.le_trans (Nat.le_add_left _ _) (u6 _))
theorem HB:sz 30<=50000:=by decide +kernel
theorem uu{ks:List Kd}{kd:Kd}(g:(ks.map (·.1)).Nodup)(h:kd∈ks):A1 ks kd.1=kd.2:=by
 unfold A1
 induction ks with
 | nil=>cases h
 | cons x r ih =>
  rw[List.map_cons,List.nodup_cons]at g;by_cases e:x.1=kd.1
  ·rcases List.mem_cons.mp h with z|z
   ·subst z;simp
   ·exact absurd (List.mem_map.mpr ⟨kd,z,e.symm⟩) g.1
  ·rw[List.find?_cons,decide_eq_false e];rcases List.mem_cons.mp h with z|z
   ·exact absurd (by rw[z]) e
   ·exact ih g.2 z
theorem Fh{ks:List Kd}{k:Str}(h:k∈ks.map (·.1)):∃ kd∈ks,kd.1=k:=by
 obtain⟨kd,h1,h2⟩:=List.mem_map.mp h;exact⟨kd,h1,h2⟩
theorem nS.fresh{ks:List Kd}{ws:List Str}{h:Hd}{sc:Sc}{x:Str}(S:nS ks ws h sc)(wn:ws.Nodup)(hx:ws[sc.length]? = some x):x ∉ sc.map (·.1):=by
 rw[S.nm];intro z;have q:=wn.sublist (List.take_sublist (sc.length+1) ws);rw[<- take_one hx]at q;exact(List.nodup_append.mp q).2.2 x z x (by simp) rfl
theorem nS.snoc{ks:List Kd}{ws:List Str}{h:Hd}{sc:Sc}{x k:Str}(S:nS ks ws h sc)(hx:ws[sc.length]? = some x)(hl:sc.length<40)(hk:k∈ks.map (·.1)):nS ks ws h (sc ++ [(x,k)]) where
 nm:=by rw[List.map_append,S.nm,List.length_append];exact take_one hx
 ln:=by rw[List.length_append];simp;omega
 kd:=fun p hp=>by
  rcases List.mem_append.mp hp with z|z
  ·exact S.kd p z
  ·rw[List.mem_singleton.mp z];exact hk
 p1:=by rw[List.length_append];have:=S.p1;omega
 pf:=by rw[List.take_append_of_le_length S.p1];exact S.pf
def jC:PSp:=fun ts Q=>∃(ks:List Kd)(hs:List Hd)(ws:List Str)(sc:Sc)(f:Nat)(h:Hd),ts = [.cY,tW ks hs ws,.l (sc.map tP),.i f]/\Wld ks hs ws/\hs[f]? = some h/\nS ks ws h sc/\∀ n b,n<=2->Snd ks hs h.2.2 n sc b->Q b
def gL(N:Nat):PSp:=fun ts Q=>∃(ks:List Kd)(hs:List Hd)(ws:List Str)(sc:Sc)(f:Nat)(h:Hd)(u:Int),ts = [.cY,tW ks hs ws,.l (sc.map tP),.i f,.rm u]/\Wld ks hs ws/\hs[f]? = some h/\nS ks ws h sc/\sc.length<=21/\u.toNat<N/\∀ n b,n<=sz u.toNat->Snd ks hs h.2.2 n sc b->Q b
def Gj(N:Nat):PSp:=fun ts Q=>∃(ks:List Kd)(hs:List Hd)(ws:List Str)(sc:Sc)(f:Nat)(h:Hd)(u:Int),ts = [.cY,tW ks hs ws,.l (sc.map tP),.i f,.rm u]/\Wld ks hs ws/\hs[f]? = some h/\nS ks ws h sc/\sc.length<=17/\sc ≠ []/\u.toNat<N/\∀ n b,n<=sz (u.toNat+1)->Snd ks hs h.2.2 n sc b->Q b
theorem BG{α:Type}{xs:List α}{n:Nat}(h:n<=xs.length):fh xs none (some (n:Int))=xs.take n:=by
 unfold fh;rw[HT.zK,HT.xb,Nat.min_eq_left h,List.drop_zero,Nat.sub_zero]
theorem Fills.self{sc:Sc}{n:Nat}:Fills sc ((sc.take n).map (·.1)) ((sc.take n).map (·.2)):=by
 refine⟨by simp,fun p hp=>?_⟩
 rw[List.zip_map',List.mem_map]at hp;obtain⟨q,hq,rfl⟩:=hp;exact List.mem_of_mem_take hq
theorem lP{ns fs:List Str}(h:ns.length=fs.length):(ns.zip fs).map (·.1)=ns:=by
 rw[List.map_fst_zip (by omega)]
theorem nS.more{ks:List Kd}{ws:List Str}{h:Hd}{sc:Sc}{ns fs:List Str}(S:nS ks ws h sc)(wn:ws.Nodup)(e:ns =(ws.drop sc.length).take fs.length)(hl:sc.length+fs.length<=40)(hw:40<=ws.length)(hk:∀ f∈fs,f∈ks.map (·.1)) :
  ns.length=fs.length/\(sc.map (·.1)++ns).Nodup/\nS ks ws h (sc++ns.zip fs):=by
 have l1:ns.length=fs.length:=by rw[e,List.length_take,List.length_drop];omega
 have e2:sc.map (·.1)++ns=ws.take (sc.length+fs.length):=by rw[S.nm,e,List.take_add]
 have lz:(ns.zip fs).length=fs.length:=by rw[List.length_zip];omega
 refine⟨l1,by rw[e2];exact wn.sublist (List.take_sublist _ _),⟨?_,?_,fun p hp=>?_,?_,?_⟩⟩
 ·rw[List.map_append,lP l1,e2,List.length_append,lz]
 ·rw[List.length_append,lz];omega
 ·rcases List.mem_append.mp hp with z|z
  ·exact S.kd p z
  ·exact hk p.2 (List.of_mem_zip z).2
 ·rw[List.length_append];have:=S.p1;omega
 ·rw[List.take_append_of_le_length S.p1];exact S.pf
theorem FH{arms:List Arm}{B:Nat}(h:∀ a∈arms,a.2.2.2<=B):(arms.map (·.2.2.2)).sum<=arms.length*B:=by
 induction arms with
 | nil=>simp
 | cons a r ih =>
  have h1:=h a List.mem_cons_self;have h2:=ih fun b hb=>h b (List.mem_cons_of_mem _ hb)
  rw[List.map_cons,List.sum_cons,List.length_cons,Nat.add_mul];omega
structure Fx(ks:List Kd)(hs:List Hd)(r:Str)(sc:Sc)(B:Nat)(a:Arm)(m:Mk1):Prop where
 nm:a.1=m.1
 ln:a.2.1.length=m.2.length
 nd:(sc.map (·.1)++a.2.1).Nodup
 sn:Snd ks hs r a.2.2.2 (sc++a.2.1.zip m.2) a.2.2.1
 sz:a.2.2.2<=B
structure uV(ks:List Kd)(hs:List Hd)(r:Str)(sc:Sc)(B:Nat)(arms:List Arm)(ms:List Mk1):Prop where
 ln:arms.length=ms.length
 ok:∀(i:Nat)(a:Arm)(m:Mk1),arms[i]? = some a->ms[i]? = some m->Fx ks hs r sc B a m
theorem uV.snoc{ks:List Kd}{hs:List Hd}{r:Str}{sc:Sc}{B:Nat}{arms:List Arm}{ms:List Mk1}{a:Arm}{m:Mk1}(h:uV ks hs r sc B arms ms)(ha:Fx ks hs r sc B a m):uV ks hs r sc B (arms ++ [a]) (ms ++ [m]):=by
 refine⟨by simp[h.ln],fun i a' m' h1 h2=>?_⟩
 by_cases hi:i<arms.length
 ·rw[List.getElem?_append_left hi]at h1;rw[List.getElem?_append_left (by rw[<- h.ln];exact hi)]at h2
  exact h.ok i a' m' h1 h2
 ·rw[List.getElem?_append_right (by omega)]at h1
  rw[List.getElem?_append_right (by rw[<- h.ln];omega),<- h.ln]at h2
  have hi0:i - arms.length=0:=by
   have:=(List.getElem?_eq_some_iff.mp h1).1
   simp at this;omega
  rw[hi0]at h1 h2;simp at h1 h2;subst h1 h2;exact ha
theorem uV.snd{ks:List Kd}{hs:List Hd}{r x:Str}{sc:Sc}{B:Nat}{arms:List Arm}{kd:Kd}(h:uV ks hs r sc B arms kd.2)(hx:(x,kd.1)∈sc)(hk:kd∈ks):Snd ks hs r (1+(arms.map (·.2.2.2)).sum) sc (.t [.s "case",.s x,.t (arms.map tA)])/\(arms.map (·.2.2.2)).sum<=arms.length*B:=by
 refine⟨.case arms hx hk ?_ (fun i a m h1 h2=>⟨(h.ok i a m h1 h2).ln,(h.ok i a m h1 h2).nd⟩) (fun i a m h1 h2=>(h.ok i a m h1 h2).sn),FH fun a ha=>?_⟩
 ·apply List.ext_getElem?
  intro i;rw[List.getElem?_map,List.getElem?_map];by_cases hi:i<arms.length
  ·have e1:=List.getElem?_eq_getElem hi;have e2:kd.2[i]? = some (kd.2[i]'(by rw[<- h.ln];exact hi)):=List.getElem?_eq_getElem _
   rw[e1,e2];exact congrArg some (h.ok i _ _ e1 e2).nm
  ·rw[List.getElem?_eq_none (by omega),List.getElem?_eq_none (by rw[<- h.ln];omega)]
   rfl
 ·obtain⟨i,hi,e⟩:=List.getElem_of_mem ha;exact(h.ok i a _ (by rw[List.getElem?_eq_getElem hi,e]) (List.getElem?_eq_getElem (by rw[<- h.ln];exact hi))).sz
theorem e7{α:Type}{xs:List α}{f:α->T}{r:Int}(h0:0<=r)(h1:r<xs.length):∃ x∈xs,atI (xs.map f) r=some (f x):=by
 have h:r.toNat<xs.length:=by omega
 refine⟨xs[r.toNat],List.getElem_mem h,?_⟩
 have:=sR (xs:=xs.map f) (j:=r.toNat) (v:=f xs[r.toNat]) (by rw[List.getElem?_map,List.getElem?_eq_getElem h];rfl)
 rwa [Int.toNat_of_nonneg h0]at this
theorem max_two{r r':Int}{n:Nat}(r0:0<=r)(r1:r<n)(r0':0<=r')(r1':r'<n):0 <=(if r' > r then r' else r)/\(if r' > r then r' else r)<n:=by split <;> omega
theorem tw{α β:Type}{A:List α}{B:List β}{j:Nat}{a:α}{b:β}(ha:A[j]? = some a)(hb:B[j]? = some b):(A.take (j+1)).zip (B.take (j+1)) =(A.take j).zip (B.take j) ++ [(a,b)]:=by
 have h1:=(List.getElem?_eq_some_iff.mp ha).1;have h2:=(List.getElem?_eq_some_iff.mp hb).1;rw[List.take_add_one,List.take_add_one,ha,hb,List.zip_append (by rw[List.length_take,List.length_take];omega)]
 rfl
theorem uV.im{ks:List Kd}{hs:List Hd}{r:Str}{sc:Sc}{B:Nat}{arms:List Arm}{ms:List Mk1}(h:uV ks hs r sc B arms ms):T.ims (arms.map tA)=true:=by
 have go:∀(l:List T),(∀ t∈l,t.im=true)->T.ims l=true:=by
  intro l
  induction l with
  | nil=>intro _;rfl
  | cons t r ih=>intro h;show(t.im&&T.ims r)=true;rw[h t List.mem_cons_self,ih fun t ht=>h t (List.mem_cons_of_mem _ ht)];rfl
 refine go _ fun t ht=>?_
 obtain⟨a,ha,rfl⟩:=List.mem_map.mp ht;obtain⟨i,hi,e⟩:=List.getElem_of_mem ha;have z:=(h.ok i a _ (by rw[List.getElem?_eq_getElem hi,e]) (List.getElem?_eq_getElem (by rw[<- h.ln];exact hi))).sn.im
 show(true&&(T.ims (a.2.1.map .s)&&(a.2.2.1.im&&true)))=true;rw[z,aA];rfl
abbrev Fn:=Hd×T×Nat
def tF(f:Fn):T:=.t [.s f.1.1,.t (f.1.2.1.map tP),.s f.1.2.2,f.2.1]
structure Prog(ks:List Kd)(fs:List Fn):Prop where
 gk:pY ks
 l8:fs.length<=8
 hn:(fs.map (·.1.1)).Nodup
 pk:∀ f∈fs,f.1.2.1.length<=4/\(∀ p∈f.1.2.1,p.2∈ks.map (·.1))/\(f.1.2.1.map (·.1)).Nodup/\f.1.2.2∈ks.map (·.1)
 sn:∀ f∈fs,Snd ks (fs.map (·.1)) f.1.2.2 f.2.2 f.1.2.1 f.2.1/\f.2.2<=50000
def yr:PSp:=fun ts Q=>∃ ws:List Str,ts = [.cY,.l (ws.map .s)]/\ws.length=52/\ws.Nodup/\∀ ks fs,Prog ks fs->Q (.t [tKs ks,.t (fs.map tF)])
structure pX(ks:List Kd)(ws:List Str)(t:Nat)(hs:List Hd)(i:Nat):Prop where
 ln:hs.length=i
 nm:hs.map (fun h=>some h.1) =(List.range i).map fun f=>ws[(t+f) % 52]?
 hp:∀ h∈hs,h.2.1.length<=4/\(∀ p∈h.2.1,p.2∈ks.map (·.1))/\h.2.1.map (·.1)=ws.take h.2.1.length/\h.2.2∈ks.map (·.1)
theorem pX.snoc{ks:List Kd}{ws:List Str}{t:Nat}{hs:List Hd}{i:Nat}{h:Hd}(H:pX ks ws t hs i)(hn:ws[(t+i) % 52]? = some h.1)(hp:h.2.1.length<=4/\(∀ p∈h.2.1,p.2∈ks.map (·.1))/\h.2.1.map (·.1)=ws.take h.2.1.length/\h.2.2∈ks.map (·.1)):pX ks ws t (hs ++ [h]) (i+1) where
 ln:=by simp[H.ln]
 nm:=by rw[List.map_append,H.nm,List.range_succ,List.map_append];simp[hn]
 hp:=fun h' hm=>by
  rcases List.mem_append.mp hm with z|z
  ·exact H.hp h' z
  ·rw[List.mem_singleton.mp z];exact hp
theorem pX.nd{ks:List Kd}{ws:List Str}{t:Nat}{hs:List Hd}{i:Nat}(H:pX ks ws t hs i)(hl:ws.length=52)(wn:ws.Nodup)(hi:i<=8):(hs.map (·.1)).Nodup:=by
 have e:(hs.map (·.1)).map some =(List.range i).map fun f=>ws[(t+f) % 52]?:=by rw[<- H.nm,List.map_map];rfl
 have n:((List.range i).map fun f=>ws[(t+f) % 52]?).Nodup:=by
  refine List.pairwise_map.mpr (List.Pairwise.imp_of_mem (fun{a b} ha hb hne z=>?_) (List.nodup_range (n:=i)))
  have ha:=List.mem_range.mp ha;have hb:=List.mem_range.mp hb;have l1:(t+a) % 52<ws.length:=by omega
  have l2:(t+b) % 52<ws.length:=by omega
  have e2:ws[(t+a) % 52]? = ws[(t+b) % 52]?:=z
  have:=(List.getElem?_inj l1 wn).mp e2
  omega
 rw[<- e]at n;exact(List.pairwise_map.mp n).imp fun hne z=>hne (by rw[z])
def en{α:Type}(g:α->T)(xs:List (Str×α)):List (Key×T):=xs.map fun p=>(.inr p.1,g p.2)
theorem gc{α:Type}{g:α->T}{xs:List (Str×α)}{x:Str}(h:x ∉ xs.map (·.1)):bL (en g xs) (.inr x)=none:=by
 unfold bL en;rw[Option.map_eq_none_iff,List.find?_eq_none];intro p hp;obtain⟨q,hq,rfl⟩:=List.mem_map.mp hp;simp only[se,decide_eq_true_eq];exact fun z=>h (List.mem_map.mpr ⟨q,hq,z⟩)
theorem eC{α:Type}{g:α->T}{xs:List (Str×α)}{x:Str}{v:α}(n:(xs.map (·.1)).Nodup)(h:(x,v)∈xs):bL (en g xs) (.inr x)=some (g v):=by
 induction xs with
 | nil=>cases h
 | cons p r ih =>
  rw[List.map_cons,List.nodup_cons]at n;unfold bL en;rw[List.map_cons,List.find?_cons,se];by_cases e:p.1=x
  ·rw[decide_eq_true e];rcases List.mem_cons.mp h with z|z
   ·rw[<- z];rfl
   ·exact absurd (List.mem_map.mpr ⟨(x,v),z,rfl⟩) (by rw[<- e];exact n.1)
  ·rw[decide_eq_false e];rcases List.mem_cons.mp h with z|z
   ·exact absurd (by rw[<- z]) e
   ·exact ih n.2 z
theorem jf{α:Type}{g:α->T}{xs:List (Str×α)}{x:Str}{v:α}(h:x ∉ xs.map (·.1)):lE (en g xs) (.inr x) (g v)=en g (xs ++ [(x,v)]):=by
 unfold lE;rw[if_neg]
 ·unfold en;rw[List.map_append];rfl
 ·intro z;obtain⟨q,hq,hz⟩:=List.any_eq_true.mp z;obtain⟨p,hp,rfl⟩:=List.mem_map.mp hq;exact h (List.mem_map.mpr ⟨p,hp,Sum.inr.inj (of_decide_eq_true hz)⟩)
theorem bQ{α:Type}{g:α->T}(hg:∀ v,(g v).im=true):∀ xs:List (Str×α),T.imk (en g xs)=true
 | []=>rfl
 | p::r=>by
  show((g p.2).im&&T.imk (en g r))=true;rw[hg,bQ hg r];rfl
theorem jg{α:Type}{g:α->T}{xs:List (Str×α)}:(en g xs).length=xs.length:=by unfold en;rw[List.length_map]
theorem D6{ks:List (Key×T)}{k:Key}{v:T}(h:T.imk ks=true)(hv:v.im=true):T.imk (lE ks k v)=true:=by
 unfold lE
 split
 ·rename_i z;clear z
  induction ks with
  | nil=>rfl
  | cons p r ih =>
   have h:(p.2.im&&T.imk r)=true:=h;rw[Bool.and_eq_true]at h;rw[List.map_cons]
   split
   ·show(v.im&&T.imk _)=true;rw[hv,ih h.2];rfl
   ·show(p.2.im&&T.imk _)=true;rw[h.1,ih h.2];rfl
 ·rename_i z;clear z
  induction ks with
  | nil=>show(v.im&&true)=true;rw[hv];rfl
  | cons p r ih =>
   have h:(p.2.im&&T.imk r)=true:=h;rw[Bool.and_eq_true]at h;show(p.2.im&&T.imk (r ++ [(k,v)]))=true;rw[h.1,ih h.2];rfl
def kG:PSp:=fun ts Q=>∃(m:T)(ks:List (Key×T))(x:Str),ts = [m,.s x]/\m.dof=some ks/\(bL ks (.inr x)).isSome=true/\Q .n
def gN:PSp:=fun ts Q=>∃(a:Addr)(ks:List (Key×T))(x:Str)(v:T),ts = [.dp a ks,.s x,v]/\bL ks (.inr x)=none/\T.imk ks=true/\v.im=true/\ks.length<sizeLine/\Q (.dp a (lE ks (.inr x) v))
def i5:PSp:=fun ts Q=>∃(m:T)(ks:List (Key×T))(x k:Str),ts = [m,.s x,.s k]/\m.dof=some ks/\bL ks (.inr x)=some (.s k)/\Q .n
structure GW(ks:List Kd):Prop where
 k2:ks.length<=6
 nd:(ks.map (·.1)).Nodup
 mn:(names ks).Nodup
 ne:∀ k∈ks,k.2.length<=6
 fl:∀ k∈ks,∀ m∈k.2,m.2.length<=4/\∀ f∈m.2,f∈ks.map (·.1)
theorem pY.w{ks:List Kd}(g:pY ks):GW ks:=⟨g.k2,g.nd,g.mn,fun k hk=>(g.ne k hk).2,g.fl⟩
abbrev Mw:=List Str×Str
def gM(v:Mw):T:=.t [.t (v.1.map .s),.s v.2]
theorem iT(v:Mw):(gM v).im=true:=by
 show(T.ims (v.1.map .s)&&(true&&true))=true;rw[aA];rfl
def mkL(ks:List Kd):List (Str×Mw):=ks.flatMap fun kd=>kd.2.map fun m=>(m.1,(m.2,kd.1))
def hsL(hs:List Hd):List (Str×Mw):=hs.map fun h=>(h.1,(h.2.1.map (·.2),h.2.2))
theorem pK(ks:List Kd):(mkL ks).map (·.1)=names ks:=by
 unfold mkL names;rw[List.map_flatMap]
 congr
 funext kd
 rw[List.map_map];rfl
theorem DK{ks:List Kd}{kd:Kd}{m:Mk1}(h1:kd∈ks)(h2:m∈kd.2):(m.1,(m.2,kd.1))∈mkL ks:=List.mem_flatMap.mpr ⟨kd,h1,List.mem_map.mpr ⟨m,h2,rfl⟩⟩
theorem pP(hs:List Hd):(hsL hs).map (·.1)=hs.map (·.1):=by unfold hsL;rw[List.map_map];rfl
theorem D8{hs:List Hd}{h:Hd}(h1:h∈hs):(h.1,(h.2.1.map (·.2),h.2.2))∈hsL hs:=List.mem_map.mpr ⟨h,h1,rfl⟩
theorem mB{α:Type}{xs:List α}{i:Nat}{x:α}(h:xs[i]? = some x):xs=xs.take i++x::xs.drop (i+1):=by
 obtain⟨hl,e⟩:=List.getElem?_eq_some_iff.mp h;rw[<- e,<- List.drop_eq_getElem_cons hl,List.take_append_drop]
def mkR(kd:Kd)(m:Mk1):Str×Mw:=(m.1,(m.2,kd.1))
theorem A2{ks:List Kd}{i:Nat}{kd:Kd}(h:ks[i]? = some kd):mkL (ks.take (i+1))=mkL (ks.take i)++kd.2.map (mkR kd):=by
 unfold mkL;rw[List.take_add_one,h,List.flatMap_append];simp[mkR]
theorem AZ{ks:List Kd}{i j:Nat}{kd:Kd}{m:Mk1}(g:(names ks).Nodup)(h1:ks[i]? = some kd)(h2:kd.2[j]? = some m):m.1 ∉ (mkL (ks.take i)++(kd.2.take j).map (mkR kd)).map (·.1):=by
 intro z;have e1:names ks =(mkL (ks.take i)++(kd.2.take j).map (mkR kd)).map (·.1)++(m.1 ::((kd.2.drop (j+1)).map (mkR kd)++mkL (ks.drop (i+1))).map (·.1)):=by
  have e2:mkL ks=mkL (ks.take i)++(kd.2.map (mkR kd)++mkL (ks.drop (i+1))):=by
   conv=>lhs;rw[mB h1]
   unfold mkL;rw[List.flatMap_append,List.flatMap_cons];rfl
  have e3:kd.2.map (mkR kd) =(kd.2.take j).map (mkR kd)++mkR kd m ::(kd.2.drop (j+1)).map (mkR kd):=by
   conv=>lhs;rw[mB h2]
   rw[List.map_append,List.map_cons]
  rw[<- pK,e2,e3];simp[mkR]
 rw[e1]at g;exact(List.nodup_append.mp g).2.2 m.1 z m.1 List.mem_cons_self rfl
theorem DL{ks:List Kd}(h6:ks.length<=6)(h:∀ k∈ks,k.2.length<=6):(mkL ks).length<=36:=by
 have go:∀ l:List Kd,(∀ k∈l,k.2.length<=6) ->(mkL l).length<=6*l.length:=by
  intro l
  induction l with
  | nil=>intro _;simp[mkL]
  | cons k r ih =>
   intro h
   have:=ih fun k hk=>h k (List.mem_cons_of_mem _ hk)
   have h1:=h k List.mem_cons_self;have e:(mkL (k::r)).length=k.2.length+(mkL r).length:=by unfold mkL;rw[List.flatMap_cons,List.length_append,List.length_map]
   rw[e,List.length_cons];omega
 have:=go ks h
 omega
theorem me{α:Type}{g:α->T}{xs:List (Str×α)}{x:Str}(n:(xs.map (·.1)).Nodup)(h:x∈xs.map (·.1)):(bL (en g xs) (.inr x)).isSome=true:=by
 obtain⟨p,hp,rfl⟩:=List.mem_map.mp h;rw[eC (v:=p.2) n hp];rfl
def jB:PSp:=fun ts Q=>∃(m:T)(ks:List Kd),ts = [m,tKs ks]/\m.dof=some (en tMs ks)/\GW ks/\Q (.d (en gM (mkL ks)))
def pI:PSp:=fun ts Q=>∃(fs:List Fn),ts = [.t (fs.map tF)]/\(∀ f∈fs,f.2.1.im=true/\f.1.2.1.length<=1000)/\fs.length<=8/\(fs.map (·.1.1)).Nodup/\Q (.d (en gM (hsL (fs.map (·.1)))))
def mQ:PSp:=fun ts Q=>∃(x b m:T)(ns fs:List Str)(sc:Sc),ts = [.t [x,.t (ns.map .s),b],.t (fs.map .s),m]/\x.im=true/\b.im=true/\(∃ o vs,m = .fd o vs (en T.s sc))/\ns.length=fs.length/\fs.length<=1000/\sc.length<=1000000/\(sc.map (·.1)++ns).Nodup/\Q (.d (en T.s (sc++ns.zip fs)))
theorem f7(v:Str):(T.s v).im=true:=rfl
theorem Bh{fs:List Fn}(h:∀ f∈fs,f.2.1.im=true):T.ims (fs.map tF)=true:=by
 induction fs with
 | nil=>rfl
 | cons f r ih =>
  show((true&&(T.ims (f.1.2.1.map tP)&&(true&&(f.2.1.im&&true))))&&T.ims (r.map tF))=true;rw[bh gx,h f List.mem_cons_self,ih fun f hf=>h f (List.mem_cons_of_mem _ hf)];rfl
theorem fresh_at{xs ys:List Str}{i:Nat}{y:Str}(n:(xs++ys).Nodup)(h:ys[i]? = some y):y ∉ xs++ys.take i:=by
 intro z;have e:xs++ys =(xs++ys.take i)++(y::ys.drop (i+1)):=by
  rw[List.append_assoc,<- mB h]
 rw[e]at n;exact(List.nodup_append.mp n).2.2 y z y List.mem_cons_self rfl
inductive Stp(ks:List Kd)(hs:List Hd):Sc->T->Sc->T->Prop
 | pR{sc:Sc}{w:Str}{c:Int}{b:T}:(w = "pay" \/ w = "get")->Stp ks hs sc (.t [.s w,.i c,b]) sc b
 | name{sc:Sc}{x y k:Str}{b:T}:(y,k)∈sc->x ∉ sc.map (·.1)->Stp ks hs sc (.t [.s "name",.s x,.s y,b]) (sc ++ [(x,k)]) b
 | make{sc:Sc}{x:Str}{m:Mk1}{kd:Kd}{ns:List Str}{b:T}:kd∈ks->m∈kd.2->Fills sc ns m.2->x ∉ sc.map (·.1)->Stp ks hs sc (.t [.s "make",.s x,.s m.1,.t (ns.map .s),b]) (sc ++ [(x,kd.1)]) b
 | call{sc:Sc}{x:Str}{h:Hd}{ns:List Str}{b:T}:h∈hs->Fills sc ns (h.2.1.map (·.2))->x ∉ sc.map (·.1)->Stp ks hs sc (.t [.s "call",.s x,.s h.1,.t (ns.map .s),b]) (sc ++ [(x,h.2.2)]) b
def pH:PSp:=fun ts Q=>∃(o:Obj)(vs:List (Key×V))(L:List (Str×Mw))(pw b:T)(x m k:Str)(ns fs:List Str)(p:Addr)(sc:Sc),ts = [.fd o vs (en gM L),.t [pw,.s x,.s m,.t (ns.map .s),b],.dp p (en T.s sc)]/\(L.map (·.1)).Nodup/\(m,(fs,k))∈L/\Fills sc ns fs/\(sc.map (·.1)).Nodup/\x ∉ sc.map (·.1)/\pw.im=true/\b.im=true/\sc.length<=1000000/\Q (.dp p (en T.s (sc ++ [(x,k)])))
def Kn(C:Addr)(kn:T)(ks:List Kd)(hs:List Hd):Prop:=∃ o1 v1 o2 v2 o3 v3,kn = .ob C ["kinds","makers","functions"] [.fd o1 v1 (en tMs ks),.fd o2 v2 (en gM (mkL ks)),.fd o3 v3 (en gM (hsL hs))]
def lb(C:Addr):PSp:=fun ts Q=>∃(kn:T)(ks:List Kd)(hs:List Hd)(pc b:T)(p:Addr)(sc sc':Sc),ts = [kn,pc,.dp p (en T.s sc)]/\Kn C kn ks hs/\GW ks/\(hs.map (·.1)).Nodup/\Stp ks hs sc pc sc' b/\b.im=true/\(sc.map (·.1)).Nodup/\sc.length<=1000000/\Q (.dp p (en T.s sc'))
theorem jL{n:Nat}(h:n<=1002000):n<sizeLine:=Nat.lt_of_le_of_lt h (by decide)
def yb(arms:List Arm)(ms:List Mk1)(o:Obj)(vs:List (Key×V))(sc:Sc):List T:=(arms.zip ms).map fun p=>.t [tA p.1,.t (p.2.2.map .s),.fd o vs (en T.s sc)]
def mS(C:Addr):PSp:=fun ts Q=>∃(kn:T)(ks:List Kd)(hs:List Hd)(x:Str)(kd:Kd)(arms:List Arm)(o:Obj)(vs:List (Key×V))(sc:Sc),ts = [kn,.t [.s "case",.s x,.t (arms.map tA)],.fd o vs (en T.s sc)]/\Kn C kn ks hs/\GW ks/\(x,kd.1)∈sc/\kd∈ks/\arms.map (·.1)=kd.2.map (·.1)/\(sc.map (·.1)).Nodup/\T.ims (arms.map tA)=true/\Q (.l (yb arms kd.2 o vs sc))
theorem Bw(ws:List Str):eqF (ws.map T.s) (ws.map T.s)=true:=Bx fun x hx=>by
 obtain⟨w,_,rfl⟩:=List.mem_map.mp hx;exact show(w==w)=true from beq_self_eq_true w
structure Wi where
 nm:Str
 ns:List Str
 fs:List Str
 b:T
 o:Obj
 vs:List (Key×V)
 sc:Sc
 n:Nat
def tWi(w:Wi):T:=.t [.t [.s w.nm,.t (w.ns.map .s),w.b],.t (w.fs.map .s),.fd w.o w.vs (en T.s w.sc)]
structure WOk(ks:List Kd)(hs:List Hd)(r:Str)(w:Wi):Prop where
 ln:w.ns.length=w.fs.length
 l4:w.fs.length<=4
 nd:(w.sc.map (·.1)++w.ns).Nodup
 sn:Snd ks hs r w.n (w.sc++w.ns.zip w.fs) w.b
 sz:w.sc.length+4*w.n+4<=300010
theorem Snd.pos{ks:List Kd}{hs:List Hd}{r:Str}{n:Nat}{sc:Sc}{b:T}(h:Snd ks hs r n sc b):1<=n:=by
 cases h <;> omega
theorem WOk.im{ks:List Kd}{hs:List Hd}{r:Str}{w:Wi}(h:WOk ks hs r w):(tWi w).im=true:=by
 show((true&&(T.ims (w.ns.map .s)&&(w.b.im&&true)))&&(T.ims (w.fs.map .s)&&(true&&true)))=true;rw[aA,aA,h.sn.im];rfl
def fw(ws:List Wi):Nat:=(ws.map (·.n)).sum
theorem y9{ks:List Kd}{hs:List Hd}{r:Str}{ws:List Wi}(h:∀ w∈ws,WOk ks hs r w):ws.length<=fw ws:=by
 induction ws with
 | nil=>exact Nat.le_refl _
 | cons w r' ih =>
  have h1:=(h w List.mem_cons_self).sn.pos;have h2:=ih fun w hw=>h w (List.mem_cons_of_mem _ hw)
  unfold fw at *;rw[List.map_cons,List.sum_cons,List.length_cons];omega
theorem tE(a b:List Wi):fw (a++b)=fw a+fw b:=by unfold fw;rw[List.map_append,List.sum_append]
theorem y8(a:List Wi):fw a.reverse=fw a:=by unfold fw;rw[List.map_reverse,List.sum_reverse]
theorem D5{ts:List T}(h:∀ t∈ts,t.im=true):T.ims ts=true:=by
 induction ts with
 | nil=>rfl
 | cons t r ih=>show(t.im&&T.ims r)=true;rw[h t List.mem_cons_self,ih fun t ht=>h t (List.mem_cons_of_mem _ ht)];rfl
theorem Bg{ks:List Kd}{hs:List Hd}{r:Str}{ws:List Wi}(h:∀ w∈ws,WOk ks hs r w):T.ims (ws.map tWi)=true:=D5 fun t ht=>by
 obtain⟨w,hw,rfl⟩:=List.mem_map.mp ht;exact(h w hw).im
def y7(o:Obj)(vs:List (Key×V))(sc:Sc)(p:Arm×Mk1):Wi:=⟨p.1.1,p.1.2.1,p.2.2,p.1.2.2.1,o,vs,sc,p.1.2.2.2⟩
theorem y4(arms:List Arm)(ms:List Mk1)(o:Obj)(vs:List (Key×V))(sc:Sc):yb arms ms o vs sc =((arms.zip ms).map (y7 o vs sc)).map tWi:=by
 unfold yb;rw[List.map_map];rfl
theorem ye{arms:List Arm}{ms:List Mk1}{o:Obj}{vs:List (Key×V)}{sc:Sc}(h:arms.length=ms.length):fw ((arms.zip ms).map (y7 o vs sc)) =(arms.map (·.2.2.2)).sum:=by
 unfold fw;rw[List.map_map]
 have:((fun w:Wi=>w.n) ∘ y7 o vs sc) =(fun a:Arm=>a.2.2.2) ∘ Prod.fst:=rfl
 rw[this,<- List.map_map,List.map_fst_zip (by omega)]
theorem GQ{l:List Nat}{x:Nat}(h:x∈l):x<=l.sum:=by
 induction l with
 | nil=>cases h
 | cons y r ih =>
  rw[List.sum_cons];rcases List.mem_cons.mp h with e|e
  ·omega
  ·have:=ih e;omega
theorem EH{ks:List Kd}{hs:List Hd}{r:Str}{sc:Sc}{kd:Kd}{arms:List Arm}{o:Obj}{vs:List (Key×V)}(G:GW ks)(hkd:kd∈ks)(hnm:arms.map (·.1)=kd.2.map (·.1))
  (h1:∀(i:Nat)(a:Arm)(m:Mk1),arms[i]? = some a->kd.2[i]? = some m->a.2.1.length=m.2.length/\(sc.map (·.1)++a.2.1).Nodup)
  (h2:∀(i:Nat)(a:Arm)(m:Mk1),arms[i]? = some a->kd.2[i]? = some m->Snd ks hs r a.2.2.2 (sc++a.2.1.zip m.2) a.2.2.1) (hsz:sc.length+4*(1+(arms.map (·.2.2.2)).sum)<=300010) :
  ∀ w∈(arms.zip kd.2).map (y7 o vs sc),WOk ks hs r w:=by
 intro w hw;obtain⟨p,hp,rfl⟩:=List.mem_map.mp hw;obtain⟨i,hi⟩:=List.getElem?_of_mem hp;obtain⟨ha,hm⟩:=List.getElem?_zip_eq_some.mp hi;obtain⟨q1,q2⟩:=h1 i p.1 p.2 ha hm;have hle:p.1.2.2.2 <=(arms.map (·.2.2.2)).sum:=GQ (List.mem_map.mpr ⟨p.1,List.mem_of_getElem? ha,rfl⟩);exact⟨q1,(G.fl kd hkd p.2 (List.mem_of_getElem? hm)).1,q2,h2 i p.1 p.2 ha hm,by show sc.length+4*p.1.2.2.2+4<=300010;omega⟩
def mR(C:Addr):PSp:=fun ts Q=>∃(kn:T)(ks:List Kd)(hs:List Hd)(f:Fn)(o:Obj)(vs:List (Key×V)),ts = [kn,tF f,.fd o vs (en T.s f.1.2.1)]/\Kn C kn ks hs/\GW ks/\(hs.map (·.1)).Nodup/\Snd ks hs f.1.2.2 f.2.2 f.1.2.1 f.2.1/\f.2.2<=50000/\(f.1.2.1.map (·.1)).Nodup/\f.1.2.1.length<=4/\Q .n
theorem Kn.im{C:Addr}{kn:T}{ks:List Kd}{hs:List Hd}(h:Kn C kn ks hs):kn.im=true:=by obtain⟨_,_,_,_,_,_,rfl⟩:=h;rfl
theorem rL{sc:Sc}{x k:Str}(h:(sc.map (·.1)).Nodup)(hx:x ∉ sc.map (·.1)):((sc ++ [(x,k)]).map (·.1)).Nodup:=by
 rw[List.map_append];refine List.nodup_append.mpr ⟨h,by simp,fun a ha b hb e=>?_⟩
 simp at hb;rw[e,hb]at ha;exact hx ha
structure Je(ks:List Kd)(hs:List Hd)(r:Str)(n:Nat)(sc:Sc)(xs:List T)(w:Str)(b:T)(sc':Sc)(n':Nat):Prop where
 h0:atI xs 0=some (.s w)
 hl:atI xs (-1)=some b
 w1:w ≠ "give"
 w2:w ≠ "case"
 st:Stp ks hs sc (.t xs) sc' b
 sn:Snd ks hs r n' sc' b
 nn:n=n'+1
 nd:(sc'.map (·.1)).Nodup
 ln:sc'.length<=sc.length+1
theorem Snd.view{ks:List Kd}{hs:List Hd}{r:Str}{n:Nat}{sc:Sc}{pc:T}(h:Snd ks hs r n sc pc)(hn:(sc.map (·.1)).Nodup) :
  (∃ x,pc = .t [.s "give",.s x]/\(x,r)∈sc) \/
  (∃(x:Str)(kd:Kd)(arms:List Arm),pc = .t [.s "case",.s x,.t (arms.map tA)]/\(x,kd.1)∈sc/\kd∈ks/\arms.map (·.1)=kd.2.map (·.1)/\n=1+(arms.map (·.2.2.2)).sum /\
   (∀(i:Nat)(a:Arm)(m:Mk1),arms[i]? = some a->kd.2[i]? = some m->a.2.1.length=m.2.length/\(sc.map (·.1)++a.2.1).Nodup) /\
   (∀(i:Nat)(a:Arm)(m:Mk1),arms[i]? = some a->kd.2[i]? = some m->Snd ks hs r a.2.2.2 (sc++a.2.1.zip m.2) a.2.2.1)) \/
  ∃(xs:List T)(w:Str)(b:T)(sc':Sc)(n':Nat),pc = .t xs/\Je ks hs r n sc xs w b sc' n':=by
 cases h with
 | give hx=>exact .inl ⟨_,rfl,hx⟩
 | pR hw hb =>
  refine .inr (.inr ⟨_,_,_,_,_,rfl,rfl,rfl,?_,?_,.pR hw,hb,rfl,hn,Nat.le_succ _⟩)
  ·rcases hw with rfl|rfl <;> decide +kernel
  ·rcases hw with rfl|rfl <;> decide +kernel
 | name hy hx hb=>exact .inr (.inr ⟨_,_,_,_,_,rfl,rfl,rfl,by decide +kernel,by decide +kernel,.name hy hx,hb,rfl,rL hn hx,by simp⟩)
 | make hkd hm hF hx hb=>exact .inr (.inr ⟨_,_,_,_,_,rfl,rfl,rfl,by decide +kernel,by decide +kernel,.make hkd hm hF hx,hb,rfl,rL hn hx,by simp⟩)
 | call hh hF hx hb=>exact .inr (.inr ⟨_,_,_,_,_,rfl,rfl,rfl,by decide +kernel,by decide +kernel,.call hh hF hx,hb,rfl,rL hn hx,by simp⟩)
 | case arms hx hkd hnm h1 h2=>exact .inr (.inl ⟨_,_,arms,rfl,hx,hkd,hnm,rfl,h1,h2⟩)
theorem ne_str{w z:Str}(h:w≠z):(!decide (V.str w=V.str z))=true:=by rw[decide_eq_false fun e=>h (V.str.inj e)];rfl
def gK(C:Addr):PSp:=fun ts Q=>∃(kn:T)(ks:List Kd)(hs:List Hd)(f:Fn),ts = [kn,tF f]/\Kn C kn ks hs/\GW ks/\(hs.map (·.1)).Nodup/\Snd ks hs f.1.2.2 f.2.2 f.1.2.1 f.2.1/\f.2.2<=50000/\(f.1.2.1.map (·.1)).Nodup/\f.1.2.1.length<=4/\(∀ p∈f.1.2.1,p.2∈ks.map (·.1))/\f.1.2.2∈ks.map (·.1)/\Q .n
structure BY(ks:List Kd)(fs:List Fn):Prop where
 gk:GW ks
 l8:fs.length<=8
 hn:(fs.map (·.1.1)).Nodup
 pk:∀ f∈fs,f.1.2.1.length<=4/\(∀ p∈f.1.2.1,p.2∈ks.map (·.1))/\(f.1.2.1.map (·.1)).Nodup/\f.1.2.2∈ks.map (·.1)
 sn:∀ f∈fs,Snd ks (fs.map (·.1)) f.1.2.2 f.2.2 f.1.2.1 f.2.1/\f.2.2<=50000
theorem Prog.w{ks:List Kd}{fs:List Fn}(p:Prog ks fs):BY ks fs:=⟨p.gk.w,p.l8,p.hn,p.pk,p.sn⟩
theorem GW.prog{ks:List Kd}(g:GW ks):BY ks []:=⟨g,Nat.zero_le _,List.nodup_nil,(fun _ z=>nomatch z),(fun _ z=>nomatch z)⟩
theorem GW.nil:GW []:=⟨Nat.zero_le _,List.nodup_nil,List.nodup_nil,(fun _ z=>nomatch z),(fun _ z=>nomatch z)⟩
def Gi:PSp:=fun ts Q=>∃(ks:List Kd)(fs:List Fn),ts = [.t [tKs ks,.t (fs.map tF)]]/\BY ks fs/\Q (.b true)
theorem IA{fs:List Fn}(h:(fs.map (·.1.1)).Nodup):((fs.map (·.1)).map (·.1)).Nodup:=by rw[List.map_map];exact h
section
variable{P:Program}{w:World}{K:W.Frag}{mg:Str->Option Value}{base:Heap}{a:Adr}
theorem fW(T:Txt K mg a):aH P w K mg base CX0 1 a.cE a.ff ["_law_deal_here","_law_many"] zm:=by
 refine T.aJ.ok lV (fun vs H Q E h=>?_) (fun cdv A outer s H vs Q E hr h=>?_)
 ·obtain⟨d,l,m,rfl,_⟩:=h;rfl
 ·obtain⟨d,l,m,rfl,⟨s0,n0,ls0,D0⟩,m0,m1,k⟩:=h;have hu:=cv hr;refine⟨_,((bK (t5 PassesOwn.never (PW.pt (Ai (jA Ff (fT hu (pv 0) cD (fun _ _=>rfl)) br (aI _)) (xm (jA AG (mY j7 (by rfl) T.cw PySem.boot_len (ck (fT hu (pv 0) cD (fun _ _=>rfl)) fU)) br (aI _)))))
 (fS (ma hu (pv 0) cD (Az PySem.F.plainAttrs_list PySem.F.slot_list_pop PySem.F.type_list_pop AY (fT hu (pv 0) cD (fun _ _=>rfl))) rfl)))
 (bK (gJ (i:=2) lV.nd rfl (Or.inl rfl) (fT hu (pv 0) cD (fun _ _=>rfl)))
 (bK (Fe (jA AG (pv 2) br (aI _))
 (bK (ma hu (pv 0) cD (cj uf (pv 2) (pv 1)) rfl)
 (fS (mP (cj fV (pv 2) (pv 1)))))
 xp)
 (bK (gJ (i:=3) lV.nd rfl (Or.inl rfl) (cj fV (cj kI (cj i7 (fT hu (pv 0) cD (fun _ _=>rfl)) br) br) br))
 (bK (ma hu (pv 0) cD (cj fV (cj kI (cj i7 (pv 3) br) br) br) rfl)
 (bK (gJ (i:=4) lV.nd rfl (Or.inl rfl) (cj fV (cj i7 (fT hu (pv 0) cD (fun _ _=>rfl)) (fT hu (pv 0) cD (fun _ _=>rfl))) br))
 (fS (mP (cj fV (cj kI (cj i7 (cj fV (cj i7 (pv 3) (pv 3)) br) br) (pv 4)) (pv 1))))))))))),?_⟩
  refine yd (fun c σ H1=>∃ s n ls,σ = [some (.ref d),some (.int m),none,none,none]/\cm H1 d l s n ls/\Kp d l H H1/\c=ls.length) ⟨s0,n0,ls0,rfl,D0,Kp.refl,rfl⟩ ?_ ?_
  ·rintro c σ H1 ⟨s1,n1,ls,rfl,D,K1,rfl⟩
   refine⟨_,rfl,d,_,rfl,D.IL,?_⟩;refine⟨_,rfl,_,_,rfl,rfl,_,rfl,?_⟩;refine bu (fun h1=>?_) (fun h1=>?_)
   ·have h1:0<n1:=of_decide_eq_true h1;have q0:0<=n1 / m:=Int.ediv_nonneg (by omega) (by omega)
    refine⟨_,rfl,_,rfl,_,_,rfl,rfl,⟨m0,m1⟩,_,rfl,d,_,rfl,D.Ig,?_⟩;refine⟨_,rfl,_,rfl,_,_,rfl,rfl,m0,?_⟩;exact k _ _ (mod_lt m0).1 (mod_lt m0).2 ⟨_,_,_,D.num q0⟩ K1.Fy
   ·have b1:=mod_lt (x:=s1*48271+7919) (m:=2147483647) (by decide)
    refine⟨_,rfl,d,_,rfl,D.Bq,_,_,rfl,rfl,.inr ⟨by decide,by decide⟩,_,_,rfl,rfl,_,_,rfl,rfl,(by show(0:Int)<2147483647;decide),?_⟩
    have b2:=mod_lt (x:=(s1*48271+7919) % 2147483647*40692+104729) (m:=2147483399) (by decide)
    refine⟨_,rfl,_,_,rfl,rfl,.inr ⟨by decide,by decide⟩,_,_,rfl,rfl,_,_,rfl,rfl,(by show(0:Int)<2147483399;decide),_,rfl,d,_,rfl,D.Ie,?_⟩
    have D2:=D.Jn (m:=((s1*48271+7919) % 2147483647*40692+104729) % 2147483399) b2.1 (by omega)
    refine⟨_,rfl,d,_,rfl,D2.Bq,_,rfl,d,_,rfl,D2.Bq,_,_,rfl,rfl,.inl ⟨by omega,by omega⟩,_,_,rfl,rfl,(by show(0:Int)<2147483563;decide),?_⟩
    have b4:=mod_lt (x:=(s1*48271+7919) % 2147483647*((s1*48271+7919) % 2147483647)) (m:=2147483629) (by decide)
    refine⟨_,rfl,_,rfl,_,_,rfl,rfl,.inl ⟨by omega,by omega⟩,_,_,rfl,rfl,(by show(0:Int)<2147483629;decide),_,_,rfl,rfl,.inr ⟨by decide,by decide⟩,_,rfl,_,_,rfl,rfl,_,rfl,_,_,rfl,rfl,m0,?_⟩
    exact k _ _ (mod_lt m0).1 (mod_lt m0).2 ⟨_,_,_,D2⟩ K1.Fy
  ·rintro c σ H1 ⟨s1,n1,ls,rfl,D,K1,rfl⟩ hx
   refine⟨_,rfl,d,_,rfl,D.IL,rfl,_,rfl,?_⟩;refine bu (fun h1=>?_) (fun h1=>hx)
   refine⟨_,rfl,d,_,rfl,D.Fl,l,_,rfl,.inl (SqL.of D.hl),_,_,rfl,rfl,_,rfl,?_⟩;refine bu (fun h2=>?_) (fun h2=>hx)
   have h2:(0:Int)<((ls.map V.int).length:Int):=of_decide_eq_true h2;rcases List.eq_nil_or_concat ls with rfl |⟨ls',x,rfl⟩
   ·simp at h2
   ·have hl':H1 l=some (.lst (ls'.map V.int ++ [.int x])):=by simpa using D.hl
    refine⟨fun σ' H'=>∃ s n ls2,σ' = [some (.ref d),some (.int m),none,none,none]/\cm H' d l s n ls2/\Kp d l H H'/\ls2.length<(ls' ++ [x]).length,fun σ' H' ⟨s2,n2,ls2,e,D2,K2,h⟩=>⟨ls2.length,by simpa using h,s2,n2,ls2,e,D2,K2,rfl⟩,?_⟩
    have x0:0<=x:=D.l0 x (by simp)
    have D2:=D.list (ls':=ls') fun y hy=>D.l0 y (by simp[hy])
    refine⟨_,rfl,d,_,rfl,D.Fl,.inl ⟨rfl,_,SqL.of hl'⟩,l,_,.int x,rfl,rfl,hl',(by simp),?_⟩
    rw[List.dropLast_concat];refine⟨_,rfl,d,_,rfl,D2.Ig,?_⟩;exact⟨_,_,ls',rfl,D2.num x0,(K1.Jk).Fy,by simp⟩
theorem Dk(T:Txt K mg a):aH P w K mg base CX0 1 a.gb a.sC ["_law_script","_law_base"] (zo K):=by
 refine T.nY.ok jv (fun vs H Q E h=>?_) (fun cdv A outer s H vs Q E hr h=>?_)
 ·obtain⟨a,ns,b,rfl,_⟩:=h;rfl
 ·obtain⟨p0,ns,b,rfl,hS,hlen,b0,b1,k⟩:=h;have hu:=cv hr;refine⟨_,((bK (xq (i:=2) jv.nd rfl (Or.inl rfl) rfl (md (t9 wZ (pv 0) (qW (pv 1)) (qW br))) (N':=["_law_cell"]) (.own rfl .nil) (fun _ _ _ _ _=>⟨(ar (i:=0) (show(["_law_cell"]:List Str).Nodup from by decide +kernel) rfl (Or.inl rfl)),xo,(mY (kX rfl) (by rfl) T.BP (by kernel_rfl) (ck (pv 0) (ck (cj AE br (pv 0)) fU)))⟩))
 (bK (gJ (i:=3) jv.nd rfl (Or.inl rfl) (cj kI br (pv 1)))
 (bK (Am PassesOwn.never rfl (md (pv 2)) (ar (i:=4) jv.nd rfl (Or.inl rfl))
 (fS (gJ (i:=3) jv.nd rfl (Or.inl rfl) (cj fV (cj kI (cj i7 (pv 3) br) (cj fV (pv 4) br)) br))))
 (fS (mP (Dc (mU cD (pv 3) (mU cD br (mU cD (mX rfl rfl T.wA rfl T.nQ (xv rfl (md (pv 2)) (N':=["_law_cell"]) (.own rfl .nil) (fun _ _ _ _ _=>⟨(ar (i:=0) (show(["_law_cell"]:List Str).Nodup from by decide +kernel) rfl (Or.inl rfl)),(xn (jA Il (pv 0) (cj Gu br br) (aI _))),(pv 0)⟩))) CV))) rfl rfl (by intro z;cases z) (by decide)))))))),?_⟩
  obtain⟨cs,ecs,lcs⟩:=BH ns (some b) (some 63);refine⟨_,rfl,_,rfl,_,rfl,_,rfl,p0,_,rfl,hS,fun p hp=>⟨p,rfl,⟨_,SqL.of au⟩,?_⟩⟩
  rw[ecs];have s1:jm H (upd H p (.lst (cs.map V.int))):=(jm.refl H).new hp;refine pQ (K:=K) (a:=p) (xs:=cs.map V.int) (fun i ys σ' H'=>∃ zs:List Int,ys=zs.map V.int/\(∀ z∈zs,0<=z)/\zs.length=i/\(∃ o,σ' = [o])/\H'=upd H p (.lst (cs.map V.int))) ⟨[],rfl,by simp,rfl,⟨_,rfl⟩,rfl⟩ ?_ ?_ ?_
  ·rintro i ys σ' H' hi ⟨zs,rfl,_,hz,_,rfl⟩
   refine⟨SqL.of au,?_⟩;rw[List.length_map]at hi ⊢;exact aB (by omega)
  ·rintro i x ys σ' H' hi ⟨zs,rfl,z0,hz,⟨o,rfl⟩,rfl⟩
   obtain⟨c,rfl⟩:=int_at hi;refine Ed ?_;refine⟨_,rfl,_,rfl,_,_,rfl,rfl,_,_,rfl,?_⟩;refine⟨zs ++ [if 0 - c > c then 0 - c else c],by simp,?_,by simp[hz],⟨_,rfl⟩,rfl⟩
   intro z hz';rcases List.mem_append.mp hz' with h|h
   ·exact z0 z h
   ·rw[List.mem_singleton.mp h]
    split <;> omega
  ·rintro ys σ' H' ⟨zs,rfl,z0,hz,_,rfl⟩ D hD
   have s2:jm H (upd (upd H p (.lst (cs.map V.int))) D (.lst (zs.map V.int))):=s1.new hD;have hcD:(upd (upd H p (.lst (cs.map V.int))) D (.lst (zs.map V.int))) D=some (.lst (zs.map V.int)):=au
   generalize upd (upd H p (.lst (cs.map V.int))) D (.lst (zs.map V.int))=H2 at s2 hcD ⊢
   refine⟨_,rfl,_,_,rfl,rfl,?_⟩;refine⟨_,rfl,D,rfl,⟨_,SqL.of hcD⟩,Bu (K:=K) (a:=D) (xs:=zs.map V.int) (fun i σ' H'=>∃(n:Int)(o:Option V),σ' = [some (.ref p0),some (.int b),some (.ref D),some (.int n),o]/\0<=n/\n<2147483647/\H2=H')
    ⟨_,_,rfl,by omega,by omega,rfl⟩ (fun i σ' H' _ ⟨_,_,_,_,_,e⟩=>by rw[<- e];exact SqL.of hcD) ?_ ?_⟩
   ·rintro i y σ' H' hi ⟨n,o,rfl,n0,n1,rfl⟩
    obtain⟨z,rfl⟩:=int_at hi;refine⟨_,rfl,_,_,rfl,rfl,.inr ⟨by decide,by decide⟩,_,rfl,_,_,rfl,rfl,(by show(0:Int)<2147483629;decide),_,_,rfl,rfl,_,_,rfl,rfl,(by show(0:Int)<2147483647;decide),?_⟩
    exact⟨_,_,rfl,(mod_lt (by decide)).1,(mod_lt (by decide)).2,rfl⟩
   ·rintro σ' H' ⟨n,o,rfl,n0,n1',rfl⟩
    intro pd hpd;have He:(upd H2 pd (.dK [])) D=some (.lst (zs.map V.int)):=by rw[aj (aM hcD hpd)];exact hcD
    have s3:jm H (upd H2 pd (.dK [])):=s2.new hpd;have G8:(upd H2 pd (.dK [])) pd=some (.dK []):=au;have fpd:H pd=none:=s2.free hpd
    generalize upd H2 pd (.dK [])=H3 at He s3 G8 ⊢
    refine⟨_,rfl,_,rfl,D,rfl,⟨_,SqL.of He⟩,pQ (K:=K) (a:=D) (xs:=zs.map V.int) (fun i ys σ' H'=>∃ ws:List Int,ys=ws.map V.int/\(∀ z∈ws,0<=z)/\ws.length<=i/\(∃ o,σ' = [o])/\H3=H') ⟨[],rfl,by simp,Nat.le_refl _,⟨_,rfl⟩,rfl⟩ ?_ ?_ ?_⟩
    ·rintro i ys σ' H' hi ⟨ws,rfl,_,hz',_,rfl⟩
     refine⟨SqL.of He,?_⟩;rw[List.length_map]at hi ⊢;rw[List.length_map]at hz;exact aB (by omega)
    ·rintro i x ys σ' H' hi ⟨ws,rfl,w0,hz',⟨o,rfl⟩,rfl⟩
     obtain⟨c,rfl,hc⟩:=D3 hi;refine⟨_,rfl,_,_,rfl,rfl,⟨by decide,by decide,by decide⟩,_,_,rfl,rfl,_,rfl,?_⟩
     refine bu (fun h1=>?_) (fun h1=>?_)
     ·refine⟨_,rfl,ws ++ [c],by simp,?_,by simp;omega,⟨_,rfl⟩,rfl⟩
      intro z hz';rcases List.mem_append.mp hz' with h|h
      ·exact w0 z h
      ·rw[List.mem_singleton.mp h];exact z0 c hc
     ·exact⟨ws,rfl,w0,by omega,⟨_,rfl⟩,rfl⟩
    ·rintro ys σ' H' ⟨ws,rfl,w0,hz',_,rfl⟩ D2 hD2
     refine⟨D2,_,rfl,SqL.of au,fun q hq=>?_⟩
     have n1:pd≠D2:=aM G8 hD2;have e1:(upd H3 D2 (.lst (ws.map V.int))) pd=some (.dK []):=by rw[aj n1];exact G8
     have n2:pd≠q:=aM e1 hq;have s4:jm H (upd (upd H3 D2 (.lst (ws.map V.int))) q (.lst ((ws.map V.int).reverse))):=(s3.new hD2).new hq;refine⟨by rw[aj n2];exact e1,[(.inr "seed",.int n),(.inr "number",.int 0),(.inr "left",.ref q)],rfl,(by show 3<=15;decide),?_⟩
     rw[show dE [] [((.inr "seed":Key),V.int n),(.inr "number",.int 0),(.inr "left",.ref q)]=dk n 0 q from by kernel_rfl]
     refine k pd q _ fpd ((s3.new hD2).free hq) ⟨n,0,ws.reverse,au,?_,n0,n1',Int.le_refl _,?_⟩ ?_
     ·rw[aj n2.symm,au,List.map_reverse]
     ·intro x hx;exact w0 x (by simpa using hx)
     ·intro c o hc
      have:c≠pd:=aM hc fpd
      rw[aj this];exact s4 c o hc
theorem AH(T:Txt K mg a):aH P w K mg base CX0 2 a.eB a.sA ["_law_deal_here","_law_many"] (spQ K CU):=by
 have aG:aH P w K mg base CX0 1 a.cE a.ff ["_law_deal_here","_law_many"] (spQ K c6):=jh (fW T);refine T.kg.okQ bY (fun ts Q h=>?_) (fun cdv A outer s H E hr=>?_)
 ·obtain⟨m,rfl,_⟩:=h;rfl
 ·have hu:=cv hr;refine⟨_,_,((ag (ay (i:=2) bY.nd rfl (Or.inr rfl) bR)
 (ag (ay (i:=3) bY.nd rfl (Or.inl rfl) (CO (QPF.w bR) (QPF.w (ez rfl (kF rfl T.gg (ae (QPF.w (ao aG (hr.mono (by first|decide|omega)) rfl T.aU T.aJ.kp T.aN (ae (qv 0) (ae (QPF.w ai) (ax.w af))))) (ax.w af))) (N':=["_law_k","_law_letters","_law_deal_here"]) (.own rfl (.got (i:=2) rfl rfl (.inl rfl) (.got (i:=0) rfl rfl (.inl rfl) .nil))) (dZ (g:=(Tg.nm 0)) (fun _ _ _ _ _=>⟨(ar (i:=0) (show(["_law_k","_law_letters","_law_deal_here"]:List Str).Nodup from by decide +kernel) rfl (Or.inl rfl)),(QPE.f (az (qv 1) (QPF.w (ao aG (hr.mono (by first|decide|omega)) rfl T.aU T.aJ.kp T.aN (ae (qv 2) (ae (QPF.w ai) (ax.w af)))))))⟩))))))
 (ag (ay (i:=4) bY.nd rfl (Or.inl rfl) (ao aG (hr.mono (by first|decide|omega)) rfl T.aU T.aJ.kp T.aN (ae (qv 0) (ae (QPF.w (bT (QPF.w (aT (aL rfl) bf (by rfl) T.cw (by kernel_rfl) (ae (qv 3) (ax.w af)))) (QPF.w ai))) (ax.w af)))))
 (ag (ay (i:=5) bY.nd rfl (Or.inl rfl) (ao aG (hr.mono (by first|decide|omega)) rfl T.aU T.aJ.kp T.aN (ae (qv 0) (ae (QPF.w ai) (ax.w af)))))
 (ag (ay (i:=6) bY.nd rfl (Or.inl rfl) (bo af))
 (ag (cb (g:=(Tg.nm 7)) PassesOwn.never rfl (iH rfl T.gg (ae (qv 1) (ax.w af))) (ar (i:=7) bY.nd rfl (Or.inl rfl))
 (ag (ay (i:=8) bY.nd rfl (Or.inl rfl) (QPE.f (az (qv 2) (QPF.w (vj (QPF.w (bT (qv 5) (QPF.w (vi (QPF.w ai) (qv 7))))) (QPF.w ai))))))
 (ag (ay (i:=9) bY.nd rfl (Or.inl rfl) (bT (QPF.w (bT (QPF.w (bT (QPF.w (bT (QPF.w (gH (qv 3) jy (jx (qv 4)))) (qv 8))) (QPF.w (gH (qv 3) (jx (qv 4)) jy)))) (QPF.w (vi (QPF.w bR) (QPF.w (vj (qv 7) (QPF.w ai))))))) (QPF.w (vi (QPF.w bR) (QPF.w (CQ (qv 7) (QPF.w ai)))))))
 (ag (cg (aQ (Gy rfl) zC rfl (qv 9) (QPF.w (aS (qR (by rfl)))))
 (aq (ay (i:=9) bY.nd rfl (Or.inl rfl) (bT (qv 9) (QPF.w bR))))
 bg)
 (aq (c5 (i:=6) (pv 6) (QPE.f (qv 9))))))))
 (ag (ay (i:=10) bY.nd rfl (Or.inl rfl) (bo (qR (by rfl))))
 (ag (ay (i:=9) bY.nd rfl (Or.inl rfl) (QPE.f (az (qv 10) (QPF.w (ao aG (hr.mono (by first|decide|omega)) rfl T.aU T.aJ.kp T.aN (ae (qv 0) (ae (QPF.w ai) (ax.w af))))))))
 (ag (cg (QPW.pt (kD (aQ (cQ hu rfl) cc (aI _) (QPF.w (ao aG (hr.mono (by first|decide|omega)) rfl T.aU T.aJ.kp T.aN (ae (qv 0) (ae (QPF.w ai) (ax.w af))))) (QPF.w ai)) (iF (aQ (yw rfl) zC rfl (qv 9) (qv 6)))))
 (aq (CI (i:=6) (pv 6) (QPF.w (ao aG (hr.mono (by first|decide|omega)) rfl T.aU T.aJ.kp T.aN (ae (qv 0) (ae (qv 1) (ax.w af))))) (qv 9)))
 bg)
 (aq (lZ (i:=6) (pv 6))))))))))))),fun ts Q h=>?_⟩
  obtain⟨m,rfl,m0,m1,hq⟩:=h;refine⟨by decide,by decide,fun n n0 n1=>⟨by omega,by omega,aB (by rw[dm];omega),fun i ys=>∃ cs:List Nat,ys=cs.map (fun c=>.s ⟨#[c]⟩)/\cs.length=i,⟨[],rfl,rfl⟩,?_,?_⟩⟩
  ·rintro i x ys hx ⟨cs,rfl,hc⟩
   obtain⟨rfl,hi⟩:=i3 hx;refine⟨_,rfl,by decide,by decide,fun r r0 r1=>⟨by decide +kernel,_,xC r0 r1,rfl,?_⟩⟩
   exact⟨cs ++ [lH r.toNat],by simp,by simp[hc]⟩
  ·rintro ys ⟨cs,rfl,hc⟩
   rw[dm]at hc;have e2:((cs.map (fun c=>(⟨#[c]⟩:Str))).map (·.length)).sum=cs.length:=by
    clear hc
    induction cs with
    | nil=>rfl
    | cons c cs ih=>simp only[List.map_cons,List.sum_cons,List.length_cons,ih,show(⟨#[c]⟩:Str).length=1 from rfl];omega
   refine⟨cs.map (fun c=>(⟨#[c]⟩:Str)),?_,?_,?_⟩
   ·rw[<- B8,List.map_map];rfl
   ·rw[e2,show(Str.ofString "").length=0 from by decide +kernel];omega
   have z:=PySem.size_glued (Str.ofString "") (cs.map (fun c=>(⟨#[c]⟩:Str)))
   rw[e2,show(Str.ofString "").length=0 from by decide +kernel]at z
   have lz:(Txt.join (Str.ofString "") (cs.map (fun c=>(⟨#[c]⟩:Str)))).length<=5:=by
    show(Builtin.Str.glued _ _).length<=5;omega
   generalize Txt.join (Str.ofString "") (cs.map (fun c=>(⟨#[c]⟩:Str)))=core at lz ⊢
   refine⟨bH (by omega),by omega,by omega,fun at_ a0 a1=>⟨by decide,by decide,fun tn t0 t1=>?_⟩⟩
   have lc1:(Txt.slice core none (some at_)).length<=5:=Nat.le_trans (Txt.slice_le _ _ _) lz;have lc2:(Txt.slice core (some at_) none).length<=5:=Nat.le_trans (Txt.slice_le _ _ _) lz;have lx:(Str.ofString "x").length=1:=by decide +kernel
   have ly:(Str.ofString "y").length=1:=by decide +kernel
   have lq:(Str.ofString "q").length=1:=by decide +kernel
   refine⟨by omega,by omega,fun i q=>(∃ o7 o8 o9 L,q = [.r .cY,.r (.i m),.o (.s rO),.o (.s core),.o (.i at_),.o (.i tn),.o (.l L),o7,o8,o9,.no]/\L =((List.range i).map (wordOf kept (Txt.slice core none (some at_)) (Txt.slice core (some at_) none) tn.toNat)).map .s),⟨_,_,_,_,rfl,rfl⟩,?_,?_⟩
   ·rintro i x q hx ⟨o7,o8,o9,L,rfl,rfl⟩
    obtain⟨rfl,hi⟩:=i3 hx;have hi:i<52:=by omega
    have e1:∀ c:Nat,(⟨#[c]⟩:Str).length=1:=fun _=>rfl
    have eL:lH (((tn+7*(0+(i:Int))) % 26).toNat)=lH (tn.toNat+7*i):=by
     have ht:tn+7*(0+(i:Int)) =((tn.toNat+7*i:Nat):Int):=by rw[Int.zero_add,Int.natCast_add,Int.natCast_mul,Int.toNat_of_nonneg t0];rfl
     rw[ht];show 97+(tn.toNat+7*i) % 26 % 26=97+(tn.toNat+7*i) % 26;rw[Nat.mod_mod]
    have r1:=fD "x" ((0+(i:Int)) % 2).toNat;have r2:=fD "y" ((0+(i:Int)) / 26).toNat;rw[lx]at r1;rw[ly]at r2;refine⟨_,rfl,.inl ⟨by omega,by omega⟩,(by show(0:Int)<26;decide),(by decide +kernel),_,xC (mod_lt (by decide)).1 (mod_lt (by decide)).2,rfl,?_⟩
    refine⟨bH (by omega),bH (by rw[e1];omega),bH (by omega),bH (by rw[Str.length_append,e1];omega),(by show(0:Int)<2;decide),by omega,by omega,by omega,bH (by rw[Str.length_append,Str.length_append,e1];omega),⟨by decide,by decide⟩,by omega,by omega,by omega,bH (by rw[Str.length_append,Str.length_append,Str.length_append,e1];omega),?_⟩
    have eW:Txt.slice core none (some at_)++⟨#[lH (((tn+7*(0+(i:Int))) % 26).toNat)]⟩++Txt.slice core (some at_) none++gG "x" ((0+(i:Int)) % 2).toNat++gG "y" ((0+(i:Int)) / 26).toNat=cT (Txt.slice core none (some at_)) (Txt.slice core (some at_) none) tn.toNat i:=by
     unfold cT;rw[eL,show((0+(i:Int)) % 2).toNat=i % 2 from by rw[Int.zero_add];rfl,show((0+(i:Int)) / 26).toNat=i / 26 from by rw[Int.zero_add];rfl]
    have lW:=iJ (Txt.slice core none (some at_)) (Txt.slice core (some at_) none) tn.toNat i;rw[eW];have snoc:∀ z:Str,z=wordOf kept (Txt.slice core none (some at_)) (Txt.slice core (some at_) none) tn.toNat i ->
      ((List.range i).map (wordOf kept (Txt.slice core none (some at_)) (Txt.slice core (some at_) none) tn.toNat)).map L2.T.s ++ [L2.T.s z] =((List.range (i+1)).map (wordOf kept (Txt.slice core none (some at_)) (Txt.slice core (some at_) none) tn.toNat)).map L2.T.s:=fun z hz=>by
     subst hz;rw[List.range_succ];simp
    have ln:(((List.range i).map (wordOf kept (Txt.slice core none (some at_)) (Txt.slice core (some at_) none) tn.toNat)).map L2.T.s).length<sizeLine:=aB (by simp;omega)
    refine⟨by rfl,bu (fun g1=>?_) (fun g1=>?_)⟩
    ·have g1:inV (.str (cT (Txt.slice core none (some at_)) (Txt.slice core (some at_) none) tn.toNat i)) (kept.map V.str)=true:=by rw[<- nC];exact g1
     exact⟨bH (by rw[lq];omega),ln,rfl,_,_,_,_,rfl,snoc ((cT (Txt.slice core none (some at_)) (Txt.slice core (some at_) none) tn.toNat i)++("q":Str)) (by unfold wordOf;rw[g1,if_pos rfl])⟩
    ·have g1:inV (.str (cT (Txt.slice core none (some at_)) (Txt.slice core (some at_) none) tn.toNat i)) (kept.map V.str)=false:=by
      cases e:inV (.str (cT (Txt.slice core none (some at_)) (Txt.slice core (some at_) none) tn.toNat i)) (kept.map V.str)with
      | false=>rfl
      | true=>rw[<- nC]at e;exact absurd e g1
     exact⟨ln,rfl,_,_,_,_,rfl,snoc (cT (Txt.slice core none (some at_)) (Txt.slice core (some at_) none) tn.toNat i) (by unfold wordOf;rw[g1,if_neg (by decide),Str.append_empty])⟩
   ·rintro q ⟨o7,o8,o9,L,rfl,rfl⟩
    rw[dm];have nd:((List.range m.toNat).map (wordOf kept (Txt.slice core none (some at_)) (Txt.slice core (some at_) none) tn.toNat)).Nodup:=nodup_range fun i j hi hj hne=>yc (by omega) (by omega) hne
    have wl:∀ w∈(List.range m.toNat).map (wordOf kept (Txt.slice core none (some at_)) (Txt.slice core (some at_) none) tn.toNat),1<=w.length/\w.length<=20:=fun w hw=>by
     obtain⟨i,hi,rfl⟩:=List.mem_map.mp hw;exact uY lc1 lc2 (by have:=List.mem_range.mp hi;omega)
    have ll:((List.range m.toNat).map (wordOf kept (Txt.slice core none (some at_)) (Txt.slice core (some at_) none) tn.toNat)).length=m.toNat:=by simp
    generalize(List.range m.toNat).map (wordOf kept (Txt.slice core none (some at_)) (Txt.slice core (some at_) none) tn.toNat)=ws at nd wl ll
    refine⟨by decide,by decide,fun r r0 r1=>?_⟩
    obtain⟨wd,ew,hm⟩:=EG (ws:=near) r0 r1;refine⟨_,ew,rfl,by decide,by decide,fun r3 _ _=>⟨rfl,?_⟩⟩
    have done:Q (.l (ws.map .s)):=hq ws (by omega) nd wl
    refine bu (fun _=>?_) (fun _=>JE done)
    refine⟨by rw[nF];rfl,bu (fun h2=>?_) (fun _=>done)⟩
    have hni:wd ∉ ws:=D4 (by rw[<- nC];simpa using h2)
    refine⟨m0,by omega,fun r4 r40 r41=>⟨r4.toNat,?_,aA ws,rfl,?_⟩⟩
    ·unfold ixN;rw[if_pos r40,if_pos (by rw[List.length_map];omega)]
    ·have z:=hq (ws.set r4.toNat wd) (by rw[List.length_set];omega) (yC nd hni) fun w hw=>by
      rcases List.mem_or_eq_of_mem_set hw with z|z
      ·exact wl w z
      ·rw[z];exact AW wd hm
     rw[List.map_set]at z;exact z
theorem AI(T:Txt K mg a):aH P w K mg base CX0 2 a.dQ a.mf ["_law_deal_here","_law_words_here"] (spQ K xr):=by
 have aG:aH P w K mg base CX0 1 a.cE a.ff ["_law_deal_here","_law_many"] (spQ K c6):=jh (fW T);refine T.kh.okQ bF (fun ts Q h=>?_) (fun cdv A outer s H E hr=>?_)
 ·obtain⟨ws,rfl,_⟩:=h;rfl
 ·have hu:=cv hr;refine⟨_,_,((ag (ay (i:=2) bF.nd rfl (Or.inl rfl) (ao aG (hr.mono (by first|decide|omega)) rfl T.aU T.aJ.kp T.aN (ae (qv 0) (ae (QPF.w ai) (ax.w af)))))
 (ag (ay (i:=3) bF.nd rfl (Or.inl rfl) (bT (QPF.w (gH (qv 1) (jx (qv 2)) jy)) (QPF.w (gH (qv 1) jy (jx (qv 2))))))
 (ag (ay (i:=4) bF.nd rfl (Or.inr rfl) (bT (QPF.w ai) (QPF.w (ao aG (hr.mono (by first|decide|omega)) rfl T.aU T.aJ.kp T.aN (ae (qv 0) (ae (QPF.w (gI (bo (ah ai (ah ai (ah ai af)))) (QPF.w (ao aG (hr.mono (by first|decide|omega)) rfl T.aU T.aJ.kp T.aN (ae (qv 0) (ae (QPF.w ai) (ax.w af))))))) (ax.w af)))))))
 (ag (ay (i:=5) bF.nd rfl (Or.inl rfl) (gI (bo (ah ai (ah ai (ah ai af)))) (QPF.w (ao aG (hr.mono (by first|decide|omega)) rfl T.aU T.aJ.kp T.aN (ae (qv 0) (ae (QPF.w ai) (ax.w af)))))))
 (ag (ay (i:=6) bF.nd rfl (Or.inl rfl) (gI (bo (ah ai (ah ai (ah ai af)))) (QPF.w (ao aG (hr.mono (by first|decide|omega)) rfl T.aU T.aJ.kp T.aN (ae (qv 0) (ae (QPF.w ai) (ax.w af)))))))
 (ag (ay (i:=7) bF.nd rfl (Or.inl rfl) (ao aG (hr.mono (by first|decide|omega)) rfl T.aU T.aJ.kp T.aN (ae (qv 0) (ae (QPF.w ai) (ax.w af)))))
 (ag (ay (i:=8) bF.nd rfl (Or.inl rfl) (bo af))
 (ag (ay (i:=9) bF.nd rfl (Or.inl rfl) ai)
 (ag (cb (g:=(Tg.nm 10)) PassesOwn.never rfl (iH rfl T.gg (ae (qv 4) (ax.w af))) (ar (i:=10) bF.nd rfl (Or.inl rfl))
 (ag (ay (i:=11) bF.nd rfl (Or.inl rfl) (bo af))
 (ag (cb (g:=(Tg.nm 12)) PassesOwn.never rfl (iH rfl T.gg (ae (QPF.w (bT (QPF.w ai) (QPF.w (ao aG (hr.mono (by first|decide|omega)) rfl T.aU T.aJ.kp T.aN (ae (qv 0) (ae (qv 5) (ax.w af))))))) (ax.w af))) (ar (i:=12) bF.nd rfl (Or.inl rfl))
 (ag (l5 (i:=13) bF.nd rfl (Or.inl rfl) rfl (kF rfl T.gg (ae (QPF.w (ao aG (hr.mono (by first|decide|omega)) rfl T.aU T.aJ.kp T.aN (ae (qv 0) (ae (qv 6) (ax.w af))))) (ax.w af))) (N':=["_law_i","_law_words_here","_law_deal_here","_law_many"]) (.own rfl (.got (i:=1) rfl rfl (.inl rfl) (.got (i:=0) rfl rfl (.inl rfl) (.got (i:=4) rfl rfl (.inl rfl) .nil)))) (dZ (g:=(Tg.nm 0)) (fun _ _ _ _ _=>⟨(ar (i:=0) (show(["_law_i","_law_words_here","_law_deal_here","_law_many"]:List Str).Nodup from by decide +kernel) rfl (Or.inl rfl)),(QPE.f (az (qv 1) (QPF.w (ao aG (hr.mono (by first|decide|omega)) rfl T.aU T.aJ.kp T.aN (ae (qv 2) (ae (qv 3) (ax.w af)))))))⟩)))
 (ag (cg (QPW.pt (kD (aQ (cQ hu rfl) cc (aI _) (qv 12) (QPF.w ai)) (iF (QPW.pt (xh (aQ (cQ hu rfl) cc (aI _) (qv 7) (QPF.w ai)) (vg (QPW.pt (kD (aQ (cQ hu rfl) cc (aI _) (qv 7) (QPF.w ai)) (iF (aQ (cQ hu rfl) cc (aI _) (qv 10) (QPF.w ai)))))))))))
 (aq (ay (i:=13) bF.nd rfl (Or.inl rfl) (bo af)))
 bg)
 (ag (c5 (i:=11) (pv 11) (aS (ah (QPE.f (az (qv 3) (qv 9))) (ah (bq (b9 rfl) b7 (by rfl) T.dv (by kernel_rfl) (ae (qv 13) (ax.w af))) af))))
 (aq (ay (i:=9) bF.nd rfl (Or.inl rfl) (bT (qv 9) (QPF.w ai))))))))
 (aq (c5 (i:=8) (pv 8) (aS (ah (QPE.f (az (qv 1) (qv 10))) (ah (bq (b9 rfl) b7 (by rfl) T.dv (by kernel_rfl) (ae (qv 11) (ax.w af))) af))))))))
 (aq (bV (bq (b9 rfl) b7 (by rfl) T.dv (by kernel_rfl) (ae (qv 8) (ax.w af))))))))))))))),fun ts Q h=>?_⟩
  obtain⟨ws,rfl,hl,hnd,hq⟩:=h;refine⟨by decide,by decide,fun tn t0 t1=>?_⟩
  have hM:(ws.drop tn.toNat++ws.take tn.toNat).Nodup:=yl hnd;have lM:(ws.drop tn.toNat++ws.take tn.toNat).length=52:=by rw[List.length_append,List.length_drop,List.length_take];omega
  refine⟨aA _,aA _,bH (by have:=congrArg List.length (IW hl t0 t1);rw[List.length_append,List.length_map]at this;omega),xI _ _ _,xI _ _ _,?_⟩
  rw[IW hl t0 t1]
  generalize ws.drop tn.toNat++ws.take tn.toNat=M at hM lM
  refine⟨by decide,by decide,fun r2 r20 r21=>?_⟩
  obtain⟨v2,ev2,hv2⟩:=xt (x:=2) (y:=3) (z:=6) r20 r21;refine⟨_,ev2,by omega,by omega,fun r3 r30 r31=>⟨by decide,by decide,fun r4 r40 r41=>?_⟩⟩
  obtain⟨v4,ev4,hv4⟩:=xt (x:=2) (y:=3) (z:=6) r40 r41;refine⟨_,ev4,by decide,by decide,fun r5 r50 r51=>?_⟩
  obtain⟨v5,ev5,hv5⟩:=xt (x:=2) (y:=3) (z:=5) r50 r51;refine⟨_,ev5,by decide,by decide,fun bare _ _=>?_⟩
  refine⟨by omega,by omega,fun i q=>∃ ks made L o10 o11 o12 o13,q = [.r .cY,.r (.l (ws.map .s)),.o (.i tn),.o (.l (M.map .s)),.o (.i (1+r3)),.o (.i v4),.o (.i v5),.o (.i bare),.o (.l L),.o (.i (made:Nat)),o10,o11,o12,o13]/\L=ks.map tK/\pW ws M (1+r3).toNat ks i made,
   ⟨[],0,_,_,_,_,_,rfl,rfl,⟨rfl,rfl,Nat.le_refl _,(fun _ z=>nomatch z),(fun _ z=>nomatch z)⟩⟩,?_,?_⟩
  ·rintro i x q hx ⟨ks,made,L,o10,o11,o12,o13,rfl,rfl,D⟩
   obtain⟨rfl,hi⟩:=i3 hx;have hb1:=D.b1;have lks:ks.length=i:=by
    have:=congrArg List.length D.nm
    rw[List.length_map,List.length_take,Nat.min_eq_left (by omega)]at this
    exact this
   have hwi:i<ws.length:=by omega
   refine⟨_,rfl,by omega,by omega,fun r6 r60 r61=>?_⟩
   refine⟨by omega,by omega,fun j q=>∃ ms cx L' o12 o13,q = [.r .cY,.r (.l (ws.map .s)),.o (.i tn),.o (.l (M.map .s)),.o (.i (1+r3)),.o (.i v4),.o (.i v5),.o (.i bare),.o (.l (ks.map tK)),.o (.i (cx:Nat)),.r (.i (0+(i:Nat))),.o (.l L'),o12,o13]/\L'=ms.map tM/\ms.length=j/\cx=made+j/\M.take made++ms.map (·.1)=M.take cx/\(∀ m∈ms,m.2.length<=4/\∀ f∈m.2,f∈ws.take (1+r3).toNat),
    ⟨[],made,_,_,_,rfl,rfl,rfl,rfl,by simp,fun _ z=>nomatch z⟩,?_,?_⟩
   ·rintro j x q hx ⟨ms,cx,L',o12,o13,rfl,rfl,lms,emd,hmd,hfl⟩
    obtain⟨rfl,hj⟩:=i3 hx;refine⟨_,rfl,by omega,by omega,fun r7 r70 r71=>⟨by omega,by omega,aB (by rw[dm];omega),fun p ys=>∃ fs:List Str,ys=fs.map .s/\fs.length=p/\∀ f∈fs,f∈ws.take (1+r3).toNat,⟨[],rfl,rfl,fun _ z=>nomatch z⟩,?_,?_⟩⟩
    ·rintro p x ys hx ⟨fs,rfl,lf,hf⟩
     obtain⟨rfl,hp⟩:=i3 hx;refine⟨_,rfl,by omega,by omega,fun r8 r80 r81=>?_⟩
     have h8:r8.toNat<ws.length:=by omega
     refine⟨_,BQ r80 h8,rfl,fs ++ [ws[r8.toNat]],by simp,by simp[lf],fun f hff=>?_⟩
     rcases List.mem_append.mp hff with h|h
     ·exact hf f h
     ·rw[List.mem_singleton.mp h];exact List.mem_take_iff_getElem.mpr ⟨r8.toNat,Nat.lt_min.mpr ⟨(Int.toNat_lt_toNat (by omega)).mpr r81,h8⟩,rfl⟩
    ·rintro ys ⟨fs,rfl,lf,hf⟩
     rw[dm]at lf;have Fi:cx<M.length:=by omega
     have em:atI (M.map L2.T.s) ((cx:Nat):Int)=some (.s M[cx]):=lu (by simp[Fi])
     have fin:∀ fs':List Str,fs'.length<=4 ->(∀ f∈fs',f∈ws.take (1+r3).toNat)->ms.length+1=j+1/\cx+1=made+(j+1)/\M.take made++(ms ++ [(M[cx],fs')]).map (·.1)=M.take (cx+1)/\∀ m∈ms ++ [(M[cx],fs')],m.2.length<=4/\∀ f∈m.2,f∈ws.take (1+r3).toNat:=fun fs' l4 hf'=>by
      refine⟨by omega,by omega,?_,fun m hm=>?_⟩
      ·rw[List.map_append,<- List.append_assoc,hmd];exact take_one (by simp[Fi])
      ·rcases List.mem_append.mp hm with h|h
       ·exact hfl m h
       ·rw[List.mem_singleton.mp h];exact⟨l4,hf'⟩
     have g0:(ms.map tM).length<sizeLine:=aB (by rw[List.length_map];omega)
     have f0:=fin [] (by decide) (fun _ z=>nomatch z)
     have f1:=fin fs (by omega) hf
     refine⟨rfl,bu (fun _=>⟨rfl,bu (fun _=>?_) (fun _=>⟨rfl,bu (fun _=>⟨rfl,bu (fun _=>?_) (fun _=>?_)⟩) (fun _=>?_)⟩)⟩) (fun _=>?_)⟩
     all_goals first
      | exact⟨g0,_,em,rfl,aA fs,ms ++ [(M[cx],fs)],cx+1,_,_,_,rfl,by simp[tM],by simpa using f1.1,f1.2.1,f1.2.2.1,f1.2.2.2⟩
      | exact⟨g0,_,em,rfl,rfl,ms ++ [(M[cx],[])],cx+1,_,_,_,rfl,by simp[tM],by simpa using f0.1,f0.2.1,f0.2.2.1,f0.2.2.2⟩
   ·rintro q ⟨ms,cx,L',o12,o13,rfl,rfl,lms,emd,hmd,hfl⟩
    rw[dm]at lms emd;have ei:atI (ws.map L2.T.s) (0+((i:Nat):Int))=some (.s ws[i]):=by rw[Int.zero_add];exact lu (by simp[hwi])
    refine⟨aB (by rw[List.length_map];omega),_,ei,rfl,bh Bi _,?_⟩
    refine⟨ks ++ [(ws[i],ms)],cx,_,_,_,_,_,rfl,by simp[tK,tMs],D.next (by simp[hwi]) hmd (fun z=>?_) (by omega) (by omega) hfl⟩
    rw[z]at lms;simp at lms;omega
  ·rintro q ⟨ks,made,L,o10,o11,o12,o13,rfl,rfl,D⟩
   rw[dm]at D;refine⟨bh uB _,?_⟩;exact hq ks (D.IK hnd hM (by omega) (by omega) (by omega))
theorem xA(T:Txt K mg a):aH P w K mg base CX0 2 a.fc a.nJ ["_law_deal_here","_law_scope","_law_some"] (spQ K mT):=by
 have aG:aH P w K mg base CX0 1 a.cE a.ff ["_law_deal_here","_law_many"] (spQ K c6):=jh (fW T);refine T.iA.okQ lU (fun ts Q h=>?_) (fun cdv A outer s H E hr=>?_)
 ·obtain⟨sc,fs,t,_,rfl,_⟩:=h;rfl
 ·have hu:=cv hr;refine⟨_,_,((ag (ay (i:=3) lU.nd rfl (Or.inl rfl) (bo af))
 (ag (cb (g:=(Tg.nm 4)) PassesOwn.never rfl (FY (i:=2) (pv 2)) (ar (i:=4) lU.nd rfl (Or.inr rfl))
 (ag (l5 (i:=5) lU.nd rfl (Or.inl rfl) rfl (qP (qv 1)) (N':=["_law_name","_law_other","_law_kind"]) (.own rfl (.own rfl (.got (i:=4) rfl rfl (.inl rfl) .nil))) (F6 (g:=(Tg.tp [0,1])) (fun _ _ _ _ _=>⟨(bb (K:=K) (n:=2) rfl rfl (aw (ar (i:=0) (show(["_law_name","_law_other","_law_kind"]:List Str).Nodup from by decide +kernel) rfl (Or.inl rfl) (Or.inr rfl)) (aw (ar (i:=1) (show(["_law_name","_law_other","_law_kind"]:List Str).Nodup from by decide +kernel) rfl (Or.inl rfl) (Or.inr rfl)) a9))),(aQ (cQ hu rfl) cc (aI _) (qv 1) (qv 2)),(QPE.f (qv 0))⟩)))
 (ag (cg (aQ (cQ hu rfl) cc (aI _) (qv 5) (QPF.w (bo af)))
 (aq (bV mM))
 bg)
 (aq (c5 (i:=3) (pv 3) (QPE.f (az (qv 5) (QPF.w (aT (kX rfl) zD (by rfl) T.BP (by kernel_rfl) (ae (QPF.w (ao aG (hr.mono (by first|decide|omega)) rfl T.aU T.aJ.kp T.aN (ae (qv 0) (ae (QPF.w (aT (aL rfl) bf (by rfl) T.cw (by kernel_rfl) (ae (qv 5) (ax.w af)))) (ax.w af))))) (ae (QPF.w (ao aG (hr.mono (by first|decide|omega)) rfl T.aU T.aJ.kp T.aN (ae (qv 0) (ae (QPF.w (aT (aL rfl) bf (by rfl) T.cw (by kernel_rfl) (ae (qv 5) (ax.w af)))) (ax.w af))))) (ax.w af))))))))))))
 (aq (bV (bq (b9 rfl) b7 (by rfl) T.dv (by kernel_rfl) (ae (qv 3) (ax.w af)))))))),fun ts Q h=>?_⟩
  obtain⟨sc,fs,t,ht,rfl,hsc,hfs,hn,hq⟩:=h;rcases ht with rfl|rfl
  all_goals
   refine⟨fun i q=>∃ ns o4 o5 L,q = [.r .cY,.r (.l (sc.map tP)),.r _,.o (.l L),o4,o5]/\L=ns.map .s/\Fills sc ns (fs.take i),⟨[],_,_,_,rfl,rfl,rfl,fun _ z=>nomatch z⟩,?_,?_⟩
   ·rintro i x q hx ⟨ns,o4,o5,L,rfl,rfl,hF⟩
    rw[List.getElem?_map]at hx;obtain⟨f,hf,rfl⟩:=Option.map_eq_some_iff.mp hx;have hif:i<fs.length:=(List.getElem?_eq_some_iff.mp hf).1;refine⟨_,rfl,aB (by rw[List.length_map];omega),fun k ys=>∃ os:List Str,ys=os.map .s/\os.length<=k/\∀ n∈os,(n,f)∈sc,⟨[],rfl,Nat.le_refl _,fun _ z=>nomatch z⟩,?_,?_⟩
    ·rintro k x ys hx ⟨os,rfl,lo,ho⟩
     rw[List.getElem?_map]at hx;obtain⟨p,hp,rfl⟩:=Option.map_eq_some_iff.mp hx;refine⟨_,rfl,rfl,bu (fun e=>⟨rfl,os ++ [p.1],by simp,by simp;omega,fun n hn=>?_⟩) (fun _=>⟨os,rfl,by omega,ho⟩)⟩
     rcases List.mem_append.mp hn with h|h
     ·exact ho n h
     ·rw[List.mem_singleton.mp h];have e':(L2.T.s p.2).v =(L2.T.s f).v:=by simpa using e
      have e2:p.2=f:=V.str.inj e';rw[<- e2];exact List.mem_of_getElem? hp
    ·rintro ys ⟨os,rfl,lo,ho⟩
     rw[List.length_map]at lo;refine⟨by rw[nF];rfl,bu (fun _=>hn) (fun hne=>?_)⟩
     have l0:0<os.length:=by
      cases os with
      | nil=>exact absurd rfl hne
      | cons _ _=>simp
     have ln:ns.length=i:=by rw[hF.1,List.length_take];omega
     have lo':((os.map L2.T.s).length:Int)=os.length:=by rw[List.length_map]
     refine⟨aB (by rw[List.length_map];omega),by rw[lo'];omega,by rw[lo'];omega,fun r r0 r1=>⟨by rw[lo'];omega,by rw[lo'];omega,fun r' r0' r1'=>?_⟩⟩
     rw[lo']at r1 r1';have hm:∃ m:Int,(if r' > r then r' else r)=m/\0<=m/\m<os.length:=⟨_,rfl,by split <;> omega,by split <;> omega⟩
     obtain⟨m,em,m0,m1⟩:=hm;have hmo:m.toNat<os.length:=by omega
     refine⟨.s os[m.toNat],(by show atI (os.map L2.T.s) (if r' > r then r' else r)=_;rw[em];exact BQ m0 hmo),rfl,ns ++ [os[m.toNat]],_,_,_,rfl,by simp,?_⟩
     rw[<- take_one hf];exact hF.snoc (ho _ (List.getElem_mem _))
   ·rintro q ⟨ns,o4,o5,L,rfl,rfl,hF⟩
    rw[List.length_map,List.take_length]at hF;exact⟨aA _,hq ns hF⟩
theorem AJ(T:Txt K mg a):aH P w K mg base CX0 3 a.dR a.mh ["_law_deal_here","_law_world","_law_scope","_law_f"] (spQ K jC):=by
 have nW:aH P w K mg base CX0 2 a.fc a.nJ ["_law_deal_here","_law_scope","_law_some"] (spQ K mT):=xA T;refine T.iL.okQ cn (fun ts Q h=>?_) (fun cdv A outer s H E hr=>?_)
 ·obtain⟨ks,hs,ws,sc,f,h,rfl,_⟩:=h;rfl
 ·have hu:=cv hr;refine⟨_,_,((ag (qM (g:=(Tg.tp [4,5,6])) (i:=1) (pv 1) (bb (K:=K) (n:=3) rfl rfl (aw (ar (i:=4) cn.nd rfl (Or.inl rfl)) (aw (ar (i:=5) cn.nd rfl (Or.inl rfl)) (aw (ar (i:=6) cn.nd rfl (Or.inl rfl)) a9)))))
 (ag (ay (i:=7) cn.nd rfl (Or.inl rfl) (QPE.f (az (az (qv 5) (qv 3)) (QPF.w ai))))
 (ag (ay (i:=8) cn.nd rfl (Or.inl rfl) (ao nW (hr.mono (by first|decide|omega)) rfl T.rN T.iA.kp T.kZ (ae (qv 0) (ae (qv 2) (ae (QPF.w (bo (ah (QPE.f (qv 7)) af))) (ax.w af))))))
 (ag (cg (aQ rh mG (aI _) (qv 8) (QPF.w mM))
 (aq (bV (aS (ah bR (ah (QPE.f (az (qv 8) (QPF.w ai))) af)))))
 bg)
 (ag (ay (i:=9) cn.nd rfl (Or.inl rfl) (QPE.f (az (qv 6) (QPF.w (aT (aL rfl) bf (by rfl) T.cw (by kernel_rfl) (ae (qv 2) (ax.w af)))))))
 (ag (cb (g:=(Tg.tp [10,11])) PassesOwn.never rfl (eV (QPE.f (fR (QPF.w (bq (j8 rfl) mI (by rfl) T.wB (by kernel_rfl) (ae (qv 4) (ax.w af)))) (qv 7)))) (bb (K:=K) (n:=2) rfl rfl (aw (ar (i:=10) cn.nd rfl (Or.inl rfl)) (aw (ar (i:=11) cn.nd rfl (Or.inl rfl)) a9)))
 (ag (ay (i:=12) cn.nd rfl (Or.inl rfl) (ao nW (hr.mono (by first|decide|omega)) rfl T.rN T.iA.kp T.kZ (ae (qv 0) (ae (qv 2) (ae (qv 11) (ax.w af))))))
 (aq (cg (aQ rh mG (aI _) (qv 12) (QPF.w mM))
 (aq (bV (aS (ah bR (ah (QPE.f (qv 9)) (ah (QPE.f (qv 10)) (ah (QPE.f (qv 12)) (ah (aS (ah bR (ah (QPE.f (qv 9)) af))) af))))))))
 bg))))
 (ag (ay (i:=12) cn.nd rfl (Or.inl rfl) (bq (b9 rfl) b7 (by rfl) T.dv (by kernel_rfl) (ae (QPF.w (ez rfl (qP (QPF.w (gH (qv 2) jy (jx (QPF.w (aT (aL rfl) bf (by rfl) T.cw (by kernel_rfl) (ae (az (az (qv 5) (qv 3)) (QPF.w ai)) (ax.w af)))))))) (N':=["_law_name","_law_other"]) (.own rfl (.own rfl .nil)) (dZ (g:=(Tg.tp [0,1])) (fun _ _ _ _ _=>⟨(bb (K:=K) (n:=2) rfl rfl (aw (ar (i:=0) (show(["_law_name","_law_other"]:List Str).Nodup from by decide +kernel) rfl (Or.inl rfl) (Or.inr rfl)) (aw (ar (i:=1) (show(["_law_name","_law_other"]:List Str).Nodup from by decide +kernel) rfl (Or.inl rfl) (Or.inr rfl)) a9))),(QPE.f (qv 0))⟩)))) (ax.w af))))
 (aq (bV (aS (ah bR (ah (QPE.f (qv 9)) (ah (QPE.f (az (az (qv 5) (qv 3)) (QPF.w ai))) (ah (QPE.f (qv 12)) (ah (aS (ah bR (ah (QPE.f (qv 9)) af))) af)))))))))))))))),fun ts Q hh=>?_⟩
  obtain⟨ks,hs,ws,sc,f,h,rfl,W,hf,S,hq⟩:=hh;have sg:h∈hs:=List.mem_of_getElem? hf;obtain⟨hp1,hp2,hp3,hp4⟩:=W.hp h sg;have ef:atI (hs.map tH) (f:Int)=some (tH h):=sR (by rw[List.getElem?_map,hf];rfl)
  have hsl:sc.length<ws.length:=by have:=S.ln;have:=W.wl;omega
  have ex:atI (ws.map L2.T.s) ((sc.map tP).length:Int)=some (.s ws[sc.length]):=by rw[List.length_map];exact lu (List.getElem?_eq_getElem hsl)
  have fx:ws[sc.length] ∉ sc.map (·.1):=S.fresh W.wn (List.getElem?_eq_getElem hsl)
  generalize ws[sc.length]=x at ex fx
  refine⟨_,rfl,_,ef,_,rfl,rfl,rfl,sc,[h.2.2],_,.inr rfl,rfl,by have:=S.ln;omega,by show 1<=1000;decide,?_,fun ns hF=>?_⟩
  ·obtain⟨kd,hkd,ek⟩:=Fh hp4;refine⟨_,ex,rfl,bh uB ks,_,mZ ks,_,pM W.gk.nd hp4,d6 _,fun i q=>∃ o10 o11 o12,q = [.r .cY,.r (tW ks hs ws),.r (.l (sc.map tP)),.r (.i f),.r (tKs ks),.r (.l (hs.map tH)),.r (.l (ws.map .s)),.o (.s h.2.2),.o .n,.o (.s x),o10,o11,o12],⟨_,_,_,rfl⟩,?_,?_⟩
   ·rintro i t q hx ⟨o10,o11,o12,rfl⟩
    rw[List.getElem?_map]at hx;obtain⟨m,hm,rfl⟩:=Option.map_eq_some_iff.mp hx;have hm':m∈kd.2:=by rw[<- uu W.gk.nd hkd,ek];exact List.mem_of_getElem? hm
    refine⟨_,rfl,sc,m.2,_,.inl rfl,rfl,by have:=S.ln;omega,by have:=(W.gk.fl kd hkd m hm').1;omega,⟨_,_,_,rfl⟩,fun ns hF=>?_⟩
    refine⟨rfl,rfl,aA _,rfl,hq 2 _ (by decide) (.make hkd hm' hF fx (.give ?_))⟩
    rw[ek];simp
   ·rintro q ⟨o10,o11,o12,rfl⟩
    have ec:fh (sc.map tP) none (some ((h.2.1.map tP).length:Int))=h.2.1.map tP:=by rw[List.length_map,BG (by rw[List.length_map];exact S.p1),<- List.map_take,S.pf]
    refine⟨_,ef,_,rfl,bh gx _,?_⟩;rw[ec];refine⟨aB (by rw[List.length_map];omega),fun i ys=>ys =((h.2.1.take i).map (·.1)).map .s,rfl,?_,?_⟩
    ·rintro i t ys hx rfl
     rw[List.getElem?_map]at hx;obtain⟨p,hp,rfl⟩:=Option.map_eq_some_iff.mp hx;refine⟨_,rfl,rfl,?_⟩;show _ ++ [L2.T.s p.1]=_;rw[List.take_add_one,hp];simp
    ·rintro ys rfl
     rw[List.length_map,List.take_length];refine⟨aA _,rfl,_,ef,_,rfl,rfl,aA _,rfl,hq 2 _ (by decide) (.call sg ?_ fx (.give (by simp)))⟩
     have z:=Fills.self (sc:=sc) (n:=h.2.1.length)
     rwa [S.pf]at z
  ·obtain⟨n,rfl⟩:∃ n,ns = [n]:=by
    match ns,hF.1 with
    | [n],_=>exact⟨n,rfl⟩
   exact⟨_,rfl,rfl,hq 1 _ (by decide) (.give (hF.2 (n,h.2.2) (by simp)))⟩
theorem Dm(T:Txt K mg a)(N:Nat)(gq:aH P w K mg base CX0 (2*N+3) a.fe a.nK ["_law_deal_here","_law_world","_law_scope","_law_f","_law_room"] (spQ K (gL N))):aH P w K mg base CX0 (2*N+4) a.g9 a.we ["_law_deal_here","_law_world","_law_scope","_law_f","_law_room"] (spQ K (Gj N)):=by
 have aG:aH P w K mg base CX0 1 a.cE a.ff ["_law_deal_here","_law_many"] (spQ K c6):=jh (fW T);refine T.nZ.okQ cA (fun ts Q h=>?_) (fun cdv A outer s H E hr=>?_)
 ·obtain⟨ks,hs,ws,sc,f,h,u,rfl,_⟩:=h;rfl
 ·have hu:=cv hr;refine⟨_,_,((ag (qM (g:=(Tg.tp [5,6,7])) (i:=1) (pv 1) (bb (K:=K) (n:=3) rfl rfl (aw (ar (i:=5) cA.nd rfl (Or.inl rfl)) (aw (ar (i:=6) cA.nd rfl (Or.inl rfl)) (aw (ar (i:=7) cA.nd rfl (Or.inr rfl)) a9)))))
 (ag (qN (g:=(Tg.tp [8,9])) (az (qv 2) (QPF.w (aT (kX rfl) zD (by rfl) T.BP (by kernel_rfl) (ae (QPF.w (ao aG (hr.mono (by first|decide|omega)) rfl T.aU T.aJ.kp T.aN (ae (qv 0) (ae (QPF.w (aT (aL rfl) bf (by rfl) T.cw (by kernel_rfl) (ae (qv 2) (ax.w af)))) (ax.w af))))) (ae (QPF.w (ao aG (hr.mono (by first|decide|omega)) rfl T.aU T.aJ.kp T.aN (ae (qv 0) (ae (QPF.w (aT (aL rfl) bf (by rfl) T.cw (by kernel_rfl) (ae (qv 2) (ax.w af)))) (ax.w af))))) (ax.w af)))))) (bb (K:=K) (n:=2) rfl rfl (aw (ar (i:=8) cA.nd rfl (Or.inl rfl)) (aw (ar (i:=9) cA.nd rfl (Or.inl rfl)) a9))))
 (ag (ay (i:=10) cA.nd rfl (Or.inl rfl) (QPE.f (fR (QPF.w (bq (j8 rfl) mI (by rfl) T.wB (by kernel_rfl) (ae (qv 5) (ax.w af)))) (qv 9))))
 (ag (tU (i:=4) (pv 4) (pv 4) (QPF.w (aT (aL rfl) bf (by rfl) T.cw (by kernel_rfl) (ae (qv 10) (ax.w af)))))
 (ag (ay (i:=11) cA.nd rfl (Or.inl rfl) (bo af))
 (ag (cb (g:=(Tg.tp [12,13])) PassesOwn.never rfl (eV (QPE.f (qv 10))) (bb (K:=K) (n:=2) rfl rfl (aw (ar (i:=12) cA.nd rfl (Or.inl rfl)) (aw (ar (i:=13) cA.nd rfl (Or.inl rfl)) a9)))
 (ag (l5 (i:=14) cA.nd rfl (Or.inl rfl) rfl (CK rfl T.lD (by kernel_rfl) (ae (qv 13) (ax.w af))) (N':=["_law_k","_law_field","_law_words_here","_law_scope"]) (.own rfl (.own rfl (.got (i:=7) rfl rfl (.inl rfl) (.got (i:=2) rfl rfl (.inl rfl) .nil)))) (dZ (g:=(Tg.tp [0,1])) (fun _ _ _ _ _=>⟨(bb (K:=K) (n:=2) rfl rfl (aw (ar (i:=0) (show(["_law_k","_law_field","_law_words_here","_law_scope"]:List Str).Nodup from by decide +kernel) rfl (Or.inl rfl) (Or.inr rfl)) (aw (ar (i:=1) (show(["_law_k","_law_field","_law_words_here","_law_scope"]:List Str).Nodup from by decide +kernel) rfl (Or.inl rfl) (Or.inr rfl)) a9))),(aS (ah (QPE.f (az (qv 2) (QPF.w (bT (QPF.w (aT (aL rfl) bf (by rfl) T.cw (by kernel_rfl) (ae (qv 3) (ax.w af)))) (qv 0))))) (ah (QPE.f (qv 1)) af)))⟩)))
 (ag (ay (i:=15) cA.nd rfl (Or.inl rfl) (bq (b9 rfl) b7 (by rfl) T.dv (by kernel_rfl) (ae (QPF.w (ez rfl (qP (qv 14)) (N':=["_law_name","_law_field"]) (.own rfl (.own rfl .nil)) (dZ (g:=(Tg.tp [0,1])) (fun _ _ _ _ _=>⟨(bb (K:=K) (n:=2) rfl rfl (aw (ar (i:=0) (show(["_law_name","_law_field"]:List Str).Nodup from by decide +kernel) rfl (Or.inl rfl) (Or.inr rfl)) (aw (ar (i:=1) (show(["_law_name","_law_field"]:List Str).Nodup from by decide +kernel) rfl (Or.inl rfl) (Or.inr rfl)) a9))),(QPE.f (qv 0))⟩)))) (ax.w af))))
 (aq (c5 (i:=11) (pv 11) (aS (ah (QPE.f (qv 12)) (ah (QPE.f (qv 15)) (ah (ao gq (hr.mono (by first|decide|omega)) rfl T.kN T.fu.kp T.ij (ae (qv 0) (ae (qv 1) (ae (QPF.w (bT (qv 2) (qv 14))) (ae (qv 3) (ae (qv 4) (ax.w af))))))) af)))))))))
 (aq (bV (aS (ah bR (ah (QPE.f (qv 8)) (ah (bq (b9 rfl) b7 (by rfl) T.dv (by kernel_rfl) (ae (qv 11) (ax.w af))) af))))))))))))),fun ts Q hh=>?_⟩
  obtain⟨ks,hs,ws,sc,f,h,u,rfl,W,hf,S,hl,hne,huN,hq⟩:=hh;have l0:0<sc.length:=List.length_pos_iff.mpr hne;have lsc:((sc.map tP).length:Int)=sc.length:=by rw[List.length_map]
  refine⟨_,rfl,by rw[lsc];omega,by rw[lsc];omega,fun r r0 r1=>⟨by rw[lsc];omega,by rw[lsc];omega,fun r' r0' r1'=>?_⟩⟩
  rw[lsc]at r1 r1';obtain⟨m0,m1⟩:=max_two r0 r1 r0' r1';obtain⟨⟨x,k⟩,hx,ex⟩:=e7 (f:=tP) m0 m1;refine⟨tP (x,k),ex,rfl,_,rfl,?_⟩;obtain⟨kd,hkd,ek⟩:=Fh (S.kd _ hx);obtain rfl:kd.1=k:=ek;have em:=uu W.gk.nd hkd;refine⟨bh uB ks,_,mZ ks,tMs kd.2,by rw[pM W.gk.nd (S.kd _ hx),em],d6 _,Int.natCast_nonneg _,?_⟩
  obtain⟨ne1,ne6⟩:=W.gk.ne kd hkd;have lk1:1<=kd.2.length:=List.length_pos_iff.mpr ne1;have lkm:((kd.2.map tM).length:Int)=kd.2.length:=by rw[List.length_map]
  have wl:=W.wl;have e1:(u - ((kd.2.map tM).length:Int)).toNat=u.toNat - kd.2.length:=by rw[lkm];omega
  generalize u - ((kd.2.map tM).length:Int)=u' at e1 ⊢
  refine⟨d6 kd.2,fun i q=>∃ arms L o12 o13 o14 o15,q = [.r .cY,.r (tW ks hs ws),.r (.l (sc.map tP)),.r (.i f),.r (.rm u'),.r (tKs ks),.r (.l (hs.map tH)),.r (.l (ws.map .s)),.r (.s x),.r (.s kd.1),.o (tMs kd.2),.o (.l L),o12,o13,o14,o15]/\L=arms.map tA/\uV ks hs h.2.2 sc (sz u'.toNat) arms (kd.2.take i),
   ⟨[],_,_,_,_,_,rfl,rfl,⟨rfl,fun i a m h1=>by simp at h1⟩⟩,?_,?_⟩
  ·rintro i t q hx ⟨arms,L,o12,o13,o14,o15,rfl,rfl,hA⟩
   rw[List.getElem?_map]at hx;obtain⟨m,hm,rfl⟩:=Option.map_eq_some_iff.mp hx;obtain⟨fl4,flk⟩:=W.gk.fl kd hkd m (List.mem_of_getElem? hm);have hik:i<kd.2.length:=(List.getElem?_eq_some_iff.mp hm).1;have lA:arms.length=i:=by rw[hA.ln,List.length_take];omega
   obtain⟨ln,ndn,S'⟩:=S.more (ns:=(ws.drop sc.length).take m.2.length) W.wn rfl (by omega) (by omega) flk
   refine⟨_,rfl,aB (by rw[de,List.length_map];omega),fun j ys=>ys =(((ws.drop sc.length).take j).zip (m.2.take j)).map tP,rfl,?_,?_⟩
   ·rintro j y ys hy rfl
    obtain⟨z,hz,rfl⟩:=jS hy;rw[List.getElem?_map]at hz;obtain⟨g,hg,rfl⟩:=Option.map_eq_some_iff.mp hz;have hjm:j<m.2.length:=(List.getElem?_eq_some_iff.mp hg).1;have hwj:sc.length+j<ws.length:=by omega
    have ew:atI (ws.map L2.T.s) (((sc.map tP).length:Int)+(j:Nat))=some (.s ws[sc.length+j]):=by
     rw[List.length_map];exact lu (j:=sc.length+j) (List.getElem?_eq_getElem hwj)
    refine⟨_,rfl,_,ew,rfl,rfl,?_⟩;show _ ++ [tP (ws[sc.length+j],g)]=_;rw[tw (a:=ws[sc.length+j]) (by rw[List.getElem?_drop,List.getElem?_eq_getElem hwj]) hg,List.map_append]
    rfl
   ·rintro ys rfl
    rw[show(iV (m.2.map L2.T.s)).length=m.2.length by rw[de,List.length_map],List.take_length]
    generalize hns:(ws.drop sc.length).take m.2.length=ns at ln ndn S' ⊢
    refine⟨aB (by rw[List.length_map,List.length_zip];omega),fun j ys=>ys =(((ns.zip m.2).take j).map (·.1)).map .s,rfl,?_,?_⟩
    ·rintro j y ys hy rfl
     rw[List.getElem?_map]at hy;obtain⟨p,hp,rfl⟩:=Option.map_eq_some_iff.mp hy;refine⟨_,rfl,rfl,?_⟩;show _ ++ [L2.T.s p.1]=_;rw[List.take_add_one,hp];simp
    ·rintro ys rfl
     rw[show((ns.zip m.2).map tP).length =(ns.zip m.2).length by rw[List.length_map],List.take_length,lP ln]
     refine⟨aA _,aB (by rw[List.length_map];omega),rfl,aA _,bH (by rw[List.length_map,List.length_map,List.length_zip];omega),bh gx _,bh gx _,ks,hs,ws,sc++ns.zip m.2,f,h,_,by rw[List.map_append],W,hf,S',by rw[List.length_append,List.length_zip];omega,by omega,fun n b hn hb=>?_⟩
     refine⟨arms ++ [(m.1,ns,b,n)],_,_,_,_,_,rfl,by simp[tA],?_⟩
     rw[List.take_add_one,hm];exact hA.snoc ⟨rfl,ln,ndn,hb,hn⟩
  ·rintro q ⟨arms,L,o12,o13,o14,o15,rfl,rfl,hA⟩
   rw[List.length_map,List.take_length]at hA;obtain⟨hS,hle⟩:=hA.snd hx hkd;refine⟨rfl,hA.im,hq _ _ ?_ hS⟩;rw[hA.ln,e1]at hle
   have:=Ca (n:=u.toNat) lk1 ne6
   omega
def qMk(N:Nat):QS:=qS (z9 (Tg.tp [16,17]) (qOp qIx (a4 5) (gv c6 (aD (a4 0) (aD (qCB yo (aD (a4 5) dO)) dO)))))
 (qS (z9 (Tg.tp [18,19]) (qOp qIx (a4 17) (gv c6 (aD (a4 0) (aD (qCB yo (aD (a4 17) dO)) dO)))))
  (qS (yn 15 (gv mT (aD (a4 0) (aD (a4 2) (aD (a4 19) dO)))))
   (qS (CT (tY (qOp (yp false) (a4 15) (qC .n))) (fun D q=>gv jC (aD (a4 0) (aD (a4 1) (aD (a4 2) (aD (a4 3) dO)))) q D.rt) xj)
    fun D q=>tX (aD (qC (.s (Str.ofString "make"))) (aD (qIm (a4 9)) (aD (qIm (a4 18)) (aD (qIm (a4 15)) (aD (gv (gL N) (aD (a4 0) (aD (a4 1) (aD (qOp yq (a4 2) (CS (aD (tX (aD (qIm (a4 9)) (aD (qIm (a4 16)) dO))) dO))) (aD (a4 3) (aD (a4 4) dO)))))) dO))))) q D.rt)))
def qCl(N:Nat):QS:=qS (CT (tY (qOp Ge (a4 8) (qC (.i 6))))
 (qS (yn 14 (gv c6 (aD (a4 0) (aD (qCB yo (aD (a4 6) dO)) dO))))
  (qS (yn 15 (gv mT (aD (a4 0) (aD (a4 2) (aD (xl [none] (asT (qOp qIx (qOp qIx (a4 6) (a4 14)) (qC (.i 1)))) (Tg.nm 0) Aa (qIm (qOp qIx (a4 0) (qC (.i 1))))) dO)))))
   (CT (tY (qOp (yp true) (a4 15) (qC .n))) (fun D q=>tX (aD (qC (.s (Str.ofString "call"))) (aD (qIm (a4 9)) (aD (qIm (qOp qIx (qOp qIx (a4 6) (a4 14)) (qC (.i 0)))) (aD (qIm (a4 15)) (aD (gv (gL N) (aD (a4 0) (aD (a4 1) (aD (qOp yq (a4 2) (CS (aD (tX (aD (qIm (a4 9)) (aD (qIm (qOp qIx (qOp qIx (a4 6) (a4 14)) (qC (.i 2)))) dO))) dO))) (aD (a4 3) (aD (a4 4) dO)))))) dO))))) q D.rt) xj))) xj) (qMk N)
def qNm(N:Nat):QS:=qS (z9 (Tg.tp [12,13]) (qOp qIx (a4 2) (gv c6 (aD (a4 0) (aD (qCB yo (aD (a4 2) dO)) dO)))))
 fun D q=>tX (aD (qC (.s (Str.ofString "name"))) (aD (qIm (a4 9)) (aD (qIm (a4 12)) (aD (gv (gL N) (aD (a4 0) (aD (a4 1) (aD (qOp yq (a4 2) (CS (aD (tX (aD (qIm (a4 9)) (aD (qIm (a4 13)) dO))) dO))) (aD (a4 3) (aD (a4 4) dO)))))) dO)))) q D.rt
structure ya(N B:Nat)(ks:List Kd)(hs:List Hd)(ws:List Str)(sc:Sc)(f:Nat)(h:Hd)(u:Int)(x:Str)(Q:L2.T->Prop):Prop where
 W:Wld ks hs ws
 kd:∀ p∈sc,p.2∈ks.map (·.1)
 l16:sc.length<=16
 fx:x ∉ sc.map (·.1)
 hE:jC [.cY,tW ks hs ws,.l (sc.map tP),.i f] Q
 go:∀{k:Str},k∈ks.map (·.1)->∀{Q':L2.T->Prop},(∀ n b,n<=B->Snd ks hs h.2.2 n (sc ++ [(x,k)]) b->Q' b)->gL N [.cY,tW ks hs ws,.l (sc.map tP ++ [tP (x,k)]),.i f,.rm u] Q'
 hq:∀ n b,n<=B+1->Snd ks hs h.2.2 n sc b->Q b
theorem xg{N B:Nat}{ks:List Kd}{hs:List Hd}{ws:List Str}{sc:Sc}{f:Nat}{h:Hd}{u fm:Int}{x:Str}{Q:L2.T->Prop}(C:ya N B ks hs ws sc f h u x Q)(o10 o11 o12 o13 o14 o15 o16 o17 o18 o19:Sl) :
  qMk N { nx:=fun _=>Q .n,rt:=Q } [.r .cY,.r (tW ks hs ws),.r (.l (sc.map tP)),.r (.i f),.r (.rm u),.r (tKs ks),.r (.l (hs.map tH)),.r (.l (ws.map .s)),.o (.i fm),.o (.s x),o10,o11,o12,o13,o14,o15,o16,o17,o18,o19]:=by
 obtain⟨W,kdm,h3,fx,hE,go,hq⟩:=C;have lk:((ks.map tK).length:Int)=ks.length:=by rw[List.length_map]
 have k1:=W.gk.k1;have k2:=W.gk.k2;refine⟨by rw[lk];omega,by rw[lk];omega,fun r6 r60 r61=>?_⟩
 rw[lk]at r61;obtain⟨kd,hkd,ek⟩:=e7 (f:=tK) r60 r61;obtain⟨ne1,ne6⟩:=W.gk.ne kd hkd;have lm:((kd.2.map tM).length:Int)=kd.2.length:=by rw[List.length_map]
 have l1:1<=kd.2.length:=List.length_pos_iff.mpr ne1;refine⟨_,ek,uB kd,_,rfl,by rw[lm];omega,by rw[lm];omega,fun r7 r70 r71=>?_⟩
 rw[lm]at r71;obtain⟨m,hm,em⟩:=e7 (f:=tM) r70 r71;refine⟨_,em,Bi m,_,rfl,sc,m.2,_,.inl rfl,rfl,by omega,by have:=(W.gk.fl kd hkd m hm).1;omega,hE,fun ns hF=>?_⟩
 refine⟨rfl,rfl,aA _,rfl,rfl,bH (by rw[List.length_map];show sc.length+1<=10000;omega),bh gx _,rfl,?_⟩
 exact go (List.mem_map.mpr ⟨kd,hkd,rfl⟩) fun n b hn hb=>hq (n+1) _ (by omega) (.make hkd hm hF fx hb)
theorem CD{N B:Nat}{ks:List Kd}{hs:List Hd}{ws:List Str}{sc:Sc}{f:Nat}{h:Hd}{u fm:Int}{x:Str}{Q:L2.T->Prop}{nx:Sq->Prop}(C:ya N B ks hs ws sc f h u x Q)(hne:sc ≠ [])(o10 o11 o12 o13 o14 o15 o16 o17 o18 o19:Sl) :
  qNm N { nx:=nx,rt:=Q } [.r .cY,.r (tW ks hs ws),.r (.l (sc.map tP)),.r (.i f),.r (.rm u),.r (tKs ks),.r (.l (hs.map tH)),.r (.l (ws.map .s)),.o (.i fm),.o (.s x),o10,o11,o12,o13,o14,o15,o16,o17,o18,o19]:=by
 obtain⟨W,kdm,h3,fx,hE,go,hq⟩:=C;have lsc:((sc.map tP).length:Int)=sc.length:=by rw[List.length_map]
 have l0:0<sc.length:=List.length_pos_iff.mpr hne;refine⟨by rw[lsc];omega,by rw[lsc];omega,fun r5 r50 r51=>?_⟩
 rw[lsc]at r51;obtain⟨⟨y,k⟩,hy,ey⟩:=e7 (f:=tP) r50 r51;refine⟨_,ey,rfl,_,rfl,rfl,rfl,rfl,rfl,bH (by rw[List.length_map];show sc.length+1<=10000;omega),bh gx _,rfl,?_⟩
 exact go (kdm _ hy) fun n b hn hb=>hq (n+1) _ (by omega) (.name hy fx hb)
theorem CG{N B:Nat}{ks:List Kd}{hs:List Hd}{ws:List Str}{sc:Sc}{f:Nat}{h:Hd}{u fm:Int}{x:Str}{Q:L2.T->Prop}(C:ya N B ks hs ws sc f h u x Q)(o10 o11 o12 o13 o14 o15 o16 o17 o18 o19:Sl) :
  qCl N { nx:=fun _=>Q .n,rt:=Q } [.r .cY,.r (tW ks hs ws),.r (.l (sc.map tP)),.r (.i f),.r (.rm u),.r (tKs ks),.r (.l (hs.map tH)),.r (.l (ws.map .s)),.o (.i fm),.o (.s x),o10,o11,o12,o13,o14,o15,o16,o17,o18,o19]:=by
 obtain⟨W,kdm,h3,fx,hE,go,hq⟩:=id C;refine⟨rfl,bu (fun _=>?_) (fun _=>xg C _ _ _ _ _ _ _ _ _ _)⟩
 have lh:((hs.map tH).length:Int)=hs.length:=by rw[List.length_map]
 have h1':=W.h1;have h8':=W.h8;refine⟨by rw[lh];omega,by rw[lh];omega,fun g g0 g1=>?_⟩
 rw[lh]at g1;obtain⟨hd,hhd,eg⟩:=e7 (f:=tH) g0 g1;obtain⟨q1,q2,q3,q4⟩:=W.hp hd hhd;refine⟨_,eg,_,rfl,aB (by rw[List.length_map];omega),fun i ys=>ys =((hd.2.1.take i).map (·.2)).map .s,rfl,?_,?_⟩
 ·rintro i t ys ht rfl
  rw[List.getElem?_map]at ht;obtain⟨p,hp,rfl⟩:=Option.map_eq_some_iff.mp ht;refine⟨_,rfl,_,rfl,rfl,?_⟩;show _ ++ [L2.T.s p.2]=_;rw[List.take_add_one,hp];simp
 ·rintro ys rfl
  rw[show(hd.2.1.map tP).length=hd.2.1.length by rw[List.length_map],List.take_length]
  refine⟨sc,hd.2.1.map (·.2),_,.inr rfl,rfl,by omega,by rw[List.length_map];omega,xg C _ _ _ _ _ _ _ _ _ _,fun ns hF=>?_⟩
  refine⟨rfl,_,eg,_,rfl,rfl,aA _,rfl,_,eg,_,rfl,rfl,bH (by rw[List.length_map];show sc.length+1<=10000;omega),bh gx _,rfl,?_⟩
  exact go q4 fun n b hn hb=>hq (n+1) _ (by omega) (.call hhd hF fx hb)
theorem Ih{r:Int}(h0:0<=r)(h1:r<3):∃ w:Str,atI [L2.T.s "pay",L2.T.s "pay",L2.T.s "get"] r=some (.s w)/\(w = "pay" \/ w = "get"):=by
 obtain⟨n,rfl⟩:∃ n:Nat,r=n:=⟨r.toNat,by omega⟩
 match n,h1 with
 | 0,_=>exact⟨_,rfl,.inl rfl⟩
 | 1,_=>exact⟨_,rfl,.inl rfl⟩
 | 2,_=>exact⟨_,rfl,.inr rfl⟩
 | n+3,h=>omega
theorem Dp(T:Txt K mg a)(N:Nat):aH P w K mg base CX0 (2*N+3) a.fe a.nK ["_law_deal_here","_law_world","_law_scope","_law_f","_law_room"] (spQ K (gL N)):=by
 induction N with
 | zero =>
  refine never fun ts Q hh=>?_
  obtain⟨ks,hs,ws,sc,f,h,u,rfl,W,hf,S,hl,huN,hq⟩:=hh;omega
 | succ N gq =>
  have Hq:=Dm T N gq;have aG:aH P w K mg base CX0 1 a.cE a.ff ["_law_deal_here","_law_many"] (spQ K c6):=jh (fW T);have nW:aH P w K mg base CX0 2 a.fc a.nJ ["_law_deal_here","_law_scope","_law_some"] (spQ K mT):=xA T;have x8:aH P w K mg base CX0 3 a.dR a.mh ["_law_deal_here","_law_world","_law_scope","_law_f"] (spQ K jC):=AJ T;refine T.fu.okQ bJ (fun ts Q h=>?_) (fun cdv A outer s H E hr=>?_)
  ·obtain⟨ks,hs,ws,sc,f,h,u,rfl,_⟩:=h;rfl
  ·have hu:=cv hr;refine⟨_,_,((ag (qM (g:=(Tg.tp [5,6,7])) (i:=1) (pv 1) (bb (K:=K) (n:=3) rfl rfl (aw (ar (i:=5) bJ.nd rfl (Or.inl rfl)) (aw (ar (i:=6) bJ.nd rfl (Or.inl rfl)) (aw (ar (i:=7) bJ.nd rfl (Or.inl rfl)) a9)))))
 (ag (ay (i:=8) bJ.nd rfl (Or.inl rfl) (ao aG (hr.mono (by first|decide|omega)) rfl T.aU T.aJ.kp T.aN (ae (qv 0) (ae (QPF.w ai) (ax.w af)))))
 (ag (cg (QPW.pt (xh (aQ AF (qH (g':=fun i j=>.b (decide (i<j))) fun _ _ _ _=>.b _) (aI _) (CN (qv 4) (QPF.w ai)) (QPF.w ai)) (xh (aQ (cQ hu rfl) cc (aI _) (qv 8) (QPF.w ai)) (vg (aQ AG (qH (g':=fun i j=>.b (decide (j<i))) fun _ _ _ _=>.b _) (aI _) (QPF.w (aT (aL rfl) bf (by rfl) T.cw (by kernel_rfl) (ae (qv 2) (ax.w af)))) (QPF.w ai))))))
 (aq (bV (ao x8 (hr.mono (by first|decide|omega)) rfl T.xB T.iL.kp T.mj (ae (qv 0) (ae (qv 1) (ae (qv 2) (ae (qv 3) (ax.w af))))))))
 bg)
 (ag (tU (i:=4) (pv 4) (pv 4) (QPF.w ai))
 (ag (ay (i:=9) bJ.nd rfl (Or.inl rfl) (QPE.f (az (qv 7) (QPF.w (aT (aL rfl) bf (by rfl) T.cw (by kernel_rfl) (ae (qv 2) (ax.w af)))))))
 (ag (cg (aQ AF (qH (g':=fun i j=>.b (decide (i<j))) fun _ _ _ _=>.b _) (aI _) (qv 8) (QPF.w ai))
 (ag (ay (i:=10) bJ.nd rfl (Or.inl rfl) (bT (QPF.w ai) (QPF.w (ao aG (hr.mono (by first|decide|omega)) rfl T.aU T.aJ.kp T.aN (ae (qv 0) (ae (QPF.w (gI (bo (ah ai (ah ai (ah ai af)))) (QPF.w (ao aG (hr.mono (by first|decide|omega)) rfl T.aU T.aJ.kp T.aN (ae (qv 0) (ae (QPF.w ai) (ax.w af))))))) (ax.w af)))))))
 (ag (ay (i:=11) bJ.nd rfl (Or.inl rfl) (gI (bo (qR (by rfl))) (QPF.w (ao aG (hr.mono (by first|decide|omega)) rfl T.aU T.aJ.kp T.aN (ae (qv 0) (ae (QPF.w ai) (ax.w af)))))))
 (aq (bV (aS (ah (QPE.f (qv 11)) (ah (QPE.f (qv 10)) (ah (ao gq (hr.mono (by first|decide|omega)) rfl T.kN T.fu.kp T.ij (ae (qv 0) (ae (qv 1) (ae (qv 2) (ae (qv 3) (ae (qv 4) (ax.w af))))))) af))))))))
 bg)
 (ag (cg (QPW.pt (kD (aQ AF (qH (g':=fun i j=>.b (decide (i<j))) fun _ _ _ _=>.b _) (aI _) (qv 8) (QPF.w ai)) (iF (aQ (uc hu rfl) pA (aI _) (qv 2) (QPF.w (bo af))))))
 (aq (bV (ao Hq (hr.mono (by first|decide|omega)) rfl T.GL T.nZ.kp T.wD (ae (qv 0) (ae (qv 1) (ae (qv 2) (ae (qv 3) (ae (qv 4) (ax.w af)))))))))
 bg)
 (ag (cg (QPW.pt (kD (aQ (cQ hu rfl) cc (aI _) (qv 8) (QPF.w ai)) (iF (aQ (uc hu rfl) pA (aI _) (qv 2) (QPF.w (bo af))))))
 (ag (qN (g:=(Tg.tp [12,13])) (az (qv 2) (QPF.w (ao aG (hr.mono (by first|decide|omega)) rfl T.aU T.aJ.kp T.aN (ae (qv 0) (ae (QPF.w (aT (aL rfl) bf (by rfl) T.cw (by kernel_rfl) (ae (qv 2) (ax.w af)))) (ax.w af)))))) (bb (K:=K) (n:=2) rfl rfl (aw (ar (i:=12) bJ.nd rfl (Or.inl rfl)) (aw (ar (i:=13) bJ.nd rfl (Or.inl rfl)) a9))))
 (aq (bV (aS (ah bR (ah (QPE.f (qv 9)) (ah (QPE.f (qv 12)) (ah (ao gq (hr.mono (by first|decide|omega)) rfl T.kN T.fu.kp T.ij (ae (qv 0) (ae (qv 1) (ae (QPF.w (bT (qv 2) (QPF.w (bo (ah (aS (ah (QPE.f (qv 9)) (ah (QPE.f (qv 13)) af))) af))))) (ae (qv 3) (ae (qv 4) (ax.w af))))))) af))))))))
 bg)
 (ag (cg (aQ (cQ hu rfl) cc (aI _) (qv 8) (QPF.w ai))
 (ag (ay (i:=14) bJ.nd rfl (Or.inl rfl) (ao aG (hr.mono (by first|decide|omega)) rfl T.aU T.aJ.kp T.aN (ae (qv 0) (ae (QPF.w (aT (aL rfl) bf (by rfl) T.cw (by kernel_rfl) (ae (qv 6) (ax.w af)))) (ax.w af)))))
 (ag (ay (i:=15) bJ.nd rfl (Or.inl rfl) (ao nW (hr.mono (by first|decide|omega)) rfl T.rN T.iA.kp T.kZ (ae (qv 0) (ae (qv 2) (ae (QPF.w (ez rfl (qO (az (az (qv 6) (qv 14)) (QPF.w ai))) (N':=["_law_param"]) (.own rfl .nil) (dZ (g:=(Tg.nm 0)) (fun _ _ _ _ _=>⟨(ar (i:=0) (show(["_law_param"]:List Str).Nodup from by decide +kernel) rfl (Or.inl rfl)),(QPE.f (az (qv 0) (QPF.w ai)))⟩)))) (ax.w af))))))
 (aq (cg (aQ rh mG (aI _) (qv 15) (QPF.w mM))
 (aq (bV (aS (ah bR (ah (QPE.f (qv 9)) (ah (QPE.f (az (az (qv 6) (qv 14)) (QPF.w ai))) (ah (QPE.f (qv 15)) (ah (ao gq (hr.mono (by first|decide|omega)) rfl T.kN T.fu.kp T.ij (ae (qv 0) (ae (qv 1) (ae (QPF.w (bT (qv 2) (QPF.w (bo (ah (aS (ah (QPE.f (qv 9)) (ah (QPE.f (az (az (qv 6) (qv 14)) (QPF.w ai))) af))) af))))) (ae (qv 3) (ae (qv 4) (ax.w af))))))) af))))))))
 bg))))
 bg)
 (ag (qN (g:=(Tg.tp [16,17])) (az (qv 5) (QPF.w (ao aG (hr.mono (by first|decide|omega)) rfl T.aU T.aJ.kp T.aN (ae (qv 0) (ae (QPF.w (aT (aL rfl) bf (by rfl) T.cw (by kernel_rfl) (ae (qv 5) (ax.w af)))) (ax.w af)))))) (bb (K:=K) (n:=2) rfl rfl (aw (ar (i:=16) bJ.nd rfl (Or.inl rfl)) (aw (ar (i:=17) bJ.nd rfl (Or.inl rfl)) a9))))
 (ag (qN (g:=(Tg.tp [18,19])) (az (qv 17) (QPF.w (ao aG (hr.mono (by first|decide|omega)) rfl T.aU T.aJ.kp T.aN (ae (qv 0) (ae (QPF.w (aT (aL rfl) bf (by rfl) T.cw (by kernel_rfl) (ae (qv 17) (ax.w af)))) (ax.w af)))))) (bb (K:=K) (n:=2) rfl rfl (aw (ar (i:=18) bJ.nd rfl (Or.inl rfl)) (aw (ar (i:=19) bJ.nd rfl (Or.inl rfl)) a9))))
 (ag (ay (i:=15) bJ.nd rfl (Or.inl rfl) (ao nW (hr.mono (by first|decide|omega)) rfl T.rN T.iA.kp T.kZ (ae (qv 0) (ae (qv 2) (ae (qv 19) (ax.w af))))))
 (ag (cg (aQ Gx Cu (aI _) (qv 15) (QPF.w mM))
 (aq (bV (ao x8 (hr.mono (by first|decide|omega)) rfl T.xB T.iL.kp T.mj (ae (qv 0) (ae (qv 1) (ae (qv 2) (ae (qv 3) (ax.w af))))))))
 bg)
 (aq (bV (aS (ah bR (ah (QPE.f (qv 9)) (ah (QPE.f (qv 18)) (ah (QPE.f (qv 15)) (ah (ao gq (hr.mono (by first|decide|omega)) rfl T.kN T.fu.kp T.ij (ae (qv 0) (ae (qv 1) (ae (QPF.w (bT (qv 2) (QPF.w (bo (ah (aS (ah (QPE.f (qv 9)) (ah (QPE.f (qv 16)) af))) af))))) (ae (qv 3) (ae (qv 4) (ax.w af))))))) af)))))))))))))))))))))),fun ts Q hh=>?_⟩
   obtain⟨ks,hs,ws,sc,f,h,u,rfl,W,hf,S,hl,huN,hq⟩:=hh;have hE:jC [.cY,tW ks hs ws,.l (sc.map tP),.i f] Q:=⟨ks,hs,ws,sc,f,h,rfl,W,hf,S,fun n b hn hb=>hq n b (Nat.le_trans hn (zl _)) hb⟩
   have lsc:((sc.map tP).length:Int)=sc.length:=by rw[List.length_map]
   have wl:=W.wl;have hsl:sc.length<ws.length:=by omega
   have ex:atI (ws.map L2.T.s) ((sc.map tP).length:Int)=some (.s ws[sc.length]):=by rw[List.length_map];exact lu (List.getElem?_eq_getElem hsl)
   have hx:ws[sc.length]? = some ws[sc.length]:=List.getElem?_eq_getElem hsl;have fx:ws[sc.length] ∉ sc.map (·.1):=S.fresh W.wn hx
   generalize ws[sc.length]=x at ex fx hx
   refine⟨_,rfl,by decide,by decide,fun fm f0 f1=>⟨rfl,fun r hr1=>bu (fun _=>hE) (fun h1=>⟨rfl,bu (fun _=>hE) (fun _=>bu (fun _=>hE) (fun h3=>?_))⟩)⟩⟩
   have h1:¬ r<1:=fun z=>h1 (decide_eq_true z)
   have h3:sc.length<=16:=by
    have h3:¬(16:Int)<((sc.map tP).length:Int):=fun z=>h3 (decide_eq_true z)
    rw[lsc]at h3;omega
   have u1:u.toNat =(u - 1).toNat+1:=by omega
   have uN:(u - 1).toNat<N:=by omega
   have s1:=u6 (u - 1).toNat;rw[<- u1]at s1;have go:∀{k:Str},k∈ks.map (·.1)->∀{Q':L2.T->Prop},(∀ n b,n<=sz (u - 1).toNat->Snd ks hs h.2.2 n (sc ++ [(x,k)]) b->Q' b)->gL N [.cY,tW ks hs ws,.l (sc.map tP ++ [tP (x,k)]),.i f,.rm (u - 1)] Q':=fun{k} hk {Q'} hQ =>
    ⟨ks,hs,ws,sc ++ [(x,k)],f,h,u - 1,by rw[List.map_append];rfl,W,hf,S.snoc hx (by omega) hk,by rw[List.length_append];simp;omega,uN,hQ⟩
   have C:ya N (sz (u - 1).toNat) ks hs ws sc f h (u - 1) x Q:=⟨W,S.kd,h3,fx,hE,go,fun n b hn hb=>hq n b (by omega) hb⟩
   refine⟨by decide,_,ex,rfl,bu (fun _=>?_) (fun _=>?_)⟩
   ·refine⟨by decide,by decide,fun r2 r20 r21=>?_⟩
    obtain⟨v2,ev2,hv2⟩:=xt (x:=3) (y:=9) (z:=9999999) r20 r21;refine⟨_,ev2,by omega,by omega,fun c c0 c1=>⟨by decide,by decide,fun r4 r40 r41=>?_⟩⟩
    obtain⟨wd,ew,hw⟩:=Ih r40 r41;refine⟨_,ew,rfl,rfl,ks,hs,ws,sc,f,h,u - 1,rfl,W,hf,S,hl,uN,fun n b hn hb=>hq (n+1) _ (by omega) (.pR hw hb)⟩
   ·refine(fun rest=>bu (fun _=>bu (fun hne=>?_) (fun _=>rest)) (fun _=>rest)) ?_
    ·have JM:sc ≠ []:=fun z=>by rw[z]at hne;exact absurd hne (by decide)
     exact⟨ks,hs,ws,sc,f,h,u - 1,rfl,W,hf,S,by omega,JM,uN,fun n b hn hb=>hq n b (by rw[u1];exact hn) hb⟩
    refine(fun rest=>⟨rfl,bu (fun _=>bu (fun hne=>CD C (fun z=>by rw[z]at hne;exact absurd hne (by decide)) _ _ _ _ _ _ _ _ _ _) (fun _=>rest)) (fun _=>rest)⟩) ?_
    exact CG C _ _ _ _ _ _ _ _ _ _
theorem vx(T:Txt K mg a):aH P w K mg base CX0 66 a.cL a.kU ["_law_deal_here","_law_words_here"] (spQ K yr):=by
 have aG:aH P w K mg base CX0 1 a.cE a.ff ["_law_deal_here","_law_many"] (spQ K c6):=jh (fW T);have EW:aH P w K mg base CX0 2 a.dQ a.mf ["_law_deal_here","_law_words_here"] (spQ K xr):=AI T;have gq:aH P w K mg base CX0 65 a.fe a.nK ["_law_deal_here","_law_world","_law_scope","_law_f","_law_room"] (spQ K (gL 31)):=Dp T 31;refine T.dY.okQ bD (fun ts Q h=>?_) (fun cdv A outer s H E hr=>?_)
 ·obtain⟨ws,rfl,_⟩:=h;rfl
 ·have hu:=cv hr;refine⟨_,_,((ag (ay (i:=2) bD.nd rfl (Or.inr rfl) (ao EW (hr.mono (by first|decide|omega)) rfl T.DM T.kh.kp T.sP (ae (qv 0) (ae (qv 1) (ax.w af)))))
 (ag (ay (i:=3) bD.nd rfl (Or.inl rfl) (ao aG (hr.mono (by first|decide|omega)) rfl T.aU T.aJ.kp T.aN (ae (qv 0) (ae (QPF.w ai) (ax.w af)))))
 (ag (ay (i:=4) bD.nd rfl (Or.inl rfl) (bo af))
 (ag (cb (g:=(Tg.nm 5)) PassesOwn.never rfl (iH rfl T.gg (ae (QPF.w (bT (QPF.w ai) (QPF.w (ao aG (hr.mono (by first|decide|omega)) rfl T.aU T.aJ.kp T.aN (ae (qv 0) (ae (QPF.w (gI (bo (ah ai (ah ai (ah ai (ah ai af))))) (QPF.w (ao aG (hr.mono (by first|decide|omega)) rfl T.aU T.aJ.kp T.aN (ae (qv 0) (ae (QPF.w ai) (ax.w af))))))) (ax.w af))))))) (ax.w af))) (ar (i:=5) bD.nd rfl (Or.inl rfl))
 (ag (ay (i:=6) bD.nd rfl (Or.inl rfl) (gI (bo (ah ai (ah ai (ah ai (ah ai (ah ai (ah ai (ah ai af)))))))) (QPF.w (ao aG (hr.mono (by first|decide|omega)) rfl T.aU T.aJ.kp T.aN (ae (qv 0) (ae (QPF.w ai) (ax.w af)))))))
 (ag (l5 (i:=7) bD.nd rfl (Or.inl rfl) rfl (kF rfl T.gg (ae (qv 6) (ax.w af))) (N':=["_law_k","_law_words_here","_law_kinds_here","_law_deal_here"]) (.own rfl (.got (i:=1) rfl rfl (.inl rfl) (.got (i:=2) rfl rfl (.inl rfl) (.got (i:=0) rfl rfl (.inl rfl) .nil)))) (dZ (g:=(Tg.nm 0)) (fun _ _ _ _ _=>⟨(ar (i:=0) (show(["_law_k","_law_words_here","_law_kinds_here","_law_deal_here"]:List Str).Nodup from by decide +kernel) rfl (Or.inl rfl)),(aS (ah (QPE.f (az (qv 1) (qv 0))) (ah (QPE.f (az (az (qv 2) (QPF.w (ao aG (hr.mono (by first|decide|omega)) rfl T.aU T.aJ.kp T.aN (ae (qv 3) (ae (QPF.w (aT (aL rfl) bf (by rfl) T.cw (by kernel_rfl) (ae (qv 2) (ax.w af)))) (ax.w af)))))) (QPF.w ai))) af)))⟩)))
 (aq (c5 (i:=4) (pv 4) (aS (ah (QPE.f (az (qv 1) (QPF.w (vj (QPF.w (bT (qv 3) (qv 5))) (QPF.w ai))))) (ah (bq (b9 rfl) b7 (by rfl) T.dv (by kernel_rfl) (ae (qv 7) (ax.w af))) (ah (QPE.f (az (az (qv 2) (QPF.w (ao aG (hr.mono (by first|decide|omega)) rfl T.aU T.aJ.kp T.aN (ae (qv 0) (ae (QPF.w (aT (aL rfl) bf (by rfl) T.cw (by kernel_rfl) (ae (qv 2) (ax.w af)))) (ax.w af)))))) (QPF.w ai))) af)))))))))
 (ag (ay (i:=8) bD.nd rfl (Or.inl rfl) (bo af))
 (ag (cb (g:=(Tg.tp [5,9])) PassesOwn.never rfl (z5 (i:=4) rfl T.lD (by kernel_rfl) (pv 4)) (bb (K:=K) (n:=2) rfl rfl (aw (ar (i:=5) bD.nd rfl (Or.inl rfl)) (aw (ar (i:=9) bD.nd rfl (Or.inl rfl)) a9)))
 (ag (ay (i:=10) bD.nd rfl (Or.inl rfl) (CM (bo (ah (gI (bo (ah ai (ah ai (ah ai (ah ai (ah ai (ah ai af))))))) (QPF.w (ao aG (hr.mono (by first|decide|omega)) rfl T.aU T.aJ.kp T.aN (ae (qv 0) (ae (QPF.w ai) (ax.w af)))))) af))))
 (aq (c5 (i:=8) (pv 8) (bT (qv 9) (QPF.w (aS (ah (ao gq (hr.mono (by first|decide|omega)) rfl T.kN T.fu.kp T.ij (ae (qv 0) (ae (CL (ae (qv 2) (ae (qv 4) (ae (qv 1) (ax.w af))))) (ae (QPF.w (bq (yV rfl) yi (by rfl) T.wA (by kernel_rfl) (ae (az (qv 9) (QPF.w ai)) (ax.w af)))) (ae (qv 5) (ae (qv 10) (ax.w af))))))) af))))))))
 (aq (bV (aS (ah (QPE.f (qv 2)) (ah (bq (b9 rfl) b7 (by rfl) T.dv (by kernel_rfl) (ae (qv 8) (ax.w af))) af)))))))))))),fun ts Q hh=>?_⟩
  obtain⟨ws,rfl,hl,hnd,hq⟩:=hh;refine⟨ws,rfl,hl,hnd,fun ks gk=>⟨by decide,by decide,fun tn t0 t1=>⟨by decide,by decide,fun r r0 r1=>?_⟩⟩⟩
  obtain⟨v,hv,ev⟩:=e7 (xs:=[2,3,3,8]) (f:=L2.T.i) r0 r1;have hv:v=2\/v=3\/v=3\/v=8:=by simpa using hv
  have k1:=gk.k1;have k2:=gk.k2;have lk:((ks.map tK).length:Int)=ks.length:=by rw[List.length_map]
  refine⟨_,ev,by omega,by omega,fun n n0 n1=>?_⟩
  refine⟨by omega,by omega,fun i q=>∃ hs L o5 o6 o7,q = [.r .cY,.r (.l (ws.map .s)),.o (tKs ks),.o (.i tn),.o (.l L),o5,o6,o7,.no,.no,.no]/\L=hs.map tH/\pX ks ws tn.toNat hs i,⟨[],_,_,_,_,rfl,rfl,⟨rfl,rfl,fun _ z=>nomatch z⟩⟩,?_,?_⟩
  ·rintro i x q hx ⟨hs,L,o5,o6,o7,rfl,rfl,hH⟩
   obtain⟨rfl,hi⟩:=i3 hx;refine⟨_,rfl,by decide,by decide,fun r2 r20 r21=>?_⟩
   obtain⟨m,hm,em⟩:=e7 (xs:=[1,1,2,2,0,3,4]) (f:=L2.T.i) r20 r21;have hm:m=1\/m=1\/m=2\/m=2\/m=0\/m=3\/m=4:=by simpa using hm
   refine⟨_,em,by omega,by omega,aB (by rw[dm];omega),fun p ys=>∃ ps:Sc,ys=ps.map tP/\ps.map (·.1)=ws.take p/\∀ q∈ps,q.2∈ks.map (·.1),⟨[],rfl,rfl,fun _ z=>nomatch z⟩,?_,?_⟩
   ·rintro p y ys hy ⟨ps,rfl,hp1,hp2⟩
    obtain⟨rfl,hp⟩:=i3 hy;have hpw:p<ws.length:=by omega
    have ew:atI (ws.map L2.T.s) (0+((p:Nat):Int))=some (.s ws[p]):=by rw[Int.zero_add];exact lu (by simp[hpw])
    refine⟨_,rfl,_,ew,rfl,by rw[lk];omega,by rw[lk];omega,fun r3 r30 r31=>?_⟩
    rw[lk]at r31;obtain⟨kd,hkd,ek⟩:=e7 (f:=tK) r30 r31;refine⟨_,ek,_,rfl,rfl,ps ++ [(ws[p],kd.1)],by simp[tP],?_,fun q hq'=>?_⟩
    ·rw[List.map_append,hp1];exact take_one (by simp[hpw])
    ·rcases List.mem_append.mp hq' with z|z
     ·exact hp2 q z
     ·rw[List.mem_singleton.mp z];exact List.mem_map.mpr ⟨kd,hkd,rfl⟩
   ·rintro ys ⟨ps,rfl,hp1,hp2⟩
    rw[dm]at hp1;have lps:ps.length=m.toNat:=by
     have:=congrArg List.length hp1
     rw[List.length_map,List.length_take]at this;omega
    have hwi:(tn.toNat+i) % 52<ws.length:=by omega
    have ei:atI (ws.map L2.T.s) ((tn+(0+(i:Int))) % 52)=some (.s ws[(tn.toNat+i) % 52]):=by
     have e:(tn+(0+(i:Int))) % 52 =(((tn.toNat+i) % 52:Nat):Int):=by omega
     rw[e];exact lu (by simp[hwi])
    refine⟨aB (by rw[List.length_map,hH.ln];omega),(by show(0:Int)<52;decide),_,ei,rfl,bh gx _,by rw[lk];omega,by rw[lk];omega,fun r4 r40 r41=>?_⟩
    rw[lk]at r41;obtain⟨kd,hkd,ek⟩:=e7 (f:=tK) r40 r41;refine⟨_,ek,_,rfl,rfl,hs ++ [(ws[(tn.toNat+i) % 52],ps,kd.1)],_,_,_,_,rfl,by simp[tH],hH.snoc (List.getElem?_eq_getElem hwi) ⟨by show ps.length<=4;omega,hp2,by show ps.map (·.1)=ws.take ps.length;rw[lps];exact hp1,List.mem_map.mpr ⟨kd,hkd,rfl⟩⟩⟩
  ·rintro q ⟨hs,L,o5,o6,o7,rfl,rfl,hH⟩
   rw[dm]at hH;have W:Wld ks hs ws:=⟨gk,hl,hnd,by rw[hH.ln];omega,by rw[hH.ln];omega,hH.nd hl hnd (by omega),hH.hp⟩
   refine⟨fun i q=>∃ fs L o5 o9 o10,q = [.r .cY,.r (.l (ws.map .s)),.o (tKs ks),.o (.i tn),.r (.l (hs.map tH)),o5,o6,o7,.o (.l L),o9,o10]/\L=fs.map tF/\fs.map (·.1)=hs.take i/\∀ f∈fs,Snd ks hs f.1.2.2 f.2.2 f.1.2.1 f.2.1/\f.2.2<=50000,⟨[],_,_,_,_,rfl,rfl,rfl,fun _ z=>nomatch z⟩,?_,?_⟩
   ·rintro i x q hx ⟨fs,L,o5,o9,o10,rfl,rfl,hf1,hf2⟩
    obtain⟨y,hy,rfl⟩:=jS hx;rw[List.getElem?_map]at hy;obtain⟨hd,hhd,rfl⟩:=Option.map_eq_some_iff.mp hy;have sg:=List.mem_of_getElem? hhd;obtain⟨q1,q2,q3,q4⟩:=W.hp hd sg;have lfs:fs.length=i:=by
     have:=congrArg List.length hf1
     rw[List.length_map,List.length_take]at this
     have:=(List.getElem?_eq_some_iff.mp hhd).1
     omega
    have lhs:=W.h8;have hil:=(List.getElem?_eq_some_iff.mp hhd).1;refine⟨_,rfl,by decide,by decide,fun r5 r50 r51=>?_⟩
    obtain⟨u,hu5,eu⟩:=e7 (xs:=[3,6,10,6,10,30]) (f:=L2.T.i) r50 r51;have hu5:u=3\/u=6\/u=10\/u=6\/u=10\/u=30:=by simpa using hu5
    refine⟨_,eu,aB (by rw[List.length_map];omega),_,rfl,bh gx _,ks,hs,ws,hd.2.1,i,hd,u,rfl,W,hhd,⟨q3,by omega,q2,Nat.le_refl _,by rw[List.take_length]⟩,by omega,by omega,fun n b hn hb=>?_⟩
    refine⟨bH (by show 4<=10000;decide),Iy hd,(by show(b.im&&true)=true;rw[hb.im];rfl),fs ++ [(hd,b,n)],_,_,_,_,rfl,by simp[tF],?_,fun f' hf'=>?_⟩
    ·rw[List.map_append,hf1,List.take_add_one,hhd];rfl
    ·rcases List.mem_append.mp hf' with z|z
     ·exact hf2 f' z
     ·rw[List.mem_singleton.mp z];exact⟨hb,Nat.le_trans hn (Nat.le_trans (B9 (by omega)) HB)⟩
   ·rintro q ⟨fs,L,o5,o9,o10,rfl,rfl,hf1,hf2⟩
    rw[de,List.length_map,List.take_length]at hf1;have him:L2.T.ims (fs.map tF)=true:=by
     have go:∀(l:List Fn),(∀ f∈l,f.2.1.im=true)->L2.T.ims (l.map tF)=true:=by
      intro l
      induction l with
      | nil=>intro _;rfl
      | cons f r ih =>
       intro h;show((true&&(L2.T.ims (f.1.2.1.map tP)&&(true&&(f.2.1.im&&true))))&&L2.T.ims (r.map tF))=true;rw[bh gx,h f List.mem_cons_self,ih fun f hf=>h f (List.mem_cons_of_mem _ hf)];rfl
     exact go fs fun f hf=>(hf2 f hf).1.im
    refine⟨sf ks,him,hq ks fs ⟨gk,?_,?_,fun f hf=>?_,fun f hf=>?_⟩⟩
    ·have:=congrArg List.length hf1
     rw[List.length_map]at this
     have:=W.h8
     omega
    ·have:fs.map (·.1.1) =(fs.map (·.1)).map (·.1):=by rw[List.map_map];rfl
     rw[this,hf1];exact W.hn
    ·have hm:f.1∈hs:=by rw[<- hf1];exact List.mem_map.mpr ⟨f,hf,rfl⟩
     obtain⟨q1,q2,q3,q4⟩:=W.hp f.1 hm;exact⟨q1,q2,by rw[q3];exact hnd.sublist (List.take_sublist _ _),q4⟩
    ·rw[hf1];exact hf2 f hf
theorem jG(T:Txt K mg a):aH P w K mg base CX0 1 a.dc a.hJ ["known","name"] (spQ K kG):=by
 refine T.el.okQ CA (fun ts Q h=>?_) (fun cdv A outer s H E hr=>?_)
 ·obtain⟨m,ks,x,rfl,_⟩:=h;rfl
 ·have hu:=cv hr;refine⟨_,_,((aq (cg (aQ (yz hu) tN rfl (qv 1) (qv 0))
 (aq fC)
 bg))),fun ts Q h=>?_⟩
  obtain⟨m,ks,x,rfl,hm,hx,hq⟩:=h;cases m with
  | d ks'=>cases hm;exact bu (fun z=>absurd (show(!(bL ks (.inr x)).isSome)=true from z) (by rw[hx];decide)) (fun _=>hq)
  | fd o vs ks'=>cases hm;exact bu (fun z=>absurd (show(!(bL ks (.inr x)).isSome)=true from z) (by rw[hx];decide)) (fun _=>hq)
  | dp p ks'=>cases hm;exact bu (fun z=>absurd (show(!(bL ks (.inr x)).isSome)=true from z) (by rw[hx];decide)) (fun _=>hq)
  | _=>cases hm
theorem jF(T:Txt K mg a):aH P w K mg base CX0 1 a.bB a.dw ["bound","name","kind"] (spQ K i5):=by
 refine T.cM.okQ qJ (fun ts Q h=>?_) (fun cdv A outer s H E hr=>?_)
 ·obtain⟨m,ks,x,k,rfl,_⟩:=h;rfl
 ·have hu:=cv hr;refine⟨_,_,((aq (cg (aQ ud mH (aI _) (fR (qv 0) (qv 1)) (qv 2))
 (aq fC)
 bg))),fun ts Q h=>?_⟩
  obtain⟨m,ks,x,k,rfl,hm,hx,hq⟩:=h;cases m with
  | d ks'=>cases hm;exact⟨_,hx,rfl,bu (fun z=>absurd z (by simp)) (fun _=>hq)⟩
  | fd o vs ks'=>cases hm;exact⟨_,hx,rfl,bu (fun z=>absurd z (by simp)) (fun _=>hq)⟩
  | dp p ks'=>cases hm;exact⟨_,hx,rfl,bu (fun z=>absurd z (by simp)) (fun _=>hq)⟩
  | _=>cases hm
theorem fX(T:Txt K mg a):aH P w K mg base CX0 1 a.cF a.fg ["bound","name","what"] (spM K 0 gN):=by
 refine T.et.okM CB (fun ts Q h=>?_) (fun cdv A outer s H E hr=>?_)
 ·obtain⟨p,ks,x,v,rfl,_⟩:=h;rfl
 ·have hu:=cv hr;refine⟨_,_,((ag (cg (aQ (GA hu) tN rfl (qv 1) (qv 0))
 (aq fC)
 bg)
 (aq (CJ (i:=0) hu (pv 0) (qv 1) (qv 2))))),fun ts Q p' ks' h ht=>?_⟩
  obtain⟨p,ks,x,v,rfl,hx,hi,hv,hl,hq⟩:=h;cases ht;refine bu (fun z=>absurd (show(bL ks' (.inr x)).isSome=true from z) (by rw[hx];decide)) (fun _=>⟨hl,hi,hv,_,rfl,D6 hi hv,hq⟩)
theorem Dj(T:Txt K mg a):aH P w K mg base CX0 1 a.a7 a.dU ["self","kinds","makers","functions"] (qm a.aF ["kinds","makers","functions"]):=by
 refine Fun.ok (k:=0) T.dW om (fun vs H Q E h=>?_) fun cdv A outer s H vs Q E hr h=>?_
 ·obtain⟨x,dx,args,rfl,hl,_⟩:=h;show args.length+1=4;rw[hl];rfl
 ·obtain⟨x,dx,args,rfl,hl,hx,hq⟩:=h;obtain⟨v1,v2,v3,rfl⟩:∃ v1 v2 v3,args = [v1,v2,v3]:=by
   match args,hl with
   | [v1,v2,v3],_=>exact⟨v1,v2,v3,rfl⟩
  refine⟨_,bK (vo (pv 0) (pv 1) rfl) (bK (vo (pv 0) (pv 2) rfl) (fS (vo (pv 0) (pv 3) rfl))),?_⟩;refine⟨_,rfl,_,rfl,x,a.aF,dx,_,rfl,hx,T.dy,T.cR,(by show 0<1000;decide),?_⟩
  refine⟨_,rfl,_,rfl,x,a.aF,dx,_,rfl,au,T.dy,T.gw,(by show 1<1000;decide),?_⟩
  refine⟨_,rfl,_,rfl,x,a.aF,dx,_,rfl,au,T.dy,T.d3,(by show 2<1000;decide),?_⟩
  rw[lR,lR];exact hq
theorem nc(T:Txt K mg a):aH P w K mg base CX0 2 a.bj a.du ["kinds","rows"] (spQ K jB):=by
 have ej:aH P w K mg base CX0 1 a.dc a.hJ ["known","name"] (spQ K kG):=jG T;have di:aH P w K mg base CX0 1 a.cF a.fg ["bound","name","what"] (spM K 0 gN):=fX T;refine T.cz.okQ bE (fun ts Q h=>?_) (fun cdv A outer s H E hr=>?_)
 ·obtain⟨m,ks,rfl,_⟩:=h;rfl
 ·have hu:=cv hr;refine⟨_,_,((ag (ay (i:=2) bE.nd rfl (Or.inl rfl) l7)
 (ag (cb (g:=(Tg.tp [3,4])) PassesOwn.never rfl (eV (QPE.f (qv 1))) (bb (K:=K) (n:=2) rfl rfl (aw (ar (i:=3) bE.nd rfl (Or.inl rfl)) (aw (ar (i:=4) bE.nd rfl (Or.inl rfl)) a9)))
 (aq (cb (g:=(Tg.tp [5,6])) PassesOwn.never rfl (eV (QPE.f (qv 4))) (bb (K:=K) (n:=2) rfl rfl (aw (ar (i:=5) bE.nd rfl (Or.inl rfl)) (aw (ar (i:=6) bE.nd rfl (Or.inl rfl)) a9)))
 (ag (dn (i:=2) (j:=0) di (hr.mono (by first|decide|omega)) rfl T.i9 T.et.kp T.gm (dq (i:=2) (pv 2) (ae (qv 5) (ae (QPF.w (aS (ah (QPE.f (qv 6)) (ah (QPE.f (qv 3)) af)))) (ax.w af)))))
 (aq (cb (g:=(Tg.nm 7)) PassesOwn.never rfl (eV (QPE.f (qv 6))) (ar (i:=7) bE.nd rfl (Or.inl rfl))
 (aq (cO (QPF.w (ao ej (hr.mono (by first|decide|omega)) rfl T.i8 T.el.kp T.gh (ae (qv 0) (ae (qv 7) (ax.w af)))))))))))))
 (aq (lZ (i:=2) (pv 2)))))),fun ts Q h=>?_⟩
  obtain⟨m,ks,rfl,hm,G,hq⟩:=h;refine⟨sf ks,fun i q=>∃ D o3 o4 o5 o6 o7,q = [.r m,.r (tKs ks),.o (.d D),o3,o4,o5,o6,o7]/\D=en gM (mkL (ks.take i)),⟨_,_,_,_,_,_,rfl,rfl⟩,?_,?_⟩
  ·rintro i t q hx ⟨D,o3,o4,o5,o6,o7,rfl,rfl⟩
   rw[List.getElem?_map]at hx;obtain⟨kd,hkd,rfl⟩:=Option.map_eq_some_iff.mp hx;have sg:=List.mem_of_getElem? hkd;have l6:=G.ne kd sg;have lL:(mkL (ks.take i)).length<=36:=DL (by rw[List.length_take];have:=G.k2;omega) fun k hk=>G.ne k (List.mem_of_mem_take hk)
   refine⟨_,rfl,d6 kd.2,fun j q=>∃ D o5 o6 o7,q = [.r m,.r (tKs ks),.o (.d D),.r (.s kd.1),.r (tMs kd.2),o5,o6,o7]/\D=en gM (mkL (ks.take i)++(kd.2.take j).map (mkR kd)),⟨_,_,_,_,rfl,by simp⟩,?_,?_⟩
   ·rintro j t q hx ⟨D,o5,o6,o7,rfl,rfl⟩
    rw[List.getElem?_map]at hx;obtain⟨mm,hmm,rfl⟩:=Option.map_eq_some_iff.mp hx;have hf:=AZ G.mn hkd hmm;obtain⟨fl4,flk⟩:=G.fl kd sg mm (List.mem_of_getElem? hmm);refine⟨_,rfl,bQ iT _,fun p=>⟨aA _,rfl,(by show(true&&(L2.T.im (gM (mm.2,kd.1))&&true))=true;rw[iT];rfl),p,_,mm.1,gM (mm.2,kd.1),rfl,gc hf,bQ iT _,iT _,aB (by rw[jg,List.length_append,List.length_map,List.length_take];omega),?_⟩⟩
    rw[jf hf];refine⟨aA _,fun _ q=>∃ o7,q = [.r m,.r (tKs ks),.o (.d (en gM (mkL (ks.take i)++(kd.2.take j).map (mkR kd) ++ [(mm.1,(mm.2,kd.1))]))),.r (.s kd.1),.r (tMs kd.2),.r (.s mm.1),.r (.t (mm.2.map .s)),o7],⟨_,rfl⟩,?_,?_⟩
    ·rintro k t q hx ⟨o7,rfl⟩
     rw[List.getElem?_map]at hx;obtain⟨f,hf',rfl⟩:=Option.map_eq_some_iff.mp hx;exact⟨_,rfl,m,_,f,rfl,hm,me G.nd (flk f (List.mem_of_getElem? hf')),_,rfl⟩
    ·rintro q ⟨o7,rfl⟩
     refine⟨_,_,_,_,rfl,?_⟩;rw[List.take_add_one,hmm,List.append_assoc];simp[mkR]
   ·rintro q ⟨D,o5,o6,o7,rfl,rfl⟩
    refine⟨_,_,_,_,_,_,rfl,?_⟩;rw[show(kd.2.map tM).length=kd.2.length by rw[List.length_map],List.take_length,A2 hkd]
  ·rintro q ⟨D,o3,o4,o5,o6,o7,rfl,rfl⟩
   rw[show(ks.map tK).length=ks.length by rw[List.length_map],List.take_length]
   exact hq
theorem jH(T:Txt K mg a):aH P w K mg base CX0 2 a.aW a.cu ["rows"] (spQ K pI):=by
 have di:aH P w K mg base CX0 1 a.cF a.fg ["bound","name","what"] (spM K 0 gN):=fX T;refine T.bU.okQ cf (fun ts Q h=>?_) (fun cdv A outer s H E hr=>?_)
 ·obtain⟨fs,rfl,_⟩:=h;rfl
 ·have hu:=cv hr;refine⟨_,_,((ag (ay (i:=1) cf.nd rfl (Or.inl rfl) l7)
 (ag (cb (g:=(Tg.nm 2)) PassesOwn.never rfl (eV (QPE.f (qv 0))) (ar (i:=2) cf.nd rfl (Or.inl rfl))
 (ag (ay (i:=3) cf.nd rfl (Or.inl rfl) (bq (b9 rfl) b7 (by rfl) T.dv (by kernel_rfl) (ae (QPF.w (ez rfl (qO (az (qv 2) (QPF.w ai))) (N':=["name","kind"]) (.own rfl (.own rfl .nil)) (dZ (g:=(Tg.tp [0,1])) (fun _ _ _ _ _=>⟨(bb (K:=K) (n:=2) rfl rfl (aw (ar (i:=0) (show(["name","kind"]:List Str).Nodup from by decide +kernel) rfl (Or.inl rfl) (Or.inr rfl)) (aw (ar (i:=1) (show(["name","kind"]:List Str).Nodup from by decide +kernel) rfl (Or.inl rfl) (Or.inr rfl)) a9))),(QPE.f (qv 1))⟩)))) (ax.w af))))
 (aq (dn (i:=1) (j:=0) di (hr.mono (by first|decide|omega)) rfl T.i9 T.et.kp T.gm (dq (i:=1) (pv 1) (ae (az (qv 2) (QPF.w ai)) (ae (QPF.w (aS (ah (QPE.f (qv 3)) (ah (QPE.f (az (qv 2) (QPF.w ai))) af)))) (ax.w af))))))))
 (aq (lZ (i:=1) (pv 1)))))),fun ts Q h=>?_⟩
  obtain⟨fs,rfl,hb,h8,hn,hq⟩:=h;refine⟨Bh fun f hf=>(hb f hf).1,fun i q=>∃ D o2 o3,q = [.r (.t (fs.map tF)),.o (.d D),o2,o3]/\D=en gM (hsL ((fs.take i).map (·.1))),⟨_,_,_,rfl,rfl⟩,?_,?_⟩
  ·rintro i t q hx ⟨D,o2,o3,rfl,rfl⟩
   rw[List.getElem?_map]at hx;obtain⟨f,hf,rfl⟩:=Option.map_eq_some_iff.mp hx;have l4:=(hb f (List.mem_of_getElem? hf)).2;have fr:f.1.1 ∉ (hsL ((fs.take i).map (·.1))).map (·.1):=by
    rw[pP,List.map_map]
    have:=fresh_at (xs:=([]:List Str)) (ys:=fs.map fun(f:Fn)=>f.1.1) (i:=i) (y:=f.1.1) hn (by rw[List.getElem?_map,hf];rfl)
    rw[List.nil_append,<- List.map_take]at this;exact this
   refine⟨_,rfl,_,rfl,aB (by rw[List.length_map];omega),fun j ys=>ys =((f.1.2.1.take j).map (·.2)).map .s,rfl,?_,?_⟩
   ·rintro j y ys hy rfl
    rw[List.getElem?_map]at hy;obtain⟨p,hp,rfl⟩:=Option.map_eq_some_iff.mp hy;refine⟨_,rfl,rfl,?_⟩;show _ ++ [L2.T.s p.2]=_;rw[List.take_add_one,hp];simp
   ·rintro ys rfl
    rw[show(f.1.2.1.map tP).length=f.1.2.1.length by rw[List.length_map],List.take_length]
    refine⟨aA _,bQ iT _,fun p=>⟨_,rfl,aA _,_,rfl,rfl,(by show(true&&(L2.T.im (gM (f.1.2.1.map (·.2),f.1.2.2))&&true))=true;rw[iT];rfl),p,_,f.1.1,gM (f.1.2.1.map (·.2),f.1.2.2),rfl,gc fr,bQ iT _,iT _,aB (by rw[jg];unfold hsL;rw[List.length_map,List.length_map,List.length_take];omega),?_⟩⟩
    rw[jf fr];refine⟨_,_,_,rfl,?_⟩;rw[List.take_add_one,hf,List.map_append];unfold hsL;simp
  ·rintro q ⟨D,o2,o3,rfl,rfl⟩
   rw[show(fs.map tF).length=fs.length by rw[List.length_map],List.take_length]
   exact hq
theorem rl(T:Txt K mg a):aH P w K mg base CX0 2 a.bN a.eD ["arm","fields","above"] (spQ K mQ):=by
 have di:aH P w K mg base CX0 1 a.cF a.fg ["bound","name","what"] (spM K 0 gN):=fX T;refine T.dz.okQ dN (fun ts Q h=>?_) (fun cdv A outer s H E hr=>?_)
 ·obtain⟨x,b,m,ns,fs,sc,rfl,_⟩:=h;rfl
 ·have hu:=cv hr;refine⟨_,_,((ag (cg (aQ ud mH (aI _) (QPF.w (aT (aL rfl) bf (by rfl) T.cw (by kernel_rfl) (ae (az (qv 0) (QPF.w ai)) (ax.w af)))) (QPF.w (aT (aL rfl) bf (by rfl) T.cw (by kernel_rfl) (ae (qv 1) (ax.w af)))))
 (aq fC)
 bg)
 (ag (ay (i:=3) dN.nd rfl (Or.inl rfl) (bq nO qG (by rfl) T.wB (by kernel_rfl) (ae (qv 2) (ax.w af))))
 (ag (cb (g:=(Tg.tp [4,5])) PassesOwn.never rfl (zZ rfl T.BO (by kernel_rfl) (ae (az (qv 0) (QPF.w ai)) (ae (qv 1) (ax.w af)))) (bb (K:=K) (n:=2) rfl rfl (aw (ar (i:=4) dN.nd rfl (Or.inl rfl)) (aw (ar (i:=5) dN.nd rfl (Or.inl rfl)) a9)))
 (aq (dn (i:=3) (j:=0) di (hr.mono (by first|decide|omega)) rfl T.i9 T.et.kp T.gm (dq (i:=3) (pv 3) (ae (qv 4) (ae (qv 5) (ax.w af)))))))
 (aq (lZ (i:=3) (pv 3))))))),fun ts Q h=>?_⟩
  obtain⟨x,b,m,ns,fs,sc,rfl,hxi,hbi,⟨o,vs,rfl⟩,hlen,hl1,hl2,hn,hq⟩:=h;refine⟨_,rfl,rfl,bu (fun z=>absurd z (by simp[hlen])) (fun _=>⟨bQ f7 _,_,rfl,aA _,aA _,fun i q=>∃ D o4 o5,q = [.r (.t [x,.t (ns.map .s),b]),.r (.t (fs.map .s)),.r (.fd o vs (en L2.T.s sc)),.o (.d D),o4,o5]/\D=en L2.T.s (sc++(ns.zip fs).take i),⟨_,_,_,rfl,by simp⟩,?_,?_⟩)⟩
  ·rintro i t q hx ⟨D,o4,o5,rfl,rfl⟩
   obtain⟨y,z,h1,h2,rfl⟩:=lQ hx;rw[List.getElem?_map]at h1 h2;obtain⟨n,hn1,rfl⟩:=Option.map_eq_some_iff.mp h1;obtain⟨f,hf1,rfl⟩:=Option.map_eq_some_iff.mp h2;have hz:(ns.zip fs)[i]? = some (n,f):=List.getElem?_zip_eq_some.mpr ⟨hn1,hf1⟩;have hi:=(List.getElem?_eq_some_iff.mp hn1).1;have fr:n ∉ (sc++(ns.zip fs).take i).map (·.1):=by
    rw[List.map_append,List.map_take,lP hlen];exact fresh_at hn hn1
   refine⟨_,rfl,bQ f7 _,fun p=>⟨rfl,p,_,n,.s f,rfl,gc fr,bQ f7 _,rfl,jL (by rw[jg,List.length_append,List.length_take];omega),?_⟩⟩
   rw[jf fr];refine⟨_,_,_,rfl,?_⟩;rw[List.take_add_one,hz,List.append_assoc];rfl
  ·rintro q ⟨D,o4,o5,rfl,rfl⟩
   have e:(p9 (ns.map L2.T.s) (fs.map L2.T.s)).length =(ns.zip fs).length:=by rw[gA,List.length_map,List.length_map,List.length_zip]
   rw[e,List.take_length];exact hq
theorem ug(T:Txt K mg a):aH P w K mg base CX0 2 a.bX a.gd ["makings","piece","bound"] (spM K 2 pH):=by
 have ej:aH P w K mg base CX0 1 a.dc a.hJ ["known","name"] (spQ K kG):=jG T;have iz:aH P w K mg base CX0 1 a.bB a.dw ["bound","name","kind"] (spQ K i5):=jF T;have di:aH P w K mg base CX0 1 a.cF a.fg ["bound","name","what"] (spM K 0 gN):=fX T;refine T.dj.okM cG (fun ts Q h=>?_) (fun cdv A outer s H E hr=>?_)
 ·obtain⟨o,vs,L,pw,b,x,m,k,ns,fs,p,sc,rfl,_⟩:=h;rfl
 ·have hu:=cv hr;refine⟨_,_,((ag (ay (i:=3) cG.nd rfl (Or.inl rfl) (QPE.f (az (qv 1) (QPF.w ai))))
 (ag (cb (g:=(Tg.nm 4)) PassesOwn.never rfl (eV (QPE.f (qv 3))) (ar (i:=4) cG.nd rfl (Or.inl rfl))
 (aq (cO (QPF.w (ao ej (hr.mono (by first|decide|omega)) rfl T.i8 T.el.kp T.gh (ae (qv 2) (ae (qv 4) (ax.w af))))))))
 (ag (cO (QPF.w (ao ej (hr.mono (by first|decide|omega)) rfl T.i8 T.el.kp T.gh (ae (qv 0) (ae (az (qv 1) (QPF.w ai)) (ax.w af))))))
 (ag (ay (i:=5) cG.nd rfl (Or.inl rfl) (QPE.f (az (fR (qv 0) (az (qv 1) (QPF.w ai))) (QPF.w ai))))
 (ag (cg (aQ ud mH (aI _) (QPF.w (aT (aL rfl) bf (by rfl) T.cw (by kernel_rfl) (ae (qv 3) (ax.w af)))) (QPF.w (aT (aL rfl) bf (by rfl) T.cw (by kernel_rfl) (ae (qv 5) (ax.w af)))))
 (aq fC)
 bg)
 (ag (cb (g:=(Tg.tp [4,6])) PassesOwn.never rfl (zZ rfl T.BO (by kernel_rfl) (ae (qv 3) (ae (qv 5) (ax.w af)))) (bb (K:=K) (n:=2) rfl rfl (aw (ar (i:=4) cG.nd rfl (Or.inl rfl)) (aw (ar (i:=6) cG.nd rfl (Or.inl rfl)) a9)))
 (aq (cO (QPF.w (ao iz (hr.mono (by first|decide|omega)) rfl T.lg T.cM.kp T.eO (ae (qv 2) (ae (qv 4) (ae (qv 6) (ax.w af)))))))))
 (aq (dn (i:=2) (j:=0) di (hr.mono (by first|decide|omega)) rfl T.i9 T.et.kp T.gm (dq (i:=2) (pv 2) (ae (az (qv 1) (QPF.w ai)) (ae (az (fR (qv 0) (az (qv 1) (QPF.w ai))) (QPF.w ai)) (ax.w af))))))))))))),fun ts Q p' ks' h ht=>?_⟩
  obtain⟨o,vs,L,pw,b,x,m,k,ns,fs,p,sc,rfl,hL,hm,hF,hsn,hx,hpi,hbi,hsl,hq⟩:=h;cases ht;have lk:=eC (g:=gM) hL hm;have lnn:∀{i:Nat}{n f:Str},ns[i]? = some n->fs[i]? = some f ->(n,f)∈sc:=fun{i n f} h1 h2=>hF.2 (n,f) (List.mem_of_getElem? (i:=i) (List.getElem?_zip_eq_some.mpr ⟨h1,h2⟩))
  refine⟨_,rfl,aA _,aA _,fun i q=>∃ o4,q = [.r (.fd o vs (en gM L)),.r (.t [pw,.s x,.s m,.t (ns.map .s),b]),.o (.dp p' (en L2.T.s sc)),.o (.t (ns.map .s)),o4,.no,.no],⟨_,rfl⟩,?_,?_⟩
  ·rintro i t q hx' ⟨o4,rfl⟩
   rw[List.getElem?_map]at hx';obtain⟨n,hn1,rfl⟩:=Option.map_eq_some_iff.mp hx';have hi:=(List.getElem?_eq_some_iff.mp hn1).1;have sg:=lnn hn1 (List.getElem?_eq_getElem (by rw[<- hF.1];exact hi))
   exact⟨_,rfl,_,_,n,rfl,rfl,me hsn (List.mem_map.mpr ⟨_,sg,rfl⟩),_,rfl⟩
  ·rintro q ⟨o4,rfl⟩
   refine⟨_,rfl,_,_,m,rfl,rfl,by rw[lk];rfl,_,rfl,_,lk,_,rfl,aA _,rfl,bu (fun z=>absurd z (by simp[hF.1])) (fun _=>?_)⟩
   refine⟨aA _,aA _,fun i q=>∃ o4 o6,q = [.r (.fd o vs (en gM L)),.r (.t [pw,.s x,.s m,.t (ns.map .s),b]),.o (.dp p' (en L2.T.s sc)),.o (.t (ns.map .s)),o4,.o (.t (fs.map .s)),o6],⟨_,_,rfl⟩,?_,?_⟩
   ·rintro i t q hx' ⟨o4,o6,rfl⟩
    obtain⟨y,z,h1,h2,rfl⟩:=lQ hx';rw[List.getElem?_map]at h1 h2;obtain⟨n,hn1,rfl⟩:=Option.map_eq_some_iff.mp h1;obtain⟨f,hf1,rfl⟩:=Option.map_eq_some_iff.mp h2;exact⟨_,rfl,_,_,n,f,rfl,rfl,eC hsn (lnn hn1 hf1),_,_,rfl⟩
   ·rintro q ⟨o4,o6,rfl⟩
    refine⟨bQ f7 _,_,rfl,_,rfl,_,lk,_,rfl,rfl,p',_,x,.s k,rfl,gc hx,bQ f7 _,rfl,jL (by rw[jg];omega),?_⟩
    rw[jf hx];exact⟨_,rfl,bQ f7 _,hq⟩
theorem ot(T:Txt K mg a):aH P w K mg base CX0 3 a.bx a.dS ["known","piece","bound"] (spM K 2 (lb a.aF)):=by
 have ej:aH P w K mg base CX0 1 a.dc a.hJ ["known","name"] (spQ K kG):=jG T;have di:aH P w K mg base CX0 1 a.cF a.fg ["bound","name","what"] (spM K 0 gN):=fX T;have nU:aH P w K mg base CX0 2 a.bX a.gd ["makings","piece","bound"] (spM K 2 pH):=ug T;refine T.cV.okM iR (fun ts Q h=>?_) (fun cdv A outer s H E hr=>?_)
 ·obtain⟨kn,ks,hs,pc,b,p,sc,sc',rfl,_⟩:=h;rfl
 ·have hu:=cv hr;refine⟨_,_,((ag (ay (i:=3) iR.nd rfl (Or.inl rfl) (QPE.f (az (qv 1) (QPF.w ai))))
 (aq (cg (aQ (cQ hu rfl) cc (aI _) (qv 3) (QPF.w bR))
 (aq (dn (i:=2) (j:=2) nU (hr.mono (by first|decide|omega)) rfl T.nj T.dj.kp T.gi (iG (jz T.dy T.gw (qv 0)) (iG (qv 1) (dq (i:=2) (pv 2) (ax.w af))))))
 (aq (cg (aQ (cQ hu rfl) cc (aI _) (qv 3) (QPF.w bR))
 (aq (dn (i:=2) (j:=2) nU (hr.mono (by first|decide|omega)) rfl T.nj T.dj.kp T.gi (iG (jz T.dy T.d3 (qv 0)) (iG (qv 1) (dq (i:=2) (pv 2) (ax.w af))))))
 (aq (cg (aQ (cQ hu rfl) cc (aI _) (qv 3) (QPF.w bR))
 (ag (cO (QPF.w (ao ej (hr.mono (by first|decide|omega)) rfl T.i8 T.el.kp T.gh (ae (qv 2) (ae (az (qv 1) (QPF.w ai)) (ax.w af))))))
 (aq (dn (i:=2) (j:=0) di (hr.mono (by first|decide|omega)) rfl T.i9 T.et.kp T.gm (dq (i:=2) (pv 2) (ae (az (qv 1) (QPF.w ai)) (ae (fR (qv 2) (az (qv 1) (QPF.w ai))) (ax.w af)))))))
 bg)))))))),fun ts Q p' ks' h ht=>?_⟩
  obtain⟨kn,ks,hs,pc,b,p,sc,sc',rfl,⟨o1,v1,o2,v2,o3,v3,rfl⟩,G,hn,hS,hbi,hsn,hsl,hq⟩:=h;cases ht;cases hS with
  | pR hw =>
   refine⟨_,rfl,rfl,rfl,bu (fun z=>?_) (fun _=>⟨rfl,bu (fun z=>?_) (fun _=>⟨rfl,bu (fun z=>?_) (fun _=>⟨_,rfl,bQ f7 _,hq⟩)⟩)⟩)⟩
   all_goals(rcases hw with rfl|rfl <;> exact absurd z (by decide +kernel))
  | @name x y k _ hy hx =>
   refine⟨_,rfl,rfl,rfl,bu (fun z=>absurd z (by decide +kernel)) (fun _=>⟨rfl,bu (fun z=>absurd z (by decide +kernel)) (fun _=>⟨rfl,bu (fun _=>?_) (fun z=>absurd (by decide +kernel) z)⟩)⟩)⟩
   have lk:=eC (g:=L2.T.s) hsn hy;refine⟨_,rfl,_,_,y,rfl,rfl,by rw[lk];rfl,bQ f7 _,_,rfl,_,rfl,_,lk,rfl,p',_,x,.s k,rfl,gc hx,bQ f7 _,rfl,jL (by rw[jg];omega),?_⟩
   rw[jf hx];exact⟨_,rfl,bQ f7 _,hq⟩
  | @make x m kd ns _ hkd hm hF hx =>
   refine⟨_,rfl,rfl,rfl,bu (fun _=>?_) (fun z=>absurd (by decide +kernel) z)⟩
   exact⟨bQ f7 _,rfl,by decide,_,rfl,rfl,(by show(true&&(true&&(true&&(L2.T.ims (ns.map .s)&&(b.im&&true)))))=true;rw[aA,hbi];rfl),rfl,o2,v2,mkL ks,.s "make",b,x,m.1,kd.1,ns,m.2,p',sc,rfl,by rw[pK];exact G.mn,DK hkd hm,hF,hsn,hx,rfl,hbi,hsl,_,rfl,bQ f7 _,hq⟩
  | @call x h ns _ hh hF hx =>
   refine⟨_,rfl,rfl,rfl,bu (fun z=>absurd z (by decide +kernel)) (fun _=>⟨rfl,bu (fun _=>?_) (fun z=>absurd (by decide +kernel) z)⟩)⟩
   exact⟨bQ f7 _,rfl,by decide,_,rfl,rfl,(by show(true&&(true&&(true&&(L2.T.ims (ns.map .s)&&(b.im&&true)))))=true;rw[aA,hbi];rfl),rfl,o3,v3,hsL hs,.s "call",b,x,h.1,h.2.2,ns,h.2.1.map (·.2),p',sc,rfl,by rw[pP];exact hn,D8 hh,hF,hsn,hx,rfl,hbi,hsl,_,rfl,bQ f7 _,hq⟩
theorem rA(T:Txt K mg a):aH P w K mg base CX0 1 a.bP a.eJ ["known","piece","bound"] (spQ K (mS a.aF)):=by
 refine T.dB.okQ ju (fun ts Q h=>?_) (fun cdv A outer s H E hr=>?_)
 ·obtain⟨kn,ks,hs,x,kd,arms,o,vs,sc,rfl,_⟩:=h;rfl
 ·have hu:=cv hr;refine⟨_,_,((ag (ay (i:=3) ju.nd rfl (Or.inl rfl) (QPE.f (CP hu (jz T.dy T.cR (qv 0)) (fR (qv 2) (az (qv 1) (QPF.w ai))) (QPF.w (aS af)))))
 (ag (cg (aQ (Gv hu rfl) Cr (aI _) (QPF.w (ez rfl (qO (az (qv 1) (QPF.w ai))) (N':=["arm"]) (.own rfl .nil) (dZ (g:=(Tg.nm 0)) (fun _ _ _ _ _=>⟨(ar (i:=0) (show(["arm"]:List Str).Nodup from by decide +kernel) rfl (Or.inl rfl)),(QPE.f (az (qv 0) (QPF.w ai)))⟩)))) (QPF.w (ez rfl (qO (qv 3)) (N':=["maker"]) (.own rfl .nil) (dZ (g:=(Tg.nm 0)) (fun _ _ _ _ _=>⟨(ar (i:=0) (show(["maker"]:List Str).Nodup from by decide +kernel) rfl (Or.inl rfl)),(QPE.f (az (qv 0) (QPF.w ai)))⟩)))))
 (aq fC)
 bg)
 (aq (bV (ez rfl (FZ rfl T.BO (by kernel_rfl) (ae (az (qv 1) (QPF.w ai)) (ae (qv 3) (ax.w af)))) (N':=["arm","maker","bound"]) (.own rfl (.own rfl (.got (i:=2) rfl rfl (.inl rfl) .nil))) (dZ (g:=(Tg.tp [0,1])) (fun _ _ _ _ _=>⟨(bb (K:=K) (n:=2) rfl rfl (aw (ar (i:=0) (show(["arm","maker","bound"]:List Str).Nodup from by decide +kernel) rfl (Or.inl rfl) (Or.inr rfl)) (aw (ar (i:=1) (show(["arm","maker","bound"]:List Str).Nodup from by decide +kernel) rfl (Or.inl rfl) (Or.inr rfl)) a9))),(aS (ah (QPE.f (qv 0)) (ah (QPE.f (az (qv 1) (QPF.w ai))) (ah (QPE.f (qv 2)) af))))⟩)))))))),fun ts Q h=>?_⟩
  obtain⟨kn,ks,hs,x,kd,arms,o,vs,sc,rfl,⟨o1,v1,o2,v2,o3,v3,rfl⟩,G,hx,hkd,hnm,hsn,him,hq⟩:=h;have lk:=eC (g:=L2.T.s) hsn hx;have lk2:bL (en tMs ks) (.inr kd.1)=some (tMs kd.2):=eC (g:=tMs) (v:=kd.2) G.nd hkd;refine⟨rfl,by decide,_,rfl,_,rfl,_,lk,?_⟩
  show L2.T.im (Option.getD (bL (en tMs ks) (.inr kd.1)) (.t []))=true/\_;rw[lk2];have h6:=G.ne kd hkd;have hla:arms.length=kd.2.length:=by have:=congrArg List.length hnm;simpa using this
  refine⟨d6 kd.2,_,rfl,aB (by rw[List.length_map];omega),fun i ys=>ys =((arms.take i).map (·.1)).map .s,rfl,?_,?_⟩
  ·rintro i y ys hy rfl
   rw[List.getElem?_map]at hy;obtain⟨p,hp,rfl⟩:=Option.map_eq_some_iff.mp hy;refine⟨_,rfl,_,rfl,rfl,?_⟩;show _ ++ [L2.T.s p.1]=_;rw[List.take_add_one,hp];simp
  ·rintro ys rfl
   rw[show(arms.map tA).length=arms.length by rw[List.length_map],List.take_length]
   refine⟨aB (by rw[List.length_map];omega),fun i ys=>ys =((kd.2.take i).map (·.1)).map .s,rfl,?_,?_⟩
   ·rintro i y ys hy rfl
    rw[List.getElem?_map]at hy;obtain⟨p,hp,rfl⟩:=Option.map_eq_some_iff.mp hy;refine⟨_,rfl,_,rfl,rfl,?_⟩;show _ ++ [L2.T.s p.1]=_;rw[List.take_add_one,hp];simp
   ·rintro ys rfl
    rw[show(kd.2.map tM).length=kd.2.length by rw[List.length_map],List.take_length,<- hnm]
    refine⟨by rw[nF];rfl,bu (fun z=>absurd (show(!eqF ((arms.map (·.1)).map L2.T.s) ((arms.map (·.1)).map L2.T.s))=true from z) (by rw[Bw];decide)) (fun _=>?_)⟩
    refine⟨_,rfl,aB (by rw[gA,List.length_map,List.length_map];omega),fun i ys=>ys=yb (arms.take i) (kd.2.take i) o vs sc,rfl,?_,?_⟩
    ·rintro i y ys hy rfl
     obtain⟨y1,z1,h1,h2,rfl⟩:=lQ hy;rw[List.getElem?_map]at h1 h2;obtain⟨a1,ha1,rfl⟩:=Option.map_eq_some_iff.mp h1;obtain⟨m1,hm1,rfl⟩:=Option.map_eq_some_iff.mp h2;refine⟨_,rfl,?_,_,rfl,aA _,rfl,?_⟩
     ·have z:∀ l:List L2.T,L2.T.ims l=true->∀ t∈l,t.im=true:=by
       intro l
       induction l with
       | nil=>intro _ t ht;cases ht
       | cons x r ih =>
        intro h t ht;have h:(x.im&&L2.T.ims r)=true:=h;rw[Bool.and_eq_true]at h;rcases List.mem_cons.mp ht with e|e
        ·rw[e];exact h.1
        ·exact ih h.2 t e
      exact z _ him (tA a1) (List.mem_map.mpr ⟨a1,List.mem_of_getElem? ha1,rfl⟩)
     ·show _ ++ [L2.T.t [tA a1,.t (m1.2.map .s),.fd o vs (en L2.T.s sc)]]=_;unfold yb;rw[tw ha1 hm1,List.map_append];rfl
    ·rintro ys rfl
     have e:(p9 (arms.map tA) (kd.2.map tM)).length=arms.length:=by rw[gA,List.length_map,List.length_map];omega
     rw[e,List.take_length,hla,List.take_length];exact hq
theorem rn(T:Txt K mg a):aH P w K mg base CX0 4 a.bO a.eI ["known","function","params"] (spQ K (mR a.aF)):=by
 have ej:aH P w K mg base CX0 1 a.dc a.hJ ["known","name"] (spQ K kG):=jG T;have iz:aH P w K mg base CX0 1 a.bB a.dw ["bound","name","kind"] (spQ K i5):=jF T;have uS:aH P w K mg base CX0 2 a.bN a.eD ["arm","fields","above"] (spQ K mQ):=rl T;have tm:aH P w K mg base CX0 3 a.bx a.dS ["known","piece","bound"] (spM K 2 (lb a.aF)):=ot T;have uU:aH P w K mg base CX0 1 a.bP a.eJ ["known","piece","bound"] (spQ K (mS a.aF)):=rA T;refine T.dA.okQ bI (fun ts Q h=>?_) (fun cdv A outer s H E hr=>?_)
 ·obtain⟨kn,ks,hs,f,o,vs,rfl,_⟩:=h;rfl
 ·have hu:=cv hr;refine⟨_,_,((ag (ay (i:=3) bI.nd rfl (Or.inl rfl) (bo (ah (aS (ah (aS (ah bR (ah (aS af) (ah (QPE.f (az (qv 1) (QPF.w ai))) af)))) (ah (aS af) (ah (QPE.f (qv 2)) af)))) af)))
 (aq (tT PassesOwn.never (zY (qv 3))
 (ag (FX (j:=4) bI.nd rfl (Or.inl rfl) (pv 3))
 (ag (ay (i:=5) bI.nd rfl (Or.inl rfl) (QPE.f (az (qv 4) (QPF.w ai))))
 (ag (ay (i:=6) bI.nd rfl (Or.inl rfl) (ao uS (hr.mono (by first|decide|omega)) rfl T.uv T.dz.kp T.ic (ae (qv 5) (ae (az (qv 4) (QPF.w ai)) (ae (az (qv 4) (QPF.w ai)) (ax.w af))))))
 (ag (ay (i:=7) bI.nd rfl (Or.inl rfl) (QPE.f (az (qv 5) (QPF.w ai))))
 (ag (tT PassesOwn.never (QPW.pt (kD (aQ ud mH (aI _) (az (qv 7) (QPF.w ai)) (QPF.w bR)) (iF (aQ ud mH (aI _) (az (qv 7) (QPF.w ai)) (QPF.w bR)))))
 (ag (dn (i:=6) (j:=2) tm (hr.mono (by first|decide|omega)) rfl T.rM T.cV.kp T.gj (iG (qv 0) (iG (qv 7) (dq (i:=6) (pv 6) (ax.w af)))))
 (aq (ay (i:=7) bI.nd rfl (Or.inl rfl) (QPE.f (az (qv 7) (QPF.w (F5 (QPF.w ai)))))))))
 (ag (cO (QPF.w (ao ej (hr.mono (by first|decide|omega)) rfl T.i8 T.el.kp T.gh (ae (qv 6) (ae (az (qv 7) (QPF.w ai)) (ax.w af))))))
 (aq (cg (aQ (cQ hu rfl) cc (aI _) (az (qv 7) (QPF.w ai)) (QPF.w bR))
 (aq (cO (QPF.w (ao iz (hr.mono (by first|decide|omega)) rfl T.lg T.cM.kp T.eO (ae (qv 6) (ae (az (qv 7) (QPF.w ai)) (ae (az (qv 1) (QPF.w ai)) (ax.w af))))))))
 (ag (vh (i:=6) (ay (i:=8) bI.nd rfl (Or.inl rfl) (ao uU (hr.mono (by first|decide|omega)) rfl T.ux T.dB.kp T.ig (ae (qv 0) (ae (qv 7) (ae (qv 6) (ax.w af)))))))
 (aq (ym (i:=3) (pv 3) (tV rfl rfl T.wA rfl T.nQ (qv 8))))))))))))))))),fun ts Q h=>?_⟩
  obtain⟨kn,ks,hs,f,o,vs,rfl,hK,G,hn,hS,hS5,hpn,hp4,hq⟩:=h;refine⟨_,rfl,hS.im,rfl,fun c q=>∃(ws:List Wi)(A:List L2.T)(o4 o5 o6 o7 o8:Sl),q = [.r kn,.r (tF f),.r (.fd o vs (en L2.T.s f.1.2.1)),.o (.l A),o4,o5,o6,o7,o8]/\A=ws.map tWi/\(∀ w∈ws,WOk ks hs f.1.2.2 w)/\fw ws<=50000/\c=fw ws,⟨_,[⟨"",[],[],f.2.1,o,vs,f.1.2.1,f.2.2⟩],_,_,_,_,_,_,rfl,rfl,?_,?_,rfl⟩,?_⟩
  ·intro w hw;rw[List.mem_singleton.mp hw];exact⟨rfl,Nat.zero_le _,by simpa using hpn,by simpa using hS,by show f.1.2.1.length+4*f.2.2+4<=300010;omega⟩
  ·show f.2.2+0<=50000;omega
  ·rintro c q ⟨ws,A,o4,o5,o6,o7,o8,rfl,rfl,hW,hs5,rfl⟩
   rcases List.eq_nil_or_concat ws with rfl |⟨ws',wi,rfl⟩
   ·exact hq
   ·rw[List.concat_eq_append]at *;have hw:=hW wi (by simp)
    have hW':∀ w∈ws',WOk ks hs f.1.2.2 w:=fun w h=>hW w (List.mem_append_left _ h)
    have G6:fw (ws' ++ [wi])=fw ws'+wi.n:=by rw[tE];simp[fw]
    have hl:=y9 hW';refine bu (fun _=>?_) (fun z=>absurd (by simp) z)
    refine⟨fun q'=>∃(ws2:List Wi)(A:List L2.T)(o4 o5 o6 o7 o8:Sl),q' = [.r kn,.r (tF f),.r (.fd o vs (en L2.T.s f.1.2.1)),.o (.l A),o4,o5,o6,o7,o8]/\A=ws2.map tWi/\(∀ w∈ws2,WOk ks hs f.1.2.2 w)/\fw ws2<fw (ws' ++ [wi]),?_,?_⟩
    ·rintro q' ⟨ws2,A,o4,o5,o6,o7,o8,rfl,rfl,g1,g2⟩
     exact⟨fw ws2,g2,ws2,_,_,_,_,_,_,rfl,rfl,g1,by omega,rfl⟩
    ·refine⟨ws'.map tWi,tWi wi,by simp,?_,by decide,?_⟩
     ·have:=Bg hW
      exact this
     ·have hki:=hK.im;refine⟨_,rfl,(by show(true&&(L2.T.ims (wi.ns.map .s)&&(wi.b.im&&true)))=true;rw[aA,hw.sn.im];rfl),_,rfl,_,rfl,.s wi.nm,wi.b,_,wi.ns,wi.fs,wi.sc,rfl,rfl,hw.sn.im,⟨wi.o,wi.vs,rfl⟩,hw.ln,by have:=hw.l4;omega,by have:=hw.sz;omega,hw.nd,?_⟩
      refine⟨_,rfl,hw.sn.im,fun c q=>∃(pc:L2.T)(sc:Sc)(n:Nat)(o8:Sl),q = [.r kn,.r (tF f),.r (.fd o vs (en L2.T.s f.1.2.1)),.o (.l (ws'.map tWi)),.o (tWi wi),.o (.t [.s wi.nm,.t (wi.ns.map .s),wi.b]),.o (.d (en L2.T.s sc)),.o pc,o8]/\Snd ks hs f.1.2.2 n sc pc/\(sc.map (·.1)).Nodup/\sc.length+4*n<=300010/\n<=wi.n/\c=n,⟨_,wi.b,wi.sc++wi.ns.zip wi.fs,wi.n,_,rfl,hw.sn,?_,?_,Nat.le_refl _,rfl⟩,?_⟩
      ·rw[List.map_append,lP hw.ln];exact hw.nd
      ·rw[List.length_append,List.length_zip];have:=hw.sz;have:=hw.l4;omega
      ·rintro c q ⟨pc,sc,n,o8,rfl,hSn,hsn,hsz,hnw,rfl⟩
       rcases hSn.view hsn with⟨x,rfl,hx⟩ |⟨x,kd,arms,rfl,hx,hkd,hnm,en',h1,h2⟩ |⟨xs,w1,b,sc',n',rfl,V⟩
       ·have lk:=eC (g:=L2.T.s) hsn hx;refine⟨_,rfl,rfl,bu (fun z=>absurd z (by decide +kernel)) (fun _=>?_)⟩
        refine⟨_,rfl,_,_,x,rfl,rfl,by rw[lk];rfl,_,rfl,rfl,bu (fun _=>?_) (fun z=>absurd (by decide +kernel) z)⟩
        exact⟨_,rfl,_,rfl,_,_,x,f.1.2.2,rfl,rfl,lk,ws',_,_,_,_,_,_,rfl,rfl,hW',by rw[G6];have:=hw.sn.pos;omega⟩
       ·have lk:=eC (g:=L2.T.s) hsn hx;have h6:=G.ne kd hkd;have hla:arms.length=kd.2.length:=by have:=congrArg List.length hnm;simpa using this
        have him:L2.T.ims (arms.map tA)=true:=by
         have z:(true&&(true&&(L2.T.ims (arms.map tA)&&true)))=true:=hSn.im;simpa using z
        refine⟨_,rfl,rfl,bu (fun _=>⟨_,rfl,rfl,bu (fun z=>absurd z (by decide +kernel)) (fun _=>?_)⟩) (fun z=>absurd (by decide +kernel) z)⟩
        refine⟨_,rfl,_,_,x,rfl,rfl,by rw[lk];rfl,_,rfl,rfl,bu (fun z=>absurd z (by decide +kernel)) (fun _=>?_)⟩
        refine⟨bQ f7 _,fun o' vs'=>⟨kn,ks,hs,x,kd,arms,o',vs',sc,rfl,hK,G,hx,hkd,hnm,hsn,him,?_⟩⟩
        have hA:=EH (o:=o') (vs:=vs') G hkd hnm h1 h2 (by omega)
        refine⟨by rw[y4];exact Bg hA,?_,ws'++((arms.zip kd.2).map (y7 o' vs' sc)).reverse,_,_,_,_,_,_,rfl,?_,fun w hw'=>?_,?_⟩
        ·rw[List.length_map,List.length_reverse];unfold yb;rw[List.length_map,List.length_zip]
         have:fw ws'+wi.n<=50000:=by rw[<- G6];exact hs5
         exact Nat.le_of_lt (jL (by omega))
        ·rw[y4,List.map_append,List.map_reverse]
        ·rcases List.mem_append.mp hw' with z|z
         ·exact hW' w z
         ·exact hA w (List.mem_reverse.mp z)
        ·rw[tE,y8,ye hla,G6];omega
       ·refine⟨_,V.h0,rfl,bu (fun _=>⟨_,V.h0,rfl,bu (fun _=>?_) (fun z=>absurd (ne_str V.w2) z)⟩) (fun z=>absurd (ne_str V.w1) z)⟩
        have hnn:=V.nn;have hln:=V.ln;refine⟨fun q'=>∃(pc:L2.T)(sc:Sc)(n2:Nat)(o8:Sl),q' = [.r kn,.r (tF f),.r (.fd o vs (en L2.T.s f.1.2.1)),.o (.l (ws'.map tWi)),.o (tWi wi),.o (.t [.s wi.nm,.t (wi.ns.map .s),wi.b]),.o (.d (en L2.T.s sc)),.o pc,o8]/\Snd ks hs f.1.2.2 n2 sc pc/\(sc.map (·.1)).Nodup/\sc.length+4*n2<=300010/\n2<=wi.n/\n2<c,?_,?_⟩
        ·rintro q' ⟨pc,sc2,n2,o8,rfl,g1,g2,g3,g4,g5⟩
         exact⟨n2,g5,pc,sc2,n2,_,rfl,g1,g2,g3,g4,rfl⟩
        ·exact⟨bQ f7 _,fun p=>⟨hki,hSn.im,rfl,kn,ks,hs,_,b,p,sc,sc',rfl,hK,G,hn,V.st,V.sn.im,hsn,by omega,_,V.hl,V.sn.im,b,sc',n',_,rfl,V.sn,V.nd,by omega,by omega,by omega⟩⟩
theorem kJ(T:Txt K mg a):aH P w K mg base CX0 5 a.aY a.cB ["known","function"] (spQ K (gK a.aF)):=by
 have ej:aH P w K mg base CX0 1 a.dc a.hJ ["known","name"] (spQ K kG):=jG T;have di:aH P w K mg base CX0 1 a.cF a.fg ["bound","name","what"] (spM K 0 gN):=fX T;have uT:aH P w K mg base CX0 4 a.bO a.eI ["known","function","params"] (spQ K (mR a.aF)):=rn T;refine T.bZ.okQ cp (fun ts Q h=>?_) (fun cdv A outer s H E hr=>?_)
 ·obtain⟨kn,ks,hs,f,rfl,_⟩:=h;rfl
 ·have hu:=cv hr;refine⟨_,_,((ag (ay (i:=2) cp.nd rfl (Or.inl rfl) l7)
 (ag (cb (g:=(Tg.tp [3,4])) PassesOwn.never rfl (eV (QPE.f (az (qv 1) (QPF.w ai)))) (bb (K:=K) (n:=2) rfl rfl (aw (ar (i:=3) cp.nd rfl (Or.inl rfl)) (aw (ar (i:=4) cp.nd rfl (Or.inl rfl)) a9)))
 (ag (dn (i:=2) (j:=0) di (hr.mono (by first|decide|omega)) rfl T.i9 T.et.kp T.gm (dq (i:=2) (pv 2) (ae (qv 3) (ae (qv 4) (ax.w af)))))
 (aq (cO (QPF.w (ao ej (hr.mono (by first|decide|omega)) rfl T.i8 T.el.kp T.gh (ae (jz T.dy T.cR (qv 0)) (ae (qv 4) (ax.w af)))))))))
 (ag (cO (QPF.w (ao ej (hr.mono (by first|decide|omega)) rfl T.i8 T.el.kp T.gh (ae (jz T.dy T.cR (qv 0)) (ae (az (qv 1) (QPF.w ai)) (ax.w af))))))
 (aq (vh (i:=2) (cO (QPF.w (ao uT (hr.mono (by first|decide|omega)) rfl T.uw T.dA.kp T.ie (ae (qv 0) (ae (qv 1) (ae (qv 2) (ax.w af))))))))))))),fun ts Q h=>?_⟩
  obtain⟨kn,ks,hs,f,rfl,hK,G,hn,hS,hS5,hpn,hp4,hpk,hrk,hq⟩:=h;obtain⟨k1,v1,k2,v2,k3,v3,rfl⟩:=id hK;refine⟨_,rfl,bh gx _,fun i q=>∃ D o3 o4,q = [.r (.ob a.aF ["kinds","makers","functions"] [.fd k1 v1 (en tMs ks),.fd k2 v2 (en gM (mkL ks)),.fd k3 v3 (en gM (hsL hs))]),.r (tF f),.o (.d D),o3,o4]/\D=en L2.T.s (f.1.2.1.take i),⟨_,_,_,rfl,rfl⟩,?_,?_⟩
  ·rintro i t q hx ⟨D,o3,o4,rfl,rfl⟩
   rw[List.getElem?_map]at hx;obtain⟨p,hp,rfl⟩:=Option.map_eq_some_iff.mp hx;have fr:p.1 ∉ (f.1.2.1.take i).map (·.1):=by
    have:=fresh_at (xs:=([]:List Str)) (ys:=f.1.2.1.map fun(p:Str×Str)=>p.1) (i:=i) (y:=p.1) hpn (by rw[List.getElem?_map,hp];rfl)
    rw[List.nil_append,<- List.map_take]at this;exact this
   refine⟨_,rfl,bQ f7 _,fun ad=>⟨rfl,ad,_,p.1,.s p.2,rfl,gc fr,bQ f7 _,rfl,jL (by rw[jg,List.length_take];omega),?_⟩⟩
   rw[jf fr];refine⟨rfl,by decide,_,rfl,_,_,p.2,rfl,rfl,me G.nd (hpk p (List.mem_of_getElem? hp)),_,_,_,rfl,?_⟩
   rw[List.take_add_one,hp];rfl
  ·rintro q ⟨D,o3,o4,rfl,rfl⟩
   rw[show(f.1.2.1.map tP).length=f.1.2.1.length by rw[List.length_map],List.take_length]
   exact⟨rfl,by decide,_,rfl,_,rfl,_,_,f.1.2.2,rfl,rfl,me G.nd hrk,bQ f7 _,fun o vs=>⟨_,ks,hs,f,o,vs,rfl,hK,G,hn,hS,hS5,hpn,hp4,hq⟩⟩
theorem Di(T:Txt K mg a):aH P w K mg base CX0 6 a.f_look a.wc ["program"] (spQ K Gi):=by
 have di:aH P w K mg base CX0 1 a.cF a.fg ["bound","name","what"] (spM K 0 gN):=fX T;have BZ:aH P w K mg base CX0 1 a.a7 a.dU ["self","kinds","makers","functions"] (qm a.aF ["kinds","makers","functions"]):=Dj T;have ph:aH P w K mg base CX0 2 a.bj a.du ["kinds","rows"] (spQ K jB):=nc T;have la:aH P w K mg base CX0 2 a.aW a.cu ["rows"] (spQ K pI):=jH T;have lO:aH P w K mg base CX0 5 a.aY a.cB ["known","function"] (spQ K (gK a.aF)):=kJ T;refine T.gs.okQ iB (fun ts Q h=>?_) (fun cdv A outer s H E hr=>?_)
 ·obtain⟨ks,fs,rfl,_⟩:=h;rfl
 ·have hu:=cv hr;refine⟨_,_,((ag (ay (i:=1) iB.nd rfl (Or.inl rfl) l7)
 (ag (cb (g:=(Tg.tp [2,3])) PassesOwn.never rfl (eV (QPE.f (az (qv 0) (QPF.w ai)))) (bb (K:=K) (n:=2) rfl rfl (aw (ar (i:=2) iB.nd rfl (Or.inl rfl)) (aw (ar (i:=3) iB.nd rfl (Or.inl rfl)) a9)))
 (aq (dn (i:=1) (j:=0) di (hr.mono (by first|decide|omega)) rfl T.i9 T.et.kp T.gm (dq (i:=1) (pv 1) (ae (qv 2) (ae (qv 3) (ax.w af)))))))
 (ag (vh (i:=1) (ay (i:=4) iB.nd rfl (Or.inl rfl) (z6 rfl T.A0 BZ (hr.mono (by first|decide|omega)) rfl T.AX T.gn (ae (qv 1) (ae (QPF.w (xi (ao ph (hr.mono (by first|decide|omega)) rfl T.oC T.cz.kp T.fk (ae (qv 1) (ae (az (qv 0) (QPF.w ai)) (ax.w af)))))) (ae (QPF.w (xi (ao la (hr.mono (by first|decide|omega)) rfl T.kM T.bU.kp T.dg (ae (az (qv 0) (QPF.w ai)) (ax.w af))))) (ax.w af)))))))
 (ag (cb (g:=(Tg.nm 5)) PassesOwn.never rfl (eV (QPE.f (az (qv 0) (QPF.w ai)))) (ar (i:=5) iB.nd rfl (Or.inl rfl))
 (aq (cO (QPF.w (ao lO (hr.mono (by first|decide|omega)) rfl T.lG T.bZ.kp T.dI (ae (qv 4) (ae (qv 5) (ax.w af))))))))
 (aq (bV mO))))))),fun ts Q h=>?_⟩
  obtain⟨ks,fs,rfl,PW,hq⟩:=h;have G:=PW.gk;refine⟨_,rfl,sf ks,fun i q=>∃ D o2 o3,q = [.r (.t [tKs ks,.t (fs.map tF)]),.o (.d D),o2,o3,.no,.no]/\D=en tMs (ks.take i),⟨_,_,_,rfl,rfl⟩,?_,?_⟩
  ·rintro i t q hx ⟨D,o2,o3,rfl,rfl⟩
   rw[List.getElem?_map]at hx;obtain⟨kd,hkd,rfl⟩:=Option.map_eq_some_iff.mp hx;have fr:kd.1 ∉ (ks.take i).map (·.1):=by
    have:=fresh_at (xs:=([]:List Str)) (ys:=ks.map fun(p:Kd)=>p.1) (i:=i) (y:=kd.1) G.nd (by rw[List.getElem?_map,hkd];rfl)
    rw[List.nil_append,<- List.map_take]at this;exact this
   refine⟨_,rfl,bQ d6 _,fun ad=>⟨(by show(true&&(L2.T.im (tMs kd.2)&&true))=true;rw[d6];rfl),ad,_,kd.1,tMs kd.2,rfl,gc fr,bQ d6 _,d6 _,aB (by rw[jg,List.length_take];have:=G.k2;omega),?_⟩⟩
   rw[jf fr];refine⟨_,_,_,rfl,?_⟩;rw[List.take_add_one,hkd];rfl
  ·rintro q ⟨D,o2,o3,rfl,rfl⟩
   rw[show(ks.map tK).length=ks.length by rw[List.length_map],List.take_length]
   refine⟨bQ d6 _,fun k1 v1=>⟨_,rfl,_,ks,rfl,rfl,G,bQ iT _,fun k2 v2=>⟨_,rfl,fs,rfl,fun f hf=>⟨(PW.sn f hf).1.im,by have:=(PW.pk f hf).1;omega⟩,PW.l8,PW.hn,bQ iT _,fun k3 v3=>⟨rfl,rfl,?_⟩⟩⟩⟩
   refine⟨_,rfl,Bh (fun f hf=>(PW.sn f hf).1.im),fun i q=>∃ o5,q = [.r (.t [tKs ks,.t (fs.map tF)]),.o (.fd k1 v1 (en tMs ks)),o2,o3,.o (.ob a.aF ["kinds","makers","functions"] [.fd k1 v1 (en tMs ks),.fd k2 v2 (en gM (mkL ks)),.fd k3 v3 (en gM (hsL (fs.map (·.1))))]),o5],⟨_,rfl⟩,?_,?_⟩
   ·rintro i t q hx ⟨o5,rfl⟩
    rw[List.getElem?_map]at hx;obtain⟨f,hf,rfl⟩:=Option.map_eq_some_iff.mp hx;have hm:=List.mem_of_getElem? hf;obtain⟨q1,q2,q3,q4⟩:=PW.pk f hm;obtain⟨s1,s2⟩:=PW.sn f hm;exact⟨_,rfl,_,ks,fs.map (·.1),f,rfl,⟨k1,v1,k2,v2,k3,v3,rfl⟩,G,IA PW.hn,s1,s2,q3,q1,q2,q4,_,rfl⟩
   ·rintro q ⟨o5,rfl⟩
    exact hq
theorem GD(T:Txt K mg a):aH P w K mg base CX0 110 a.nG a.BF ["_law_script"] (mD K):=by
 have Ho:aH P w K mg base CX0 1 a.gb a.sC ["_law_script","_law_base"] (zo K):=Dk T;have aG:aH P w K mg base CX0 1 a.cE a.ff ["_law_deal_here","_law_many"] (spQ K c6):=jh (fW T);have EV:=AH (P:=P) (w:=w) (base:=base) T;have pZ:=vx (P:=P) (w:=w) (base:=base) T;have nV:=Di (P:=P) (w:=w) (base:=base) T;refine T.x9.JB (n:=3) (s1:=(aE gF).headD (.Pass ⟨0,0,0,0⟩)) (rest:=(aE gF).tail) mK rfl rfl (fun cdv A outer s H E hr=>?_)
 have hu:=cv hr;refine⟨_,_,_,(gJ (i:=1) mK.nd rfl (Or.inl rfl) (rf Ho (hr.mono (by decide)) rfl T.GK T.nY.kp T.wC .nil xw (ck (pv 0) (ck br fU)))),((ag (ay (i:=2) mK.nd rfl (Or.inl rfl) (ao EV (hr.mono (by first|decide|omega)) rfl T.m_words T.kg.kp T.sO (ae (qv 1) (ae (QPF.w ai) (ax.w af)))))
 (ag (ay (i:=3) mK.nd rfl (Or.inl rfl) (ao pZ (hr.mono (by first|decide|omega)) rfl T.pL T.dY.kp T.iK (ae (qv 1) (ae (qv 2) (ax.w af)))))
 (ag (ay (i:=4) mK.nd rfl (Or.inl rfl) (ao pZ (hr.mono (by first|decide|omega)) rfl T.pL T.dY.kp T.iK (ae (qv 1) (ae (qv 2) (ax.w af)))))
 (ag (cg (QPW.pt (xh (aQ xy tL (aI _) (QPF.w (ao nV (hr.mono (by first|decide|omega)) rfl T.nk T.gs.kp T.jk (ae (QPF.w (aS (ah (QPE.f (az (qv 3) (QPF.w ai))) (ah (aS af) af)))) (ax.w af)))) (QPF.w mO)) (vg (aQ xy tL (aI _) (QPF.w (ao nV (hr.mono (by first|decide|omega)) rfl T.nk T.gs.kp T.jk (ae (QPF.w (aS (ah (aS af) (ah (aS af) af)))) (ax.w af)))) (QPF.w mO)))))
 (aq (bV mO))
 bg)
 (aq (bV (z7 (QPF.w (vk vv qF (aI _) (QPF.w (ao nV (hr.mono (by first|decide|omega)) rfl T.nk T.gs.kp T.jk (ae (qv 3) (ax.w af)))) (QPF.w mO))) (z7 (QPF.w (vk vv qF (aI _) (QPF.w (ao nV (hr.mono (by first|decide|omega)) rfl T.nk T.gs.kp T.jk (ae (qv 4) (ax.w af)))) (QPF.w mO))) (F4 (vk vv qF (aI _) (QPF.w (ao nV (hr.mono (by first|decide|omega)) rfl T.nk T.gs.kp T.jk (ae (qv 3) (ax.w af)))) (QPF.w mO)))))))))))),fun p0 ns D hS hlen k=>?_,fun ns hlen=>?_⟩
 ·refine⟨_,rfl,p0,ns,_,rfl,hS,hlen,by decide,by decide,fun d l H1 fd fl D1 s1=>?_⟩
  exact k d l H1 fd fl D1 s1
 ·refine⟨52,rfl,by decide,by decide,fun ws lw nw wl=>?_⟩
  refine⟨ws,rfl,by omega,nw,fun ks fs p=>⟨ws,rfl,by omega,nw,fun ks2 fs2 p2=>?_⟩⟩
  refine⟨_,rfl,sf ks,ks,[],rfl,p.gk.w.prog,?_⟩;refine⟨[],[],rfl,GW.nil.prog,?_⟩;exact⟨ks,fs,rfl,p.w,ks2,fs2,rfl,p2.w,ks,fs,rfl,p.w,rfl⟩
end
theorem all_mk{l:W.OpenLaw}{w:World}{K:W.Frag}{h:Heap}{mg:Str->Option Value}{fa:Addr}(X:K.In h)(G:h.Ns mainGlobals mg)(hfa:mg "law" = some (.ref fa))
  {aZ:Addr} (eT:W.nsIn K mainGlobals "PurseError" = some (some (.ref aZ))) (eR:W.keepIn K (.ref aZ)=true)
  (eQ:qh K fns aZ (bmV) none=true)
  {bp:Addr} (fQ:W.nsIn K mainGlobals "NoProgram" = some (some (.ref bp))) (fN:W.keepIn K (.ref bp)=true)
  {j4:ClassData} (jo:W.clsIn K bp=some j4)
  {bA:Addr} {oK oM oN oI iU oO:Value} {oJ oP:Option Addr} {oH:Array (Option Value)}
  (jq:W.nsIn K j4.ns "__init__" = some (some (.ref bA)))
  (fM:K.lookup bA=some ⟨oK,oJ,.func (W.fnOf "__init__" "NoProgram.__init__" (aO cN) (aE cN) (ak cN) .none oM oN oI oP iU oO),oH⟩)
  (fP:W.codeIn K iU "NoProgram.__init__" = true) (fL:W.keepIn K (.ref bA)=true) (fO:W.isFn K (.ref bA)=true)
  (fK:qh K fns bp (.ref aZ::bmV) (some bA)=true)
  {aF:Addr} (m3:W.nsIn K mainGlobals "Known" = some (some (.ref aF))) (m9:W.plainGet K aF Str.empty=true) (m8:W.hasDictIn K aF=true) (m7:W.plainOver K aF=true)
  (m6:W.findIn K (.ref aF) "__setattr__" = some (some (.builtin "object.__setattr__"))) (m5:W.makesIn K aF=true) (m4:W.keepIn K (.ref aF)=true)
  (d0:W.findIn K (.ref aF) "kinds" = some none)
  (dD:W.findIn K (.ref aF) "makers" = some none)
  (cC:W.findIn K (.ref aF) "functions" = some none)
  {a7:Addr} {oy oG oS oq iY oV:Value} {ow pb:Option Addr} {oj:Array (Option Value)}
  (cP:W.findIn K (.ref aF) "__init__" = some (some (.ref a7)))
  (eY:K.lookup a7=some ⟨oy,ow,.func (W.fnOf "__init__" "Known.__init__" (aO b6) (aE b6) (ak b6) .none oG oS oq pb iY oV),oj⟩)
  (eZ:W.codeIn K iY "Known.__init__" = true) (dt:W.keepIn K (.ref a7)=true) (dr:W.isFn K (.ref a7)=true)
  (xnd:decide [aZ,bp].Nodup=true)
  {f_look:Addr} {DB DR Ek CZ xW Ew:Value} {Dt EJ:Option Addr} {Ce:Array (Option Value)}
  (wI:W.nsIn K mainGlobals "look" = some (some (.ref f_look)))
  (vH:K.lookup f_look=some ⟨DB,Dt,.func (W.fnOf "look" "look" (aO ku) (aE ku) (ak ku) .none DR Ek CZ EJ xW Ew),Ce⟩)
  (wo:W.codeIn K xW "look" = true) (vP:W.keepIn K (.ref f_look)=true)
  {dc:Addr} {DA DQ Ej CY xV Eu:Value} {Ds EI:Option Addr} {Cd:Array (Option Value)}
  (wH:W.nsIn K mainGlobals "need" = some (some (.ref dc)))
  (vG:K.lookup dc=some ⟨DA,Ds,.func (W.fnOf "need" "need" (aO kr) (aE kr) (ak kr) .none DQ Ej CY EI xV Eu),Cd⟩)
  (wm:W.codeIn K xV "need" = true) (vO:W.keepIn K (.ref dc)=true)
  {cF:Addr} {DH DX Er C5 x4 EC:Value} {Dz ER:Option Addr} {Cm:Array (Option Value)}
  (wO:W.nsIn K mainGlobals "bind" = some (some (.ref cF)))
  (vN:K.lookup cF=some ⟨DH,Dz,.func (W.fnOf "bind" "bind" (aO kC) (aE kC) (ak kC) .none DX Er C5 ER x4 EC),Cm⟩)
  (wz:W.codeIn K x4 "bind" = true) (vU:W.keepIn K (.ref cF)=true)
  {bj:Addr} {nh nA nI mV hV nL:Value} {ng nR:Option Addr} {mF:Array (Option Value)}
  (fq:W.nsIn K mainGlobals "look_makers" = some (some (.ref bj)))
  (e9:K.lookup bj=some ⟨nh,ng,.func (W.fnOf "look_makers" "look_makers" (aO b8) (aE b8) (ak b8) .none nA nI mV nR hV nL),mF⟩)
  (fj:W.codeIn K hV "look_makers" = true) (fb:W.keepIn K (.ref bj)=true)
  {aW:Addr} {jJ jM jU jD eM jV:Value} {jI kb:Option Addr} {jt:Array (Option Value)}
  (dh:W.nsIn K mainGlobals "look_functions" = some (some (.ref aW)))
  (c8:K.lookup aW=some ⟨jJ,jI,.func (W.fnOf "look_functions" "look_functions" (aO bC) (aE bC) (ak bC) .none jM jU jD kb eM jV),jt⟩)
  (df:W.codeIn K eM "look_functions" = true) (c9:W.keepIn K (.ref aW)=true)
  {aY:Addr} {kL kS kT kH fH kW:Value} {kK k6:Option Addr} {kq:Array (Option Value)}
  (dJ:W.nsIn K mainGlobals "look_function" = some (some (.ref aY)))
  (dF:K.lookup aY=some ⟨kL,kK,.func (W.fnOf "look_function" "look_function" (aO bG) (aE bG) (ak bG) .none kS kT kH k6 fH kW),kq⟩)
  (dH:W.codeIn K fH "look_function" = true) (dG:W.keepIn K (.ref aY)=true)
  {bO:Addr} {rH rZ sv qZ jY sF:Value} {rD sV:Option Addr} {qz:Array (Option Value)}
  (iu:W.nsIn K mainGlobals "look_body" = some (some (.ref bO)))
  (gU:K.lookup bO=some ⟨rH,rD,.func (W.fnOf "look_body" "look_body" (aO cJ) (aE cJ) (ak cJ) .none rZ sv qZ sV jY sF),qz⟩)
  (ia:W.codeIn K jY "look_body" = true) (gZ:W.keepIn K (.ref bO)=true)
  {bN:Addr} {rG rY su qY jX sE:Value} {rC sU:Option Addr} {qy:Array (Option Value)}
  (ip:W.nsIn K mainGlobals "look_head" = some (some (.ref bN)))
  (gT:K.lookup bN=some ⟨rG,rC,.func (W.fnOf "look_head" "look_head" (aO cI) (aE cI) (ak cI) .none rY su qY sU jX sE),qy⟩)
  (h9:W.codeIn K jX "look_head" = true) (gY:W.keepIn K (.ref bN)=true)
  {bx:Addr} {ox oF oR oo iX oU:Value} {ou oZ:Option Addr} {oh:Array (Option Value)}
  (gp:W.nsIn K mainGlobals "look_piece" = some (some (.ref bx)))
  (fZ:K.lookup bx=some ⟨ox,ou,.func (W.fnOf "look_piece" "look_piece" (aO cq) (aE cq) (ak cq) .none oF oR oo oZ iX oU),oh⟩)
  (gf:W.codeIn K iX "look_piece" = true) (f6:W.keepIn K (.ref bx)=true)
  {bX:Addr} {uk uz uG t6 lC uH:Value} {uh uP:Option Addr} {tJ:Array (Option Value)}
  (jl:W.nsIn K mainGlobals "look_use" = some (some (.ref bX)))
  (jc:K.lookup bX=some ⟨uk,uh,.func (W.fnOf "look_use" "look_use" (aO cZ) (aE cZ) (ak cZ) .none uz uG t6 uP lC uH),tJ⟩)
  (jj:W.codeIn K lC "look_use" = true) (jd:W.keepIn K (.ref bX)=true)
  {bB:Addr} {rF rX sr qX jW sD:Value} {rB sT:Option Addr} {qw:Array (Option Value)}
  (il:W.nsIn K mainGlobals "need_kind" = some (some (.ref bB)))
  (gS:K.lookup bB=some ⟨rF,rB,.func (W.fnOf "need_kind" "need_kind" (aO cH) (aE cH) (ak cH) .none rX sr qX sT jW sD),qw⟩)
  (hZ:W.codeIn K jW "need_kind" = true) (gX:W.keepIn K (.ref bB)=true)
  {bP:Addr} {rJ sd sx q5 jZ sG:Value} {rE sW:Option Addr} {qD:Array (Option Value)}
  (iw:W.nsIn K mainGlobals "look_arms" = some (some (.ref bP)))
  (gW:K.lookup bP=some ⟨rJ,rE,.func (W.fnOf "look_arms" "look_arms" (aO cK) (aE cK) (ak cK) .none sd sx q5 sW jZ sG),qD⟩)
  (ib:W.codeIn K jZ "look_arms" = true) (g6:W.keepIn K (.ref bP)=true)
  {gb:Addr} {DE DU En C2 xZ Ez:Value} {Dw EM:Option Addr} {Ci:Array (Option Value)}
  (wL:W.nsIn K mainGlobals "_law_deal" = some (some (.ref gb)))
  (vK:K.lookup gb=some ⟨DE,Dw,.func (W.fnOf "_law_deal" "_law_deal" (aO kz) (aE kz) (ak kz) .none DU En C2 EM xZ Ez),Ci⟩)
  (wu:W.codeIn K xZ "_law_deal" = true) (vR:W.keepIn K (.ref gb)=true)
  {cE:Addr} {DD DT Em C1 xY Ey:Value} {Dv EL:Option Addr} {Cg:Array (Option Value)}
  (wK:W.nsIn K mainGlobals "_law_draw" = some (some (.ref cE)))
  (vJ:K.lookup cE=some ⟨DD,Dv,.func (W.fnOf "_law_draw" "_law_draw" (aO ky) (aE ky) (ak ky) .none DT Em C1 EL xY Ey),Cg⟩)
  (wt:W.codeIn K xY "_law_draw" = true) (vQ:W.keepIn K (.ref cE)=true)
  {eB:Addr} {AO A7 BA An uK BJ:Value} {AK BR:Option Addr} {zp:Array (Option Value)}
  (sX:W.nsIn K mainGlobals "_law_words" = some (some (.ref eB)))
  (rQ:K.lookup eB=some ⟨AO,AK,.func (W.fnOf "_law_words" "_law_words" (aO iC) (aE iC) (ak iC) .none A7 BA An BR uK BJ),zp⟩)
  (sL:W.codeIn K uK "_law_words" = true) (rT:W.keepIn K (.ref eB)=true)
  {dQ:Addr} {AQ A9 BD Ap uL BL:Value} {AL BU:Option Addr} {zt:Array (Option Value)}
  (sY:W.nsIn K mainGlobals "_law_kinds" = some (some (.ref dQ)))
  (rR:K.lookup dQ=some ⟨AQ,AL,.func (W.fnOf "_law_kinds" "_law_kinds" (aO iD) (aE iD) (ak iD) .none A9 BD Ap BU uL BL),zt⟩)
  (sM:W.codeIn K uL "_law_kinds" = true) (rV:W.keepIn K (.ref dQ)=true)
  {fc:Addr} {DC DS El C0 xX Ex:Value} {Du EK:Option Addr} {Cf:Array (Option Value)}
  (wJ:W.nsIn K mainGlobals "_law_fill" = some (some (.ref fc)))
  (vI:K.lookup fc=some ⟨DC,Du,.func (W.fnOf "_law_fill" "_law_fill" (aO kx) (aE kx) (ak kx) .none DS El C0 EK xX Ex),Cf⟩)
  (wq:W.codeIn K xX "_law_fill" = true) (k_fill:W.keepIn K (.ref fc)=true)
  {dR:Addr} {AR Ba BE Aq uM BM:Value} {AN BV:Option Addr} {zu:Array (Option Value)}
  (sZ:W.nsIn K mainGlobals "_law_ended" = some (some (.ref dR)))
  (rS:K.lookup dR=some ⟨AR,AN,.func (W.fnOf "_law_ended" "_law_ended" (aO iE) (aE iE) (ak iE) .none Ba BE Aq BV uM BM),zu⟩)
  (sN:W.codeIn K uM "_law_ended" = true) (rW:W.keepIn K (.ref dR)=true)
  {g9:Addr} {DF DV Eo C3 x2 EA:Value} {Dx EN:Option Addr} {Cj:Array (Option Value)}
  (wM:W.nsIn K mainGlobals "_law_case" = some (some (.ref g9)))
  (vL:K.lookup g9=some ⟨DF,Dx,.func (W.fnOf "_law_case" "_law_case" (aO kA) (aE kA) (ak kA) .none DV Eo C3 EN x2 EA),Cj⟩)
  (wx:W.codeIn K x2 "_law_case" = true) (vS:W.keepIn K (.ref g9)=true)
  {fe:Addr} {DG DW Ep C4 x3 EB:Value} {Dy EO:Option Addr} {Ck:Array (Option Value)}
  (wN:W.nsIn K mainGlobals "_law_body" = some (some (.ref fe)))
  (vM:K.lookup fe=some ⟨DG,Dy,.func (W.fnOf "_law_body" "_law_body" (aO kB) (aE kB) (ak kB) .none DW Ep C4 EO x3 EB),Ck⟩)
  (wy:W.codeIn K x3 "_law_body" = true) (vT:W.keepIn K (.ref fe)=true)
  {cL:Addr} {vz vV wb vp nM wg:Value} {vy wF:Option Addr} {u9:Array (Option Value)}
  (k7:W.nsIn K mainGlobals "_law_program" = some (some (.ref cL)))
  (kO:K.lookup cL=some ⟨vz,vy,.func (W.fnOf "_law_program" "_law_program" (aO dX) (aE dX) (ak dX) .none vV wb vp wF nM wg),u9⟩)
  (kY:W.codeIn K nM "_law_program" = true) (kR:W.keepIn K (.ref cL)=true)
  {nG:Addr} {GH A8 BB Ao wk BK:Value} {GG BS:Option Addr} {FL:Array (Option Value)}
  (x6:W.nsIn K mainGlobals "law" = some (some (.ref nG)))
  (A5:K.lookup nG=some ⟨GH,GG,.func (W.fnOf "law" "law" (aO gF) (aE gF) (ak gF) .none A8 BB Ao BS wk BK),FL⟩)
  (BN:W.codeIn K wk "law" = true) (A6:W.keepIn K (.ref nG)=true)
  (y2:W.nsIn K mainGlobals "len" = some none)
  (uW:W.nsIn K mainGlobals "list" = some none)
  (qf:W.nsIn K mainGlobals "tuple" = some none)
  (uX:W.nsIn K mainGlobals "dict" = some none)
  (iZ:W.nsIn K mainGlobals "reversed" = some none)
  (y0:W.nsIn K mainGlobals "max" = some none)
  (qg:W.nsIn K mainGlobals "range" = some none)
  (yZ:W.nsIn K mainGlobals "zip" = some none)
  (gB:W.nsIn K mainGlobals "enumerate" = some none)
  (fJ:W.nsIn K mainGlobals "ValueError" = some none)
  : ∃ fd:FuncData,(∀(s:Shared)(v:Value),BindsTo s fd ⟨[v],[]⟩ [("_law_script",v)])/\∀ base:Heap,K.In base->base.Ns mainGlobals mg->aH l.prog w K mg base CX0 110 fa fd ["_law_script"] (mD K):=by
 have e:=hfa.symm.trans (W.mg_of X G x6);cases e;have gu:=bw (st:=cN) fM fP fL;have j9:=gu.binds (ps:=["self","word","name"]) fun _ _ _ _ _ _ us hl=>oE (P:=fun us=>bindArgs _ ⟨us,[]⟩=pure (List.zip _ us)) (fun _ _ _=>rfl) us hl
 have gs:=bw (st:=ku) vH wo vP;have jk:=gs.binds (ps:=["program"]) fun _ _ _ _ _ _ us hl=>DO (P:=fun us=>bindArgs _ ⟨us,[]⟩=pure (List.zip _ us)) (fun _=>rfl) us hl
 have el:=bw (st:=kr) vG wm vO;have gh:=el.binds (ps:=["known","name"]) fun _ _ _ _ _ _ us hl=>rP (P:=fun us=>bindArgs _ ⟨us,[]⟩=pure (List.zip _ us)) (fun _ _=>rfl) us hl
 have et:=bw (st:=kC) vN wz vU;have gm:=et.binds (ps:=["bound","name","what"]) fun _ _ _ _ _ _ us hl=>oE (P:=fun us=>bindArgs _ ⟨us,[]⟩=pure (List.zip _ us)) (fun _ _ _=>rfl) us hl
 have cz:=bw (st:=b8) e9 fj fb;have fk:=cz.binds (ps:=["kinds","rows"]) fun _ _ _ _ _ _ us hl=>rP (P:=fun us=>bindArgs _ ⟨us,[]⟩=pure (List.zip _ us)) (fun _ _=>rfl) us hl
 have bU:=bw (st:=bC) c8 df c9;have dg:=bU.binds (ps:=["rows"]) fun _ _ _ _ _ _ us hl=>DO (P:=fun us=>bindArgs _ ⟨us,[]⟩=pure (List.zip _ us)) (fun _=>rfl) us hl
 have bZ:=bw (st:=bG) dF dH dG;have dI:=bZ.binds (ps:=["known","function"]) fun _ _ _ _ _ _ us hl=>rP (P:=fun us=>bindArgs _ ⟨us,[]⟩=pure (List.zip _ us)) (fun _ _=>rfl) us hl
 have dA:=bw (st:=cJ) gU ia gZ;have ie:=dA.binds (ps:=["known","function","params"]) fun _ _ _ _ _ _ us hl=>oE (P:=fun us=>bindArgs _ ⟨us,[]⟩=pure (List.zip _ us)) (fun _ _ _=>rfl) us hl
 have dz:=bw (st:=cI) gT h9 gY;have ic:=dz.binds (ps:=["arm","fields","above"]) fun _ _ _ _ _ _ us hl=>oE (P:=fun us=>bindArgs _ ⟨us,[]⟩=pure (List.zip _ us)) (fun _ _ _=>rfl) us hl
 have cV:=bw (st:=cq) fZ gf f6;have gj:=cV.binds (ps:=["known","piece","bound"]) fun _ _ _ _ _ _ us hl=>oE (P:=fun us=>bindArgs _ ⟨us,[]⟩=pure (List.zip _ us)) (fun _ _ _=>rfl) us hl
 have dj:=bw (st:=cZ) jc jj jd;have gi:=dj.binds (ps:=["makings","piece","bound"]) fun _ _ _ _ _ _ us hl=>oE (P:=fun us=>bindArgs _ ⟨us,[]⟩=pure (List.zip _ us)) (fun _ _ _=>rfl) us hl
 have cM:=bw (st:=cH) gS hZ gX;have eO:=cM.binds (ps:=["bound","name","kind"]) fun _ _ _ _ _ _ us hl=>oE (P:=fun us=>bindArgs _ ⟨us,[]⟩=pure (List.zip _ us)) (fun _ _ _=>rfl) us hl
 have dB:=bw (st:=cK) gW ib g6;have ig:=dB.binds (ps:=["known","piece","bound"]) fun _ _ _ _ _ _ us hl=>oE (P:=fun us=>bindArgs _ ⟨us,[]⟩=pure (List.zip _ us)) (fun _ _ _=>rfl) us hl
 have nY:=bw (st:=kz) vK wu vR;have wC:=nY.binds (ps:=["_law_script","_law_base"]) fun _ _ _ _ _ _ us hl=>rP (P:=fun us=>bindArgs _ ⟨us,[]⟩=pure (List.zip _ us)) (fun _ _=>rfl) us hl
 have aJ:=bw (st:=ky) vJ wt vQ;have aN:=aJ.binds (ps:=["_law_deal_here","_law_many"]) fun _ _ _ _ _ _ us hl=>rP (P:=fun us=>bindArgs _ ⟨us,[]⟩=pure (List.zip _ us)) (fun _ _=>rfl) us hl
 have kg:=bw (st:=iC) rQ sL rT;have sO:=kg.binds (ps:=["_law_deal_here","_law_many"]) fun _ _ _ _ _ _ us hl=>rP (P:=fun us=>bindArgs _ ⟨us,[]⟩=pure (List.zip _ us)) (fun _ _=>rfl) us hl
 have kh:=bw (st:=iD) rR sM rV;have sP:=kh.binds (ps:=["_law_deal_here","_law_words_here"]) fun _ _ _ _ _ _ us hl=>rP (P:=fun us=>bindArgs _ ⟨us,[]⟩=pure (List.zip _ us)) (fun _ _=>rfl) us hl
 have iA:=bw (st:=kx) vI wq k_fill;have kZ:=iA.binds (ps:=["_law_deal_here","_law_scope","_law_some"]) fun _ _ _ _ _ _ us hl=>oE (P:=fun us=>bindArgs _ ⟨us,[]⟩=pure (List.zip _ us)) (fun _ _ _=>rfl) us hl
 have iL:=bw (st:=iE) rS sN rW;have mj:=iL.binds (ps:=["_law_deal_here","_law_world","_law_scope","_law_f"]) fun _ _ _ _ _ _ us hl=>GP (P:=fun us=>bindArgs _ ⟨us,[]⟩=pure (List.zip _ us)) (fun _ _ _ _=>rfl) us hl
 have nZ:=bw (st:=kA) vL wx vS;have wD:=nZ.binds (ps:=["_law_deal_here","_law_world","_law_scope","_law_f","_law_room"]) fun _ _ _ _ _ _ us hl=>Ir (P:=fun us=>bindArgs _ ⟨us,[]⟩=pure (List.zip _ us)) (fun _ _ _ _ _=>rfl) us hl
 have fu:=bw (st:=kB) vM wy vT;have ij:=fu.binds (ps:=["_law_deal_here","_law_world","_law_scope","_law_f","_law_room"]) fun _ _ _ _ _ _ us hl=>Ir (P:=fun us=>bindArgs _ ⟨us,[]⟩=pure (List.zip _ us)) (fun _ _ _ _ _=>rfl) us hl
 have dY:=bw (st:=dX) kO kY kR;have iK:=dY.binds (ps:=["_law_deal_here","_law_words_here"]) fun _ _ _ _ _ _ us hl=>rP (P:=fun us=>bindArgs _ ⟨us,[]⟩=pure (List.zip _ us)) (fun _ _=>rfl) us hl
 have x9:=bw (st:=gF) A5 BN A6;have Ft:=x9.binds (ps:=["_law_script"]) fun _ _ _ _ _ _ us hl=>DO (P:=fun us=>bindArgs _ ⟨us,[]⟩=pure (List.zip _ us)) (fun _=>rfl) us hl
 have dW:=bw (st:=b6) eY eZ dt;have gn:=dW.binds (ps:=["self","kinds","makers","functions"]) fun _ _ _ _ _ _ us hl=>GP (P:=fun us=>bindArgs _ ⟨us,[]⟩=pure (List.zip _ us)) (fun _ _ _ _=>rfl) us hl
 have T:Txt K mg ⟨aZ,bp,bA,_,aF,a7,_,f_look,_,dc,_,cF,_,bj,_,aW,_,aY,_,bO,_,bN,_,bx,_,bX,_,bB,_,bP,_,gb,_,cE,_,eB,_,dQ,_,fc,_,dR,_,g9,_,fe,_,cL,_,fa,_⟩:=⟨wR eQ,W.mg_of X G eT,eR,wR fK,W.mg_of X G fQ,fN,gu,fO,j9,⟨m9,m8,m7,m6⟩,W.mg_of X G m3,⟨m5,cP,dr,m4⟩,d0,dD,cC,dW,⟨cP,dr,dt⟩,gn,of_decide_eq_true xnd,gs,W.mg_of X G wI,jk,el,W.mg_of X G wH,gh,et,W.mg_of X G wO,gm,cz,W.mg_of X G fq,fk,bU,W.mg_of X G dh,dg,bZ,W.mg_of X G dJ,dI,dA,W.mg_of X G iu,ie,dz,W.mg_of X G ip,ic,cV,W.mg_of X G gp,gj,dj,W.mg_of X G jl,gi,cM,W.mg_of X G il,eO,dB,W.mg_of X G iw,ig,nY,W.mg_of X G wL,wC,aJ,W.mg_of X G wK,aN,kg,W.mg_of X G sX,sO,kh,W.mg_of X G sY,sP,iA,W.mg_of X G wJ,kZ,iL,W.mg_of X G sZ,mj,nZ,W.mg_of X G wM,wD,fu,W.mg_of X G wN,ij,dY,W.mg_of X G k7,iK,x9,W.mg_of X G x6,Ft,W.mg_none_of X G y2,W.mg_none_of X G uW,W.mg_none_of X G qf,W.mg_none_of X G uX,W.mg_none_of X G iZ,W.mg_none_of X G y0,W.mg_none_of X G qg,W.mg_none_of X G yZ,W.mg_none_of X G gB,W.mg_none_of X G fJ⟩;exact⟨W.fnOf "law" "law" (aO gF) (aE gF) (ak gF) .none A8 BB Ao BS wk BK,fun s v=>.of_eq rfl,fun base _ _=>GD T⟩
theorem walk{l:W.OpenLaw}{q:Program}{loose:List Str}{XP:(Str->Option Value)->Heap->Prop}{YP:World->Heap->Prop}{d:DefRec}{K:Params->W.Frag}(hn:l.most=some 63)(hdf:d.params.defaults = [])
  (hY:∀(w:World)(h:Heap),YP w h ->(K w.params).In h)
  (F:∀(w:World)(mg:Str->Option Value)(fa:Addr)(h:Heap),(K w.params).In h->h.Ns mainGlobals mg->mg d.name=some (.ref fa) ->
   ∃ fd:FuncData,(∀(s:Shared)(u:Value),BindsTo s fd ⟨[u],[]⟩ [("_law_script",u)])/\∀ base:Heap,(K w.params).In base->base.Ns mainGlobals mg->aH l.prog w (K w.params) mg base CX0 110 fa fd ["_law_script"] (mD (K w.params))) :
  W.WalkO q loose XP YP l.row.toRowW d [] (fun f vs=>PySem.call f vs) :=
 L2.B7 (n:=63) (k:=110) (x:="_law_script") (CX:=fun _=>CX0) (sp:=fun w=>mD (K w.params)) hn (by decide) hdf ⟨rfl,by decide,by decide⟩ hY F (fun _ _ a ns hl hO hS=>⟨a,ns,rfl,IP hO hS,hl,fun _=>rfl⟩) fun _ _ _ _ _ z=>z
end K08
namespace PySem.W.Fast
def tw10033856138107511621:=()
def tw10100110581737368293:=()
def tw10191630141565321969:=()
def tw10353221724605977166:=()
def tw10425103280716877763:=()
def tw10509305861671363992:=()
def tw10572885829154416803:=()
def tw10697746270835840038:=()
def tw10717372009104880773:=()
def tw10744392128363850370:=()
def tw10849491744777131945:=()
def tw10882109755188689363:=()
def tw10919059629859743454:=()
def tw10935905343785485876:=()
def tw10988720130103709717:=()
def tw11046421175645870777:=()
def tw11175543857697484286:=()
def tw11183310830774754114:=()
def tw1132371567306893956:=()
def tw1136552486143488355:=()
def tw11391089726553559818:=()
def tw11443312790661706798:=()
def tw11471108455926916824:=()
def tw11631368312332719606:=()
def tw11649077599084873422:=()
def tw11737134316731046:=()
def tw11754123989451895557:=()
def tw11833031742467940718:=()
def tw11862422089873378324:=()
def tw11872464217977968997:=()
def tw11933759803051272880:=()
def tw11938033140127949710:=()
def tw11984200406188565384:=()
def tw12067661739117127690:=()
def tw12070953713160103113:=()
def tw1214999853861891855:=()
def tw12170606267721592578:=()
def tw12173444900175754731:=()
def tw12472124071830992756:=()
def tw12639985348210308737:=()
def tw12895053924048170739:=()
def tw13171688906106782893:=()
def tw13441059331678697244:=()
def tw1358411397754493861:=()
def tw13592000203417347996:=()
def tw13835861565339288135:=()
def tw13885164367766350176:=()
def tw14051024657970028363:=()
def tw14082632079038729830:=()
def tw14095428099578936342:=()
def tw1418877213351926231:=()
def tw14552115957470397174:=()
def tw14667468338452603484:=()
def tw14724402706472752171:=()
def tw14994500559757277173:=()
def tw15025266220795211899:=()
def tw15179609526323208145:=()
def tw15248485448402577243:=()
def tw15317958919312207879:=()
def tw15472056047984684175:=()
def tw15493698366181806209:=()
def tw15823125906889895946:=()
def tw15862464971445935569:=()
def tw15874525789038640754:=()
def tw1597746298679216144:=()
def tw16074048326052088275:=()
def tw16303867154765158447:=()
def tw16467847773311204564:=()
def tw16524004901534487440:=()
def tw16578202564986777206:=()
def tw16608647636797998989:=()
def tw16631907389632180975:=()
def tw16651380046428352818:=()
def tw167386892916369959:=()
def tw16800815632748782599:=()
def tw16881403703757292128:=()
def tw16952517079743764223:=()
def tw16990705341347995873:=()
def tw17004320702136773465:=()
def tw17221137398574478125:=()
def tw17265346805849493741:=()
def tw17267786907436406753:=()
def tw17291111532201458000:=()
def tw17306248171168860153:=()
def tw17361482116490552782:=()
def tw17476152169939454880:=()
def tw17595172532054743742:=()
def tw17626272334450224784:=()
def tw17663279308055490176:=()
def tw17739507140836514936:=()
def tw17940027235446737316:=()
def tw18036615679834693509:=()
def tw18054544792791924474:=()
def tw18156095153904183207:=()
def tw18184789089101326033:=()
def tw18195298292006973635:=()
def tw18242265689190900167:=()
def tw18259541003804008673:=()
def tw18323628264982920886:=()
def tw18435520026010446031:=()
def tw1883265428864857082:=()
def tw1916907913648603540:=()
def tw2012911876635082957:=()
def tw2022745286414102099:=()
def tw2146247785930520687:=()
def tw2189164992422786871:=()
def tw2339907887575385240:=()
def tw2450321300293032401:=()
def tw2499832722655155659:=()
def tw2528854215690745756:=()
def tw2532862033417721559:=()
def tw255107785811899104:=()
def tw25640627258558629:=()
def tw2613198742899844373:=()
def tw2763422584233287018:=()
def tw2788783880074546411:=()
def tw2842132463635101611:=()
def tw3004854893561607547:=()
def tw3012720172043146188:=()
def tw3134192802917359981:=()
def tw3184596689661475549:=()
def tw3207566457131289030:=()
def tw3294823730444649247:=()
def tw3366612085777565464:=()
def tw3640365574329114669:=()
def tw3696653317872233844:=()
def tw3703582278509760956:=()
def tw3851017125255624974:=()
def tw3989538432014378867:=()
def tw3990715108624542798:=()
def tw4082348762219240224:=()
def tw4156165178547488744:=()
def tw418909641195190404:=()
def tw4230590041700198953:=()
def tw4280102869112892663:=()
def tw431302298351934553:=()
def tw4376210867382462985:=()
def tw4467612630095073676:=()
def tw4484384291119084794:=()
def tw4504010881951754698:=()
def tw4571362106963667843:=()
def tw4748759228399742746:=()
def tw4860343806647015386:=()
def tw5138546633958120975:=()
def tw5216072725295433359:=()
def tw5252276527936325485:=()
def tw5303120210210732986:=()
def tw5407905629569165252:=()
def tw562171073604630194:=()
def tw5675500125474279840:=()
def tw5727678957585582038:=()
def tw5758904358807960572:=()
def tw5837327804854496350:=()
def tw608024828717588058:=()
def tw6324108750243625283:=()
def tw6498562609899437105:=()
def tw66342704280512837:=()
def tw6639365061683845071:=()
def tw6799109917558986430:=()
def tw6881636792487396060:=()
def tw6906238833832684499:=()
def tw7213998872114647327:=()
def tw7239732302981319639:=()
def tw7474412984698252438:=()
def tw7558361978849935171:=()
def tw756609009780632245:=()
def tw7807627187776870881:=()
def tw7841250673614185939:=()
def tw7854419250113405936:=()
def tw7871665562361423020:=()
def tw7915105606777978228:=()
def tw7973705073922749147:=()
def tw802170976679376454:=()
def tw8204339229947499031:=()
def tw829609661648216424:=()
def tw840365700673965500:=()
def tw8440823344089671075:=()
def tw8545466178878109911:=()
def tw8595936637196720395:=()
def tw9095491045727015568:=()
def tw932408103816795424:=()
def tw9400793511561018518:=()
def tw949164081242684747:=()
def tw9541976096553412499:=()
def tw9743658699293342982:=()
def tw9795422708020776316:=()
def tw9978631054121418103:=()
end PySem.W.Fast
open PySem PySem.W PyProof.Rows
set_option maxRecDepth 100000 in
set_option maxHeartbeats 0 in
theorem PySem.Challenge.cw_pursewright_k08_sound_programs_holds : PySem.Challenge.rw_pursewright_k08_sound_programs.Holds := by
 w_on;o_law;k_head;(case hw=>w_witness2)
 k_fill
 refine K08.walk (l:=PySem.Challenge.rw_pursewright_k08_sound_programs) rfl rfl (fun w h Y=>PySem.W.kIn_of Y) ?F
 case F =>
  intro w mg fa h KX G hmg;refine' K08.all_mk KX G hmg ?eT ?eR ?eQ ?fQ ?fN ?jo ?jq ?fM ?fP ?fL ?fO ?fK ?m3 ?m9 ?m8 ?m7 ?m6 ?m5 ?m4 ?d0 ?dD ?cC ?cP ?eY ?eZ ?dt ?dr ?xnd ?wI ?vH ?wo ?vP ?wH ?vG ?wm ?vO ?wO ?vN ?wz ?vU ?fq ?e9 ?fj ?fb ?dh ?c8 ?df ?c9 ?dJ ?dF ?dH ?dG ?iu ?gU ?ia ?gZ ?ip ?gT ?h9 ?gY ?gp ?fZ ?gf ?f6 ?jl ?jc ?jj ?jd ?il ?gS ?hZ ?gX ?iw ?gW ?ib ?g6 ?wL ?vK ?wu ?vR ?wK ?vJ ?wt ?vQ ?sX ?rQ ?sL ?rT ?sY ?rR ?sM ?rV ?wJ ?vI ?wq ?k_fill ?sZ ?rS ?sN ?rW ?wM ?vL ?wx ?vS ?wN ?vM ?wy ?vT ?k7 ?kO ?kY ?kR ?x6 ?A5 ?BN ?A6 ?y2 ?uW ?qf ?uX ?iZ ?y0 ?qg ?yZ ?gB ?fJ
  all_goals try first|k_is|kernel_rfl
