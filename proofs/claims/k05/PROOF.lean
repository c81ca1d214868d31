import PyProof.Rows.All
import Wide.All
import OpenK.AllK
import Wide.FinOn
import Lean
import PyProof.EqAt
import PyProof.EqKinds
import PyProof.TupleCall
import PyProof.InstStoreFacts
import PySem.Challenge.RW_pursewright_k05_refusals
set_option Elab.async false
set_option linter.all false
set_option maxRecDepth 100000
namespace L2
open PySem PySem.Spec PyProof.Rows
abbrev Key := Sum Int Str
def keyIs : Key → Value → Bool
  | .inl k, v => Value.isInt k v
  | .inr x, v => Value.isStrOf x v
def keyH (w : World) : Key → Int
  | .inl k => hashInt k
  | .inr x => hashStr w x
theorem keyIs_shape : ∀ {k : Key} {v : Value}, keyIs k v = true → (∃ i t, k = Sum.inl i ∧ v = Value.int i t) ∨ (∃ x t, k = Sum.inr x ∧ v = Value.str x t)
  | .inl i, v, h => by
    obtain ⟨t, e⟩ := Value.isInt_shape (k := i) (v := v) h
    exact .inl ⟨i, t, rfl, e⟩
  | .inr x, v, h => by
    obtain ⟨t, e⟩ := Value.isStrOf_shape (x := x) (v := v) h
    exact .inr ⟨x, t, rfl, e⟩
theorem keyIs_int (i : Int) (t : Tok) : keyIs (.inl i) (.int i t) = true := by simp [keyIs, Value.isInt]
theorem keyIs_str (x : Str) (t : Tok) : keyIs (.inr x) (.str x t) = true := by simp [keyIs, Value.isStrOf]
theorem key_ll (a b : Int) : decide ((Sum.inl a : Key) = Sum.inl b) = (a == b) := by
  by_cases e : a = b
  · subst e; simp
  · have h : ¬ (Sum.inl a : Key) = Sum.inl b := fun q => e (Sum.inl.inj q)
    rw [decide_eq_false h]
    exact (beq_eq_false_iff_ne.mpr e).symm
theorem key_rr (a b : Str) : decide ((Sum.inr a : Key) = Sum.inr b) = decide (a = b) := by
  by_cases e : a = b
  · subst e; simp
  · have h : ¬ (Sum.inr a : Key) = Sum.inr b := fun q => e (Sum.inr.inj q)
    rw [decide_eq_false h, decide_eq_false e]
theorem key_lr (a : Int) (b : Str) : decide ((Sum.inl a : Key) = Sum.inr b) = false := decide_eq_false (fun q => nomatch q)
theorem key_rl (a : Str) (b : Int) : decide ((Sum.inr a : Key) = Sum.inl b) = false := decide_eq_false (fun q => nomatch q)
def mixKind (prog : Program) (w : World) : PySem.KeyKind prog w Key where
  is := keyIs
  hash := keyH w
  inj := fun v a b ha hb => by
    rcases keyIs_shape ha with ⟨i, t, rfl, rfl⟩ | ⟨x, t, rfl, rfl⟩
    · rcases keyIs_shape hb with ⟨j, u, rfl, e⟩ | ⟨y, u, rfl, e⟩
      · injection e with e1 _; rw [e1]
      · exact nomatch e
    · rcases keyIs_shape hb with ⟨j, u, rfl, e⟩ | ⟨y, u, rfl, e⟩
      · exact nomatch e
      · injection e with e1 _; rw [e1]
  byValue := fun k v h => by
    rcases keyIs_shape h with ⟨i, t, rfl, rfl⟩ | ⟨x, t, rfl, rfl⟩ <;> rfl
  pyHash := fun hv h => by
    rcases keyIs_shape hv with ⟨i, t, rfl, rfl⟩ | ⟨x, t, rfl, rfl⟩
    · exact wpAny_pyHash_int h
    · exact wpAny_pyHash_str h
  eqBool := fun hu hv h => by
    rcases keyIs_shape hu with ⟨i, t, rfl, rfl⟩ | ⟨x, t, rfl, rfl⟩
    · rcases keyIs_shape hv with ⟨j, u, rfl, rfl⟩ | ⟨y, u, rfl, rfl⟩
      · rw [key_ll] at h; exact wpAny_eqBool_int h
      · rw [key_lr] at h; exact SeqAt.EqAt.int_str i t y u _ _ _ _ h
    · rcases keyIs_shape hv with ⟨j, u, rfl, rfl⟩ | ⟨y, u, rfl, rfl⟩
      · rw [key_rl] at h; exact SeqAt.EqAt.str_int x t j u _ _ _ _ h
      · rw [key_rr] at h; exact wpAny_eqBool_str h
  «strs» := fun k x t v h => by
    rcases keyIs_shape h with ⟨i, u, rfl, e⟩ | ⟨y, u, rfl, e⟩
    · exact nomatch e
    · injection e with e1 _
      subst e1
      cases v <;> rfl
theorem mixKind_int (prog : Program) (w : World) (i : Int) (t : Tok) : (mixKind prog w).is (.inl i) (.int i t) = true := keyIs_int i t
theorem mixKind_str (prog : Program) (w : World) (x : Str) (t : Tok) : (mixKind prog w).is (.inr x) (.str x t) = true := keyIs_str x t
end L2
namespace L2
open PySem PySem.Spec PyProof.Rows
inductive V where
  | non | bl (b : Bool) | int (i : Int) | str (x : Str) | byt (b : Array UInt8) | flt (b : UInt64) | ref (a : Addr) | ty (n : String)
  deriving DecidableEq
def RelV : V → Value → Prop
  | .non, u => u = Value.none
  | .bl b, u => u = Value.bool b
  | .int i, u => ∃ t, u = Value.int i t
  | .str x, u => ∃ t, u = Value.str x t
  | .byt b, u => ∃ t, u = Value.bytes b t
  | .flt b, u => ∃ t, u = Value.float b t
  | .ref a, u => u = Value.ref a
  | .ty n, u => u = Value.type n
abbrev Vals : List V → List Value → Prop := Paired RelV
theorem Vals.length {xs : List V} {us : List Value} (r : Vals xs us) : xs.length = us.length := Paired.length r
theorem Vals.get : ∀ {xs : List V} {us : List Value} {i : Nat} {x : V}, Vals xs us → xs[i]? = some x → ∃ u, us[i]? = some u ∧ RelV x u
  | _, _, _, _, .nil, e => by simp at e
  | _, _, 0, _, .cons r _, e => by simp at e; subst e; exact ⟨_, rfl, r⟩
  | _, _, i + 1, x, .cons _ t, e => by
    obtain ⟨u, h1, h2⟩ := Vals.get (i := i) (x := x) t (by simpa using e)
    exact ⟨u, by simpa using h1, h2⟩
theorem Vals.set {x : V} {u : Value} (r : RelV x u) : ∀ {xs : List V} {us : List Value} (i : Nat), Vals xs us → Vals (xs.set i x) (us.set i u)
  | _, _, _, .nil => .nil
  | _, _, 0, .cons _ t => .cons r t
  | _, _, i + 1, .cons q t => .cons q (Vals.set r i t)
theorem Vals.append : ∀ {xs ys : List V} {us ws : List Value}, Vals xs us → Vals ys ws → Vals (xs ++ ys) (us ++ ws)
  | _, _, _, _, .nil, s => s
  | _, _, _, _, .cons r t, s => .cons r (Vals.append t s)
theorem Vals.take : ∀ {xs : List V} {us : List Value} (n : Nat), Vals xs us → Vals (xs.take n) (us.take n)
  | _, _, 0, _ => .nil
  | _, _, _ + 1, .nil => .nil
  | _, _, n + 1, .cons r t => .cons r (Vals.take n t)
theorem Vals.drop : ∀ {xs : List V} {us : List Value} (n : Nat), Vals xs us → Vals (xs.drop n) (us.drop n)
  | _, _, 0, r => r
  | _, _, _ + 1, .nil => .nil
  | _, _, n + 1, .cons _ t => Vals.drop n t
def RelO : Option V → Option Value → Prop
  | some v, some u => RelV v u
  | none, none => True
  | _, _ => False
def KV {κ : Type} : List (κ × V) → List (κ × Value) → Prop := Paired fun (p : κ × V) (q : κ × Value) => p.1 = q.1 ∧ RelV p.2 q.2
def kV : Key → V
  | .inl i => .int i
  | .inr x => .str x
inductive HO where
  | lst (xs : List V)
  | tup (xs : List V)
  | dK (kvs : List (Key × V)) | dT (kvs : List (List Key × V))
  | set (S : Int → Bool) (n : Nat)
  | ins (C dx : Addr) (fs : List (Str × V))
  | own (x : Addr)
  | xd (fs : List (Str × V))
  | met (f x : Addr)
  | rng (lo hi : Int)
  | frz (o : Obj) (u : HO)
  | tbl (ps : Array Value)
  | ext (φ : Heap → Prop)
abbrev Hp := Addr → Option HO
def upd (H : Hp) (a : Addr) (o : HO) : Hp := fun b => if b = a then some o else H b
theorem upd_same {H : Hp} {a : Addr} {o : HO} : upd H a o a = some o := by unfold upd; rw [if_pos rfl]
theorem upd_ne {H : Hp} {a b : Addr} {o : HO} (h : b ≠ a) : upd H a o b = H b := by unfold upd; rw [if_neg h]
theorem ne_of {H : Hp} {a b : Addr} {o u : HO} (h : H a = some o) (h' : H b = some u) (d : o ≠ u) : a ≠ b := by
  intro e; subst e; rw [h] at h'; exact d (Option.some.inj h')
theorem ne_of_none {H : Hp} {a b : Addr} {o : HO} (h : H a = some o) (h' : H b = none) : a ≠ b := by
  intro e; subst e; rw [h] at h'; cases h'
def IsTupN (h : Heap) (a : Addr) (items : Array Value) : Prop := IsTup h a items ∧ ∃ o, h.get? a = some o ∧ o.dict = none
theorem IsTupN.new (h : Heap) (items : Array Value) : IsTupN (h.push { cls := .type "tuple", data := .seq items }) h.objs.size items := ⟨IsTup.new _ _, _, Heap.get?_push_size _ rfl, rfl⟩
section
variable (P : Program) (w : World)
def ObjOk (H : Hp) (h : Heap) (a : Addr) : HO → Prop
  | .lst xs => xs.length ≤ sizeLine ∧ ∃ (its : List Value) (n : Nat), Vals xs its ∧ h.get? a = some { cls := .type "list", data := .seq its.toArray n }
  | .tup xs => xs.length ≤ sizeLine ∧ ∃ its : List Value, Vals xs its ∧ IsTupN h a its.toArray
  | .dK kvs => kvs.length ≤ sizeLine ∧ (a == sysModules) = false ∧ ∃ vs, KV kvs vs ∧ h.DictOf (mixKind P w) a vs
  | .dT kvs => kvs.length ≤ sizeLine ∧ (a == sysModules) = false ∧ ∃ xs : List (List Key × Addr × Value),
      Paired (fun (p : List Key × V) (q : List Key × Addr × Value) => p.1 = q.1 ∧ H q.2.1 = some (.tup (p.1.map kV)) ∧ RelV p.2 q.2.2) kvs xs ∧
      ∃ o es ep, h.get? a = some o ∧ o.ExactDict ∧ o.data = .dict es ep ∧ es.toList = xs.map (entryOfKey (tupleKind (mixKind P w))) ∧ (xs.map (·.1)).Nodup
  | .set S n => h.SetOf (intKind P w) a S n
  | .ins C dx fs => H dx = some (.own a) ∧ fs.length ≤ 1000 ∧ dx ≠ a ∧ h.get? a = some (PySem.W.instObj C dx) ∧
      ∃ mA, h.Ns1 dx mA ∧ (∀ f, RelO (fs.lookup f) (mA f)) ∧ PySem.Within mA (fs.map (·.1))
  | .own _ => ∃ o, h.get? a = some o
  | .xd fs => ∃ mA, h.Ns1 a mA ∧ ∀ f, RelO (fs.lookup f) (mA f)
  | .rng lo hi => ∃ t u v, h.get? a = some { cls := .type "range", data := .fields #[.int lo t, .int hi u, .int 1 v] }
  | .frz o u => h.get? a = some o ∧ ObjOk H h a u
  | .tbl ps => h.get? a = some { cls := .none, data := .fields ps }
  | .met f x => h.get? a = some (PySem.W.methodObj (.ref f) (.ref x))
  | .ext φ => φ h ∧ (∃ o, h.get? a = some o) ∧ ∀ h1 h2 : Heap, φ h1 → (∀ o, h1.get? a = some o → h2.get? a = some o) → φ h2
def HOk (H : Hp) (h : Heap) : Prop := ∀ a o, H a = some o → ObjOk P w H h a o
end
section
variable {P : Program} {w : World} {H H' : Hp} {h h' : Heap} {a : Addr} {o : HO}
theorem ObjOk.lt (x : ObjOk P w H h a o) : a < h.objs.size := by
  cases o with
  | lst xs => obtain ⟨_, _, _, _, e⟩ := x; exact Heap.lt_size e
  | tup xs => obtain ⟨_, _, _, p⟩ := x; exact p.1.lt
  | dK kvs => obtain ⟨_, _, _, _, o, _, _, e, _⟩ := x; exact Heap.lt_size e
  | dT kvs => obtain ⟨_, _, _, _, o, _, _, e, _⟩ := x; exact Heap.lt_size e
  | set S n => obtain ⟨o, _, _, _, e, _⟩ := x; exact Heap.lt_size e
  | ins C dx fs => obtain ⟨_, _, _, e, _⟩ := x; exact Heap.lt_size e
  | own y => obtain ⟨_, e⟩ := x; exact Heap.lt_size e
  | xd fs => obtain ⟨_, ⟨_, _, _, e, _⟩, _⟩ := x; exact Heap.lt_size e
  | rng lo hi => obtain ⟨_, _, _, e⟩ := x; exact Heap.lt_size e
  | frz ob u => obtain ⟨e, _⟩ := x; exact Heap.lt_size e
  | tbl ps => exact Heap.lt_size (show h.get? a = some _ from x)
  | met f y => exact Heap.lt_size (show h.get? a = some _ from x)
  | ext φ => obtain ⟨_, ⟨_, e⟩, _⟩ := x; exact Heap.lt_size e
theorem Paired.mapP {α β : Type} {F G : α → β → Prop} : ∀ {l₁ : List α} {l₂ : List β}, Paired F l₁ l₂ → (∀ a b, F a b → G a b) → Paired G l₁ l₂
  | _, _, .nil, _ => .nil
  | _, _, .cons r t, f => .cons (f _ _ r) (Paired.mapP t f)
theorem ObjOk.stay (x : ObjOk P w H h a o) (k : ∀ b u, (b = a ∨ H b = some (.own a)) → h.get? b = some u → h'.get? b = some u)
    (ho : ∀ b, H b = some (.own a) → H' b = some (.own a)) (ht : ∀ b xs, H b = some (.tup xs) → H' b = some (.tup xs)) : ObjOk P w H' h' a o := by
  induction o with
  | lst xs => obtain ⟨z, its, n, r, e⟩ := x; exact ⟨z, its, n, r, k _ _ (.inl rfl) e⟩
  | tup xs => obtain ⟨z, its, r, ⟨ob, e, c⟩, o2, e2, d2⟩ := x; exact ⟨z, its, r, ⟨ob, k _ _ (.inl rfl) e, c⟩, o2, k _ _ (.inl rfl) e2, d2⟩
  | dK kvs => obtain ⟨z, y, vs, r, ob, es, ep, e, c⟩ := x; exact ⟨z, y, vs, r, ob, es, ep, k _ _ (.inl rfl) e, c⟩
  | dT kvs =>
    obtain ⟨z, y, xs, r, ob, es, ep, e, c⟩ := x
    exact ⟨z, y, xs, Paired.mapP r fun p q z => ⟨z.1, ht _ _ z.2.1, z.2.2⟩, ob, es, ep, k _ _ (.inl rfl) e, c⟩
  | set S n => obtain ⟨ob, es, ep, t, e, c⟩ := x; exact ⟨ob, es, ep, t, k _ _ (.inl rfl) e, c⟩
  | ins C dx fs =>
    obtain ⟨d, z, ne, e, mA, ⟨od, es, ep, e2, c⟩, r⟩ := x
    exact ⟨ho _ d, z, ne, k _ _ (.inl rfl) e, mA, ⟨od, es, ep, k _ _ (.inr d) e2, c⟩, r⟩
  | own y => obtain ⟨ob, e⟩ := x; exact ⟨ob, k _ _ (.inl rfl) e⟩
  | xd fs => obtain ⟨mA, ⟨od, es, ep, e, c⟩, r⟩ := x; exact ⟨mA, ⟨od, es, ep, k _ _ (.inl rfl) e, c⟩, r⟩
  | rng lo hi => obtain ⟨t, u, v, e⟩ := x; exact ⟨t, u, v, k _ _ (.inl rfl) e⟩
  | frz ob u ih => obtain ⟨e, q⟩ := x; exact ⟨k _ _ (.inl rfl) e, ih q⟩
  | tbl ps =>
    have e : h.get? a = some { cls := .none, data := .fields ps } := x
    show h'.get? a = some { cls := .none, data := .fields ps }
    exact k a _ (.inl rfl) e
  | met f y =>
    have e : h.get? a = some (PySem.W.methodObj (.ref f) (.ref y)) := x
    show h'.get? a = some (PySem.W.methodObj (.ref f) (.ref y))
    exact k a _ (.inl rfl) e
  | ext φ => obtain ⟨p, ⟨o, e⟩, st⟩ := x; exact ⟨st _ _ p fun o q => k _ _ (.inl rfl) q, ⟨o, k _ _ (.inl rfl) e⟩, st⟩
theorem HOk.lt (x : HOk P w H h) (e : H a = some o) : a < h.objs.size := (x a o e).lt
theorem HOk.fresh (x : HOk P w H h) (e : h.objs.size ≤ a) : H a = none := by
  cases q : H a with
  | none => rfl
  | some u => exact absurd (Nat.lt_of_lt_of_le (x.lt q) e) (Nat.lt_irrefl _)
theorem HOk.kept (x : HOk P w H h) (k : ∀ b u, h.get? b = some u → h'.get? b = some u) : HOk P w H h' := fun a o e =>
  (x a o e).stay (fun b u _ q => k b u q) (fun _ q => q) fun _ _ q => q
theorem HOk.laid (x : HOk P w H h) (k : ∀ b u, h.get? b = some u → h'.get? b = some u) (hp : h.objs.size ≤ a) (new : ObjOk P w (upd H a o) h' a o) : HOk P w (upd H a o) h' := fun b u e => by
  have hn := x.fresh hp
  by_cases hb : b = a
  · subst hb; rw [upd_same] at e; cases e; exact new
  · rw [upd_ne hb] at e
    exact (x b u e).stay (fun c v _ q => k c v q) (fun c q => by rw [upd_ne (ne_of_none q hn)]; exact q) fun c xs q => by rw [upd_ne (ne_of_none q hn)]; exact q
end
def Rd (H : Hp) (a : Addr) (u : HO) : Prop := H a = some u ∨ ∃ o, H a = some (.frz o u)
theorem Rd.of {H : Hp} {a : Addr} {u : HO} (h : H a = some u) : Rd H a u := .inl h
theorem Rd.ok {P : Program} {w : World} {H : Hp} {h : Heap} {a : Addr} {u : HO} (r : Rd H a u) (x : HOk P w H h) : ObjOk P w H h a u := by
  rcases r with r | ⟨o, r⟩
  · exact x a u r
  · obtain ⟨_, q⟩ := x a _ r
    exact q
def Mut : Option HO → Prop
  | some (.lst _) => True
  | some (.dK _) => True
  | some (.dT _) => True
  | some (.set _ _) => True
  | some (.ins _ _ _) => True
  | some (.ext _) => True
  | _ => False
section
variable {P : Program} {w : World} {H : Hp} {h h' : Heap} {x e : Addr} {o' : HO}
theorem HOk.write (ok : HOk P w H h) (mu : Mut (H x)) (he : e = x ∨ H e = some (.own x)) (k : ∀ b u, b ≠ e → h.get? b = some u → h'.get? b = some u) (heo : ∃ u, h'.get? e = some u)
    (new : ObjOk P w (upd H x o') h' x o') : HOk P w (upd H x o') h' := fun b u q => by
  have nown : ∀ c y, H c = some (.own y) → c ≠ x := fun c y r z => by subst z; rw [r] at mu; exact mu
  have ntup : ∀ c xs, H c = some (.tup xs) → c ≠ x := fun c xs r z => by subst z; rw [r] at mu; exact mu
  by_cases hb : b = x
  · subst hb; rw [upd_same] at q; cases q; exact new
  · rw [upd_ne hb] at q
    by_cases hbe : b = e
    · have q' : H b = some (.own x) := by
        rcases he with z | z
        · exact absurd (hbe.trans z) hb
        · rw [hbe]; exact z
      rw [q] at q'; cases q'
      obtain ⟨v, hv⟩ := heo
      exact ⟨v, by rw [hbe]; exact hv⟩
    · refine (ok b u q).stay (fun c v hc r => k c v ?_ r) (fun c r => by rw [upd_ne (nown c b r)]; exact r) fun c xs r => by rw [upd_ne (ntup c xs r)]; exact r
      rcases hc with rfl | hc
      · exact hbe
      · rintro rfl
        rcases he with z | z
        · exact nown c b hc z
        · rw [hc] at z; cases z; exact hb rfl
end
structure Un (fs ex : List Addr) (H H' : Hp) (h h' : Heap) : Prop where
  keep : ∀ b o, h.get? b = some o → H b = none → b ∉ fs → b ∉ ex → h'.get? b = some o
  slot : ∀ b o, h.get? b = some o → H b = none → b ∈ fs → b ∉ ex → ∃ sl, h'.get? b = some { o with slots := sl }
  free : ∀ b o, h.get? b = some o → H b = none → b ∉ ex → H' b = none
  there : ∀ b o, h.get? b = some o → b ∉ ex → ∃ o', h'.get? b = some o'
  tups : ∀ b xs, H b = some (.tup xs) → H' b = some (.tup xs)
  frzs : ∀ b o u, H b = some (.frz o u) → H' b = some (.frz o u)
  tbls : ∀ b ps, H b = some (.tbl ps) → ∃ more, H' b = some (.tbl (ps ++ more))
section
variable {fs fs' ex ex' : List Addr} {H H1 H2 : Hp} {h h1 h2 h' : Heap} {a x e : Addr} {o : HO}
theorem Un.any (u : Un fs ex H H1 h h1) {b : Addr} {ob : Obj} (q : h.get? b = some ob) (n : H b = none) (hx : b ∉ ex) : ∃ sl, h1.get? b = some { ob with slots := sl } := by
  by_cases hb : b ∈ fs
  · exact u.slot b ob q n hb hx
  · exact ⟨ob.slots, u.keep b ob q n hb hx⟩
theorem Un.trans (a : Un fs ex H H1 h h1) (b : Un fs ex H1 H2 h1 h2) : Un fs ex H H2 h h2 where
  keep := fun c ob q n hc hx => b.keep c ob (a.keep c ob q n hc hx) (a.free c ob q n hx) hc hx
  slot := fun c ob q n hc hx => by
    obtain ⟨sl, e1⟩ := a.slot c ob q n hc hx
    obtain ⟨sl', e2⟩ := b.slot c _ e1 (a.free c ob q n hx) hc hx
    exact ⟨sl', e2⟩
  free := fun c ob q n hx => by
    obtain ⟨o', e1⟩ := a.there c ob q hx
    exact b.free c o' e1 (a.free c ob q n hx) hx
  there := fun c ob q hx => by
    obtain ⟨o', e1⟩ := a.there c ob q hx
    exact b.there c o' e1 hx
  tups := fun c xs q => b.tups c xs (a.tups c xs q)
  frzs := fun c ob xs q => b.frzs c ob xs (a.frzs c ob xs q)
  tbls := fun c ps q => by
    obtain ⟨m1, e1⟩ := a.tbls c ps q
    obtain ⟨m2, e2⟩ := b.tbls c _ e1
    exact ⟨m1 ++ m2, by rw [e2, Array.append_assoc]⟩
theorem Un.kept (k : ∀ b u, h.get? b = some u → h'.get? b = some u) : Un fs ex H H h h' :=
  ⟨fun b ob q _ _ _ => k b ob q, fun b ob q _ _ _ => ⟨ob.slots, k b ob q⟩, fun _ _ _ n _ => n, fun b ob q _ => ⟨ob, k b ob q⟩, fun _ _ q => q, fun _ _ _ q => q, fun _ ps q => ⟨#[], by rw [q]; simp⟩⟩
theorem Un.refl : Un fs ex H H h h := Un.kept fun _ _ q => q
theorem Un.laid (k : ∀ b u, h.get? b = some u → h'.get? b = some u) (hp : h.objs.size ≤ a) (hn : H a = none) : Un fs ex H (upd H a o) h h' where
  keep := fun b u q _ _ _ => k b u q
  slot := fun b u q _ _ _ => ⟨u.slots, k b u q⟩
  free := fun b u q n _ => by rw [upd_ne (Nat.ne_of_lt (Nat.lt_of_lt_of_le (Heap.lt_size q) hp))]; exact n
  there := fun b u q _ => ⟨u, k b u q⟩
  tups := fun b xs q => by rw [upd_ne (ne_of_none q hn)]; exact q
  frzs := fun b u xs q => by rw [upd_ne (ne_of_none q hn)]; exact q
  tbls := fun b ps q => ⟨#[], by rw [upd_ne (ne_of_none q hn), q]; simp⟩
theorem Un.write (mu : Mut (H x)) (he : e = x ∨ H e = some (.own x)) (k : ∀ b u, b ≠ e → h.get? b = some u → h'.get? b = some u) (heo : ∃ u, h'.get? e = some u) : Un fs ex H (upd H x o) h h' := by
  have hx : ∀ b, H b = none → b ≠ x := fun b n z => by subst z; rw [n] at mu; exact mu
  have hb : ∀ b, H b = none → b ≠ e := fun b n z => by
    subst z
    rcases he with r | r
    · exact hx b n r
    · rw [n] at r; cases r
  have hm : ∀ b u, H b = some u → ¬ Mut (some u) → b ≠ x := fun b u q nm z => by subst z; rw [q] at mu; exact nm mu
  refine ⟨fun b u q n _ _ => k b u (hb b n) q, fun b u q n _ _ => ⟨u.slots, k b u (hb b n) q⟩, fun b u q n _ => by rw [upd_ne (hx b n)]; exact n, fun b u q _ => ?_,
    fun b xs q => by rw [upd_ne (hm b _ q fun z => z)]; exact q, fun b u xs q => by rw [upd_ne (hm b _ q fun z => z)]; exact q, fun b ps q => ⟨#[], by rw [upd_ne (hm b _ q fun z => z), q]; simp⟩⟩
  by_cases hbe : b = e
  · subst hbe; exact heo
  · exact ⟨u, k b u hbe q⟩
theorem Un.mono (u : Un fs ex H H1 h h1) (hs : ∀ b ∈ fs, b ∈ fs') (hx : ∀ b ∈ ex, b ∈ ex') : Un fs' ex' H H1 h h1 :=
  ⟨fun b ob q n hb he => u.keep b ob q n (fun z => hb (hs b z)) fun z => he (hx b z), fun _ _ q n _ he => u.any q n fun z => he (hx _ z), fun b ob q n he => u.free b ob q n fun z => he (hx b z), fun b ob q he => u.there b ob q fun z => he (hx b z), u.tups, u.frzs, u.tbls⟩
end
def trk (h : Heap) (H : Hp) : List Addr := (List.range h.objs.size).filter fun a => (H a).isSome
def hidT (h : Heap) (H : Hp) : Heap := PySem.W.hideAll h (trk h H)
theorem hidT_size (h : Heap) (H : Hp) : (hidT h H).objs.size = h.objs.size := PySem.W.hideAll_size _ _
theorem hidT_get {h : Heap} {H : Hp} {b : Addr} {o : Obj} (e : h.get? b = some o) (n : H b = none) : (hidT h H).get? b = some o :=
  PySem.W.hideAll_get _ e fun hm => by
    have q : (H b).isSome = true := (List.mem_filter.mp hm).2
    rw [n] at q; simp at q
theorem of_hidT {h : Heap} {H : Hp} {b : Addr} {o : Obj} (e : (hidT h H).get? b = some o) : h.get? b = some o ∧ H b = none := by
  have e' : h.get? b = some o := PySem.W.of_hideAll (trk h H) e
  refine ⟨e', ?_⟩
  cases q : H b with
  | none => rfl
  | some x =>
    have hm : b ∈ trk h H := List.mem_filter.mpr ⟨List.mem_range.mpr (Heap.lt_size e'), by simp [q]⟩
    have z : (hidT h H).get? b = none := PySem.W.hideAll_none (trk h H) hm
    rw [z] at e; cases e
def allNews (g h : Heap) (L : Addr) : List (Addr × Obj) := (List.range h.objs.size).filterMap fun a => if a = L ∨ (g.get? a).isSome = true then none else (h.get? a).map fun o => (a, o)
def rest (g h : Heap) (L d : Addr) : List (Addr × Obj) := (allNews g h L).filter fun p => decide (p.1 ≠ d)
end L2
namespace L2
open PySem PySem.Spec PyProof.Rows
structure Mod (K : PySem.W.Frag) (mg : Str → Option Value) (base : Heap) : Prop where
  kin : K.In base
  glob : base.Ns mainGlobals mg
  blt : ∃ mb, base.Ns builtinsNs mb ∧ ∀ x : Str, x ≠ "__name__" → mb x = bootBuiltins x
  nolimit : base.NoLimit
structure Cx where
  prog : Program
  w : World
  K : PySem.W.Frag
  mg : Str → Option Value
  base : Heap
  A : Around
  N : List Str
  s₀ : Shared
  H₀ : Hp
  env : Env
  outer : List Env
  stack : List Env
  ex : List Addr
  fn : Str → Bool
  calm : Bool
  pn : List (Addr × Obj)
  xe : Value → Shared → Prop
def frs (l : List Env) : List Addr := l.filterMap (·.frame)
abbrev Cx.fs (X : Cx) : List Addr := frs X.outer
def Vis (sc : Scope) (x : Str) : Prop := sc.names.lookup x = some .local ∨ sc.names.lookup x = some .cell ∨ sc.names.lookup x = some .free
def Loc (sc : Scope) (x : Str) : Prop := sc.names.lookup x = some .local ∨ sc.names.lookup x = some .cell
def Look (env : Env) (h : Heap) (m : Str → Option Value) (x : Str) (u : Value) : Prop :=
  (env.kindOf x = some .local ∧ m x = some u) ∨ ((env.kindOf x = some .cell ∨ env.kindOf x = some .free) ∧ ∃ c, env.cells.lookup x = some c ∧ h.IsCell c (some u))
structure Cx.Ok (X : Cx) : Prop where
  mod : Mod X.K X.mg X.base
  kind : X.env.scope.kind = .function
  glob : X.env.globals = mainGlobals
  blt : X.env.builtins = builtinsNs
  above : X.s₀.heap.objs.size ≤ X.env.locals
  inj : ∀ x y c, X.env.cells.lookup x = some c → X.env.cells.lookup y = some c → x = y
  has : ∀ x, (X.env.kindOf x = some .cell ∨ X.env.kindOf x = some .free) → ∃ c, X.env.cells.lookup x = some c
  cab : ∀ x c, X.fn x = true → X.env.cells.lookup x = some c → X.s₀.heap.objs.size ≤ c
  hd : X.calm = true → X.A.handled = none
  frames : X.A.frames = some X.stack
  stk : X.stack = X.outer ∨ (X.stack = X.env :: X.outer ∧ X.env.frame = some X.env.locals)
  exf : ∀ b ∈ X.ex, b ≠ X.env.locals ∧ ∀ x c, X.env.cells.lookup x = some c → c ≠ b
  bs : ∀ b o, X.base.get? b = some o → X.s₀.heap.get? b = some o ∧ X.H₀ b = none
  bsz : X.base.objs.size ≤ X.s₀.heap.objs.size
  noex : ∀ b o, X.base.get? b = some o → b ∉ X.ex
  exfs : ∀ b ∈ X.ex, b ∉ X.fs
  funs : X.s₀.heap.FunFrames X.base X.outer
  frf : ∀ b ∈ X.fs, X.H₀ b = none
structure Inv (X : Cx) (pins : List (Addr × Obj)) (σ : List (Option V)) (H : Hp) (s : Shared) : Prop where
  ok : X.Ok
  os : s.os = X.s₀.os
  bare : AllBare s.gens
  base : Un X.fs X.ex X.H₀ H X.s₀.heap s.heap
  loc : ∃ m, s.heap.Ns X.env.locals m ∧ ∀ (i : Nat) (x : Str) (v : V), X.N[i]? = some x → σ[i]? = some (some v) → Vis X.env.scope x → ∃ u, RelV v u ∧ Look X.env s.heap m x u
  cell : ∀ x c, X.env.cells.lookup x = some c → ∃ v, s.heap.IsCell c v
  free : H X.env.locals = none
  freeC : ∀ x c, X.env.cells.lookup x = some c → H c = none
  pin : ∀ p ∈ X.pn ++ pins, s.heap.get? p.1 = some p.2 ∧ H p.1 = none ∧ p.1 ≠ X.env.locals ∧ p.1 ∉ X.fs ∧ ∀ v, p.2.data ≠ .cell v
  hok : HOk X.prog X.w H s.heap
  len : σ.length = X.N.length
section
variable {X : Cx} {pins : List (Addr × Obj)} {σ : List (Option V)} {H H' : Hp} {s : Shared} {h' : Heap}
theorem Cx.Ok.nofr (ok : X.Ok) {b : Addr} {o : Obj} (e : X.base.get? b = some o) : b ∉ X.fs := fun hb => by
  have := (ok.funs.mem hb).1
  rw [e] at this; cases this
theorem Inv.bs (I : Inv X pins σ H s) : ∀ b o, X.base.get? b = some o → s.heap.get? b = some o ∧ H b = none := fun b o e =>
  ⟨I.base.keep b o (I.ok.bs b o e).1 (I.ok.bs b o e).2 (I.ok.nofr e) (I.ok.noex b o e), I.base.free b o (I.ok.bs b o e).1 (I.ok.bs b o e).2 (I.ok.noex b o e)⟩
theorem Inv.bk (I : Inv X pins σ H s) : ∀ b o, X.base.get? b = some o → s.heap.get? b = some o := fun b o e => (I.bs b o e).1
theorem Inv.mod (I : Inv X pins σ H s) : Mod X.K X.mg X.base := I.ok.mod
theorem Inv.kIn (I : Inv X pins σ H s) : X.K.In s.heap := I.ok.mod.kin.keeps I.bk
theorem Inv.nolimit (I : Inv X pins σ H s) : s.heap.NoLimit := I.ok.mod.nolimit.keeps I.bk
theorem Inv.fr (I : Inv X pins σ H s) : ∃ m, Fr X.base X.env.locals s.heap m :=
  let ⟨m, hn, _⟩ := I.loc
  ⟨m, hn, I.bk, Nat.le_trans I.ok.bsz I.ok.above⟩
theorem Inv.lt (I : Inv X pins σ H s) : X.env.locals < s.heap.objs.size := let ⟨_, hn, _⟩ := I.loc; hn.lt
theorem Inv.sz (I : Inv X pins σ H s) : X.s₀.heap.objs.size ≤ s.heap.objs.size := Nat.le_trans I.ok.above (Nat.le_of_lt I.lt)
theorem Inv.nofs (I : Inv X pins σ H s) {a : Addr} (h : s.heap.objs.size ≤ a) : a ∉ X.fs := fun hb => by
  obtain ⟨_, o, ho, _⟩ := I.ok.funs.mem hb
  exact absurd (Nat.lt_of_lt_of_le (Heap.lt_size ho) (Nat.le_trans I.sz h)) (Nat.lt_irrefl _)
theorem Inv.cne (I : Inv X pins σ H s) : ∀ x c, X.env.cells.lookup x = some c → c ≠ X.env.locals := fun x c e z => by
  obtain ⟨v, o, ho, hd⟩ := I.cell x c e
  obtain ⟨m, ⟨o', es, ep, ho', hd', _⟩, _⟩ := I.loc
  rw [z, ho'] at ho; cases ho; rw [hd'] at hd; cases hd
theorem Inv.funs (I : Inv X pins σ H s) : s.heap.FunFrames X.base X.outer := by
  have all : ∀ (l : List Env), (∀ b ∈ frs l, b ∈ X.fs) → X.s₀.heap.FunFrames X.base l → s.heap.FunFrames X.base l := by
    intro l
    induction l with
    | nil => intro _ _; trivial
    | cons env r ih =>
      intro hs hl
      obtain ⟨hk, ⟨L, o, hf, hn, ho, hd⟩, hr⟩ := hl
      have hL : L ∈ X.fs := hs L (by unfold frs; rw [List.filterMap_cons, hf]; exact List.mem_cons_self)
      obtain ⟨sl, e⟩ := I.base.slot L o ho (I.ok.frf L hL) hL fun z => I.ok.exfs L z hL
      exact ⟨hk, ⟨L, _, hf, hn, e, hd⟩, ih (fun b hb => hs b (by unfold frs; rw [List.filterMap_cons, hf]; exact List.mem_cons_of_mem _ hb)) hr⟩
  exact all X.outer (fun _ hb => hb) I.ok.funs
theorem Inv.stack (I : Inv X pins σ H s) : s.heap.FunFrames X.base X.stack := by
  rcases I.ok.stk with e | ⟨e, hf⟩
  · rw [e]; exact I.funs
  · rw [e]
    obtain ⟨m, hn, _⟩ := I.loc
    refine .cons (by rw [I.ok.kind]; decide) hf hn ?_ I.funs
    exact Heap.get?_none_of_le (Nat.le_trans I.ok.bsz I.ok.above)
theorem Inv.stkSub (I : Inv X pins σ H s) : ∀ b ∈ frs X.stack, b ∈ X.env.locals :: X.fs := fun b hb => by
  rcases I.ok.stk with e | ⟨e, hf⟩
  · rw [e] at hb; exact List.mem_cons_of_mem _ hb
  · rw [e] at hb
    unfold frs at hb
    rw [List.filterMap_cons, hf] at hb
    exact hb
theorem Inv.stkFree (I : Inv X pins σ H s) : ∀ b ∈ frs X.stack, H b = none := fun b hb => by
  rcases List.mem_cons.mp (I.stkSub b hb) with e | hb
  · rw [e]; exact I.free
  · obtain ⟨_, o, ho, _⟩ := I.ok.funs.mem hb
    exact I.base.free b o ho (I.ok.frf b hb) fun z => I.ok.exfs b z hb
theorem Inv.step {g' : Array GenState} {t' : Nat} {d' : Drawn} {ch : List Addr} (I : Inv X pins σ H s)
    (hch : ∀ b ∈ ch, (b ∈ X.ex ∨ X.s₀.heap.objs.size ≤ b) ∧ b ≠ X.env.locals ∧ (∀ x c, X.env.cells.lookup x = some c → c ≠ b) ∧ ∀ p ∈ X.pn ++ pins, p.1 ≠ b)
    (keep : ∀ b o, b ≠ X.env.locals → b ∉ X.fs → b ∉ ch → s.heap.get? b = some o → H b = none → h'.get? b = some o)
    (slot : ∀ b o, b ≠ X.env.locals → b ∈ X.fs → b ∉ ch → s.heap.get? b = some o → H b = none → ∃ sl, h'.get? b = some { o with slots := sl }) (free : ∀ b o, b ∉ ch → s.heap.get? b = some o → H b = none → H' b = none)
    (there : ∀ b o, b ∉ ch → s.heap.get? b = some o → ∃ o', h'.get? b = some o')
    (tups : ∀ b xs, H b = some (.tup xs) → H' b = some (.tup xs)) (frzs : ∀ b o u, H b = some (.frz o u) → H' b = some (.frz o u)) (tbls : ∀ b ps, H b = some (.tbl ps) → ∃ more, H' b = some (.tbl (ps ++ more)))
    (ns : ∀ m, s.heap.Ns X.env.locals m → h'.Ns X.env.locals m) (hok : HOk X.prog X.w H' h') (hg : AllBare g') :
    Inv X pins σ H' { s with heap := h', gens := g', drawn := d', toks := t' } := by
  have neL : ∀ b o, X.s₀.heap.get? b = some o → b ≠ X.env.locals := fun b o e => Nat.ne_of_lt (Nat.lt_of_lt_of_le (Heap.lt_size e) I.ok.above)
  have neC : ∀ b o, X.s₀.heap.get? b = some o → b ∉ X.ex → b ∉ ch := fun b o e hx hb => by
    rcases (hch b hb).1 with z | z
    · exact hx z
    · exact absurd (Nat.lt_of_lt_of_le (Heap.lt_size e) z) (Nat.lt_irrefl _)
  have cellK : ∀ x c, X.env.cells.lookup x = some c → ∀ v, s.heap.IsCell c v → h'.IsCell c v := fun x c e v ⟨o, ho, hd⟩ => by
    have nch : c ∉ ch := fun z => (hch c z).2.2.1 x c e rfl
    by_cases hc : c ∈ X.fs
    · obtain ⟨sl, q⟩ := slot c o (I.cne x c e) hc nch ho (I.freeC x c e)
      exact ⟨_, q, hd⟩
    · exact ⟨o, keep c o (I.cne x c e) hc nch ho (I.freeC x c e), hd⟩
  refine ⟨I.ok, I.os, hg, ⟨fun b o e n hb hx => ?_, fun b o e n hb hx => ?_, fun b o e n hx => ?_, fun b o e hx => ?_, fun b xs e => tups b xs (I.base.tups b xs e), fun b o xs e => frzs b o xs (I.base.frzs b o xs e), fun b ps e => ?_⟩, ?_, fun x c e => ?_, ?_, fun x c e => ?_, fun p hp => ?_, hok, I.len⟩
  · exact keep b o (neL b o e) hb (neC b o e hx) (I.base.keep b o e n hb hx) (I.base.free b o e n hx)
  · obtain ⟨sl, e1⟩ := I.base.slot b o e n hb hx
    obtain ⟨sl', e2⟩ := slot b _ (neL b o e) hb (neC b o e hx) e1 (I.base.free b o e n hx)
    exact ⟨sl', e2⟩
  · obtain ⟨o', e1⟩ := I.base.there b o e hx
    exact free b o' (neC b o e hx) e1 (I.base.free b o e n hx)
  · obtain ⟨o', e1⟩ := I.base.there b o e hx
    exact there b o' (neC b o e hx) e1
  · obtain ⟨m1, e1⟩ := I.base.tbls b ps e
    obtain ⟨m2, e2⟩ := tbls b _ e1
    exact ⟨m1 ++ m2, by rw [e2, Array.append_assoc]⟩
  · obtain ⟨m, hn, hl⟩ := I.loc
    refine ⟨m, ns m hn, fun i x v e1 e2 e3 => ?_⟩
    obtain ⟨u, r, l⟩ := hl i x v e1 e2 e3
    refine ⟨u, r, ?_⟩
    rcases l with l | ⟨k, c, e, z⟩
    · exact .inl l
    · exact .inr ⟨k, c, e, cellK x c e _ z⟩
  · obtain ⟨v, z⟩ := I.cell x c e
    exact ⟨v, cellK x c e v z⟩
  · obtain ⟨m, ⟨o, _, _, ho, _⟩, _⟩ := I.loc
    exact free _ o (fun z => (hch _ z).2.1 rfl) ho I.free
  · obtain ⟨v, o, ho, hd⟩ := I.cell x c e
    exact free c o (fun z => (hch c z).2.2.1 x c e rfl) ho (I.freeC x c e)
  · obtain ⟨e, n, ne, nf, d⟩ := I.pin p hp
    have nch : p.1 ∉ ch := fun z => (hch p.1 z).2.2.2 p hp rfl
    exact ⟨keep p.1 p.2 ne nf nch e n, free p.1 p.2 nch e n, ne, nf, d⟩
theorem Inv.un {t' : Nat} (I : Inv X pins σ H s) (u : Un X.fs [] H H' s.heap h') (hok : HOk X.prog X.w H' h') : Inv X pins σ H' { s with heap := h', toks := t' } := by
  obtain ⟨m, ⟨o, es, ep, ho, r⟩, _⟩ := id I.loc
  obtain ⟨sl, hL⟩ := u.any ho I.free (by simp)
  exact I.step (g' := s.gens) (d' := s.drawn) (ch := []) (fun _ z => nomatch z) (fun b o _ hb _ e n => u.keep b o e n hb (by simp)) (fun b o _ hb _ e n => u.slot b o e n hb (by simp)) (fun b o _ e n => u.free b o e n (by simp)) (fun b o _ e => u.there b o e (by simp)) u.tups u.frzs u.tbls (fun m' hm => by
    obtain ⟨o', es', ep', ho', r'⟩ := hm
    rw [ho] at ho'; cases ho'
    exact ⟨_, es', ep', hL, r'⟩) hok I.bare
theorem Inv.call {g' : Array GenState} {t' : Nat} {d' : Drawn} {ch : List Addr} (I : Inv X pins σ H s) (u : Un (frs X.stack) ch H H' s.heap h') (hok : HOk X.prog X.w H' h') (hg : AllBare g')
    (hch : ∀ b ∈ ch, (b ∈ X.ex ∨ X.s₀.heap.objs.size ≤ b) ∧ b ≠ X.env.locals ∧ (∀ x c, X.env.cells.lookup x = some c → c ≠ b) ∧ ∀ p ∈ X.pn ++ pins, p.1 ≠ b) :
    Inv X pins σ H' { s with heap := h', gens := g', drawn := d', toks := t' } := by
  obtain ⟨m, ⟨o, es, ep, ho, r⟩, _⟩ := id I.loc
  obtain ⟨sl, hL⟩ := u.any ho I.free fun z => (hch _ z).2.1 rfl
  exact I.step (ch := ch) hch (fun b o hL hb hc e n => u.keep b o e n (fun z => (List.mem_cons.mp (I.stkSub b z)).elim hL hb) hc) (fun b o _ _ hc e n => u.any e n hc) (fun b o hc e n => u.free b o e n hc) (fun b o hc e => u.there b o e hc) u.tups u.frzs u.tbls (fun m' hm => by
    obtain ⟨o', es', ep', ho', r'⟩ := hm
    rw [ho] at ho'; cases ho'
    exact ⟨_, es', ep', hL, r'⟩) hok hg
theorem Inv.turned {t' : Nat} {it : Addr} (I : Inv X pins σ H s) (k : ∀ b o, b ≠ it → s.heap.get? b = some o → h'.get? b = some o) (hn : H it = none) (hL : it ≠ X.env.locals)
    (h1 : it ∈ X.ex ∨ X.s₀.heap.objs.size ≤ it) (h2 : ∀ x c, X.env.cells.lookup x = some c → c ≠ it) (h3 : ∀ p ∈ X.pn ++ pins, p.1 ≠ it) : Inv X pins σ H { s with heap := h', toks := t' } := by
  have nit : ∀ b u, H b = some u → b ≠ it := fun b u e z => by rw [z, hn] at e; cases e
  refine I.step (g' := s.gens) (d' := s.drawn) (ch := [it]) (fun b hb => ?_) (fun b o _ _ hc e _ => k b o (fun z => hc (by simp [z])) e) (fun b o _ _ hc e _ => ⟨o.slots, k b o (fun z => hc (by simp [z])) e⟩) (fun _ _ _ _ n => n)
    (fun b o hc e => ⟨o, k b o (fun z => hc (by simp [z])) e⟩) (fun _ _ e => e) (fun _ _ _ e => e) (fun b ps e => ⟨#[], by rw [e]; simp⟩) (fun m hm => ?_) (fun b u e => ?_) I.bare
  · have e : b = it := by simpa using hb
    subst e
    exact ⟨h1, hL, h2, h3⟩
  · obtain ⟨o, es, ep, ho, r⟩ := hm
    exact ⟨o, es, ep, k _ o (Ne.symm hL) ho, r⟩
  · refine (I.hok b u e).stay (fun c v hc q => k c v ?_ q) (fun _ q => q) fun _ _ q => q
    rcases hc with z | z
    · rw [z]; exact nit b u e
    · exact nit c _ z
theorem Inv.tok (I : Inv X pins σ H s) (t : Nat) : Inv X pins σ H { s with toks := t } := I.un (h' := s.heap) (t' := t) Un.refl I.hok
theorem Inv.kept {t' : Nat} (I : Inv X pins σ H s) (k : ∀ b u, s.heap.get? b = some u → h'.get? b = some u) : Inv X pins σ H { s with heap := h', toks := t' } := I.un (Un.kept k) (I.hok.kept k)
theorem Inv.laid {a : Addr} {o : HO} {t' : Nat} (I : Inv X pins σ H s) (k : ∀ b u, s.heap.get? b = some u → h'.get? b = some u) (hp : s.heap.objs.size ≤ a) (new : ObjOk X.prog X.w (upd H a o) h' a o) :
    Inv X pins σ (upd H a o) { s with heap := h', toks := t' } := I.un (Un.laid k hp (I.hok.fresh hp)) (I.hok.laid k hp new)
theorem Inv.write {x e : Addr} {o : HO} {t' : Nat} (I : Inv X pins σ H s) (mu : Mut (H x)) (he : e = x ∨ H e = some (.own x)) (k : ∀ b u, b ≠ e → s.heap.get? b = some u → h'.get? b = some u) (heo : ∃ u, h'.get? e = some u)
    (new : ObjOk X.prog X.w (upd H x o) h' x o) : Inv X pins σ (upd H x o) { s with heap := h', toks := t' } := I.un (Un.write mu he k heo) (I.hok.write mu he k heo new)
theorem Inv.pins_of {pins' : List (Addr × Obj)} (I : Inv X pins σ H s) (h : ∀ p ∈ pins', s.heap.get? p.1 = some p.2 ∧ H p.1 = none ∧ p.1 ≠ X.env.locals ∧ p.1 ∉ X.fs ∧ ∀ v, p.2.data ≠ .cell v) : Inv X pins' σ H s :=
  ⟨I.ok, I.os, I.bare, I.base, I.loc, I.cell, I.free, I.freeC, fun p hp => (List.mem_append.mp hp).elim (fun z => I.pin p (List.mem_append_left _ z)) (h p), I.hok, I.len⟩
theorem nodup_ix {N : List Str} (hN : N.Nodup) {i j : Nat} {x : Str} (a : N[i]? = some x) (b : N[j]? = some x) : i = j := by
  obtain ⟨h1, e1⟩ := List.getElem?_eq_some_iff.mp a
  obtain ⟨h2, e2⟩ := List.getElem?_eq_some_iff.mp b
  exact (List.getElem_inj hN).mp (e1.trans e2.symm)
theorem store_ok2 {M : Model} {A : Around} {E : Value → Shared → Prop} {i : Nat} {x : Str} {v : V} {u : Value} {Q : Unit → Shared → Prop} (I : Inv X pins σ H s) (hN : X.N.Nodup) (hi : X.N[i]? = some x) (hx : Loc X.env.scope x) (r : RelV v u)
    (h : ∀ s', Inv X pins (σ.set i (some v)) H s' → (∃ a, Heap.SameBut a s.heap s'.heap ∧ (a = X.env.locals ∨ X.env.cells.lookup x = some a)) → Q () s') (hf : X.fn x = true ∨ X.env.scope.names.lookup x = some .local := by first | exact .inl rfl | exact .inr rfl | assumption) : wpAny M A (storeName X.env x u) Q E s := by
  obtain ⟨m, hn, hl⟩ := id I.loc
  have hcls : (X.env.scope.kind == .class || (X.env.scope.kind == .module && X.env.locals != X.env.globals)) = false := by rw [I.ok.kind]; rfl
  have hiσ : i < σ.length := by rw [I.len]; exact (List.getElem?_eq_some_iff.mp hi).1
  have cne := I.cne
  have tracked : ∀ {a : Addr} {h' : Heap}, (∃ o, s.heap.get? a = some o ∧ H a = none) → Heap.SameBut a s.heap h' → HOk X.prog X.w H h' := fun {a h'} ha hs b ob e => by
    obtain ⟨_, _, hfree⟩ := ha
    refine (I.hok b ob e).stay (fun c w' hc q => (hs.2 c ?_).trans q) (fun _ q => q) fun _ _ q => q
    rintro rfl
    rcases hc with rfl | hc
    · rw [hfree] at e; cases e
    · rw [hfree] at hc; cases hc
  rcases hx with hk | hk
  · refine wpAny_storeName_local hk hn (fun h' hn' hs => ?_) hcls
    obtain ⟨oL, _, _, hoL, _⟩ := id hn
    refine h _ ⟨I.ok, I.os, I.bare, ⟨fun b o e n hb hx => ?_, fun b o e n hb hx => ?_, I.base.free, fun b o e hx => ?_, I.base.tups, I.base.frzs, I.base.tbls⟩, ⟨_, hn', fun j y v' e1 e2 e3 => ?_⟩, fun y c e => ?_, I.free, I.freeC, fun p hp => ?_, tracked ⟨oL, hoL, I.free⟩ hs, by simpa using I.len⟩ ⟨_, hs, .inl rfl⟩
    · exact (hs.2 b (Nat.ne_of_lt (Nat.lt_of_lt_of_le (Heap.lt_size e) I.ok.above))).trans (I.base.keep b o e n hb hx)
    · obtain ⟨sl, e1⟩ := I.base.slot b o e n hb hx
      exact ⟨sl, (hs.2 b (Nat.ne_of_lt (Nat.lt_of_lt_of_le (Heap.lt_size e) I.ok.above))).trans e1⟩
    · obtain ⟨o', e1⟩ := I.base.there b o e hx
      exact ⟨o', (hs.2 b (Nat.ne_of_lt (Nat.lt_of_lt_of_le (Heap.lt_size e) I.ok.above))).trans e1⟩
    · by_cases hj : j = i
      · subst hj
        rw [hi] at e1; cases e1
        rw [List.getElem?_set_self hiσ] at e2
        cases e2
        exact ⟨u, r, .inl ⟨hk, by simp⟩⟩
      · rw [List.getElem?_set_ne (Ne.symm hj)] at e2
        obtain ⟨u', r', q⟩ := hl j y v' e1 e2 e3
        refine ⟨u', r', ?_⟩
        rcases q with ⟨k, e⟩ | ⟨k, c, e, z⟩
        · refine .inl ⟨k, ?_⟩
          have : y ≠ x := fun e => hj (nodup_ix hN e1 (e ▸ hi))
          simp [this, e]
        · exact .inr ⟨k, c, e, z.sameBut hs (cne y c e)⟩
    · obtain ⟨w', z⟩ := I.cell y c e
      exact ⟨w', z.sameBut hs (cne y c e)⟩
    · obtain ⟨e, n, ne, nf, d⟩ := I.pin p hp
      exact ⟨(hs.2 p.1 ne).trans e, n, ne, nf, d⟩
  · have hfn : X.fn x = true := by
      rcases hf with z | z
      · exact z
      · rw [z] at hk; cases hk
    obtain ⟨c, hc⟩ := I.ok.has x (.inl hk)
    obtain ⟨w', z⟩ := I.cell x c hc
    refine wpAny_storeName_cell I.ok.kind hk hc z (fun h' hc' hs => ?_)
    obtain ⟨oc, hoc, hocd⟩ := id z
    refine h { s with heap := h' } ⟨I.ok, I.os, I.bare, ⟨fun b o e n hb hx => ?_, fun b o e n hb hx => ?_, I.base.free, fun b o e hx => ?_, I.base.tups, I.base.frzs, I.base.tbls⟩, ⟨m, hn.sameBut hs (Ne.symm (cne x c hc)), fun j y v' e1 e2 e3 => ?_⟩, fun y c' e => ?_, I.free, I.freeC, fun p hp => ?_, tracked ⟨oc, hoc, I.freeC x c hc⟩ hs, by simpa using I.len⟩ ⟨c, hs, .inr hc⟩
    · exact (hs.2 b (Nat.ne_of_lt (Nat.lt_of_lt_of_le (Heap.lt_size e) (I.ok.cab x c hfn hc)))).trans (I.base.keep b o e n hb hx)
    · obtain ⟨sl, e1⟩ := I.base.slot b o e n hb hx
      exact ⟨sl, (hs.2 b (Nat.ne_of_lt (Nat.lt_of_lt_of_le (Heap.lt_size e) (I.ok.cab x c hfn hc)))).trans e1⟩
    · obtain ⟨o', e1⟩ := I.base.there b o e hx
      exact ⟨o', (hs.2 b (Nat.ne_of_lt (Nat.lt_of_lt_of_le (Heap.lt_size e) (I.ok.cab x c hfn hc)))).trans e1⟩
    · by_cases hj : j = i
      · subst hj
        rw [hi] at e1; cases e1
        rw [List.getElem?_set_self hiσ] at e2
        cases e2
        exact ⟨u, r, .inr ⟨.inl hk, c, hc, hc'⟩⟩
      · rw [List.getElem?_set_ne (Ne.symm hj)] at e2
        obtain ⟨u', r', q⟩ := hl j y v' e1 e2 e3
        refine ⟨u', r', ?_⟩
        rcases q with q | ⟨k, c', e, z'⟩
        · exact .inl q
        · refine .inr ⟨k, c', e, z'.sameBut hs ?_⟩
          rintro rfl
          exact hj (nodup_ix hN e1 (I.ok.inj _ _ _ e hc ▸ hi))
    · by_cases hcc : c' = c
      · subst hcc; exact ⟨_, hc'⟩
      · obtain ⟨w2, z2⟩ := I.cell y c' e
        exact ⟨w2, z2.sameBut hs hcc⟩
    · obtain ⟨e, n, ne, nf, d⟩ := I.pin p hp
      refine ⟨(hs.2 p.1 ?_).trans e, n, ne, nf, d⟩
      intro q
      rw [q, hoc] at e
      have q' : oc = p.2 := Option.some.inj e
      exact d w' (by rw [← q']; exact hocd)
theorem store_ok {M : Model} {A : Around} {E : Value → Shared → Prop} {i : Nat} {x : Str} {v : V} {u : Value} {Q : Unit → Shared → Prop} (I : Inv X pins σ H s) (hN : X.N.Nodup) (hi : X.N[i]? = some x) (hx : Loc X.env.scope x) (r : RelV v u)
    (h : ∀ s', Inv X pins (σ.set i (some v)) H s' → Q () s') (hf : X.fn x = true ∨ X.env.scope.names.lookup x = some .local := by first | exact .inl rfl | exact .inr rfl | assumption) : wpAny M A (storeName X.env x u) Q E s :=
  store_ok2 I hN hi hx r (fun s' I' _ => h s' I') hf
theorem Inv.call' {s' : Shared} {ch : List Addr} (I : Inv X pins σ H s) (ho : s'.os = s.os) (u : Un (frs X.stack) ch H H' s.heap s'.heap) (hok : HOk X.prog X.w H' s'.heap) (hg : AllBare s'.gens)
    (hch : ∀ b ∈ ch, (b ∈ X.ex ∨ X.s₀.heap.objs.size ≤ b) ∧ b ≠ X.env.locals ∧ (∀ x c, X.env.cells.lookup x = some c → c ≠ b) ∧ ∀ p ∈ X.pn ++ pins, p.1 ≠ b) : Inv X pins σ H' s' := by
  obtain ⟨h', g', d', t', o'⟩ := s'
  have e : o' = s.os := ho
  subst e
  exact I.call (g' := g') (t' := t') (d' := d') u hok hg hch
end
abbrev XK := Value → Option Addr → Hp → Prop
abbrev St := List (Option V)
abbrev VK := V → Hp → Prop
abbrev TE := St → Hp → VK → Prop
abbrev TT := St → Hp → (Bool → Hp → Prop) → Prop
abbrev TA := St → Hp → (List V → Hp → Prop) → Prop
structure Ends where
  nx : St → Hp → Prop
  rt : VK
  bk : St → Hp → Prop := fun _ _ => False
  ct : St → Hp → Prop := fun _ _ => False
abbrev TS := Ends → St → Hp → Prop
def EP (X : Cx) (pins : List (Addr × Obj)) (σ : St) (Q : VK) (u : Value) (s' : Shared) : Prop := ∃ v H', Inv X pins σ H' s' ∧ RelV v u ∧ Q v H'
def TP (X : Cx) (pins : List (Addr × Obj)) (σ : St) (Q : Bool → Hp → Prop) (b : Bool) (s' : Shared) : Prop := ∃ H', Inv X pins σ H' s' ∧ Q b H'
def AP (X : Cx) (pins : List (Addr × Obj)) (σ : St) (Q : List V → Hp → Prop) (us : List Value) (s' : Shared) : Prop := ∃ vs H', Inv X pins σ H' s' ∧ Vals vs us ∧ Q vs H'
def SP (X : Cx) (pins : List (Addr × Obj)) (D : Ends) (f : Flow) (s' : Shared) : Prop :=
  match f with
  | .next => ∃ σ' H', Inv X pins σ' H' s' ∧ D.nx σ' H'
  | .brk => ∃ σ' H', Inv X pins σ' H' s' ∧ D.bk σ' H'
  | .cont => ∃ σ' H', Inv X pins σ' H' s' ∧ D.ct σ' H'
  | .ret u => ∃ v σ' H', Inv X pins σ' H' s' ∧ RelV v u ∧ D.rt v H'
def PE (X : Cx) (e : Expr) (t : TE) : Prop :=
  ∀ (pins : List (Addr × Obj)) (s : Shared) (σ : St) (H : Hp) (Q : VK), Inv X pins σ H s → t σ H Q → wpAny (model X.prog X.w) X.A (eval e X.env) (EP X pins σ Q) X.xe s
def PT (X : Cx) (e : Expr) (t : TT) : Prop :=
  ∀ (pins : List (Addr × Obj)) (s : Shared) (σ : St) (H : Hp) (Q : Bool → Hp → Prop), Inv X pins σ H s → t σ H Q → wpAny (model X.prog X.w) X.A (isTrue e X.env (eval e X.env)) (TP X pins σ Q) X.xe s
def PW (X : Cx) (e : Expr) (t : TT) : Prop :=
  ∀ (whole : Sem Value) (pins : List (Addr × Obj)) (s : Shared) (σ : St) (H : Hp) (Q : Bool → Hp → Prop), Inv X pins σ H s → t σ H Q → wpAny (model X.prog X.w) X.A (isTrue e X.env whole) (TP X pins σ Q) X.xe s
theorem PW.pt {X : Cx} {e : Expr} {t : TT} (h : PW X e t) : PT X e t := h _
def PA (X : Cx) (es : List Expr) (t : TA) : Prop :=
  ∀ (pos : Pos) (pins : List (Addr × Obj)) (s : Shared) (σ : St) (H : Hp) (Q : List V → Hp → Prop), Inv X pins σ H s → t σ H Q → wpAny (model X.prog X.w) X.A (spliced (backTo pos (starEach es X.env))) (AP X pins σ Q) X.xe s
def PS (X : Cx) (st : Stmt) (t : TS) : Prop :=
  ∀ (pins : List (Addr × Obj)) (s : Shared) (σ : St) (H : Hp) (D : Ends), Inv X pins σ H s → t D σ H → wpAny (model X.prog X.w) X.A (exec st X.env) (SP X pins D) X.xe s
def PSs (X : Cx) (st : List Stmt) (t : TS) : Prop :=
  ∀ (pins : List (Addr × Obj)) (s : Shared) (σ : St) (H : Hp) (D : Ends), Inv X pins σ H s → t D σ H → wpAny (model X.prog X.w) X.A (execs st X.env) (SP X pins D) X.xe s
theorem thn {α : Type} {t : Sem α} {Q Q' : α → Shared → Prop} {M : Model} {A : Around} {E : Value → Shared → Prop} {s : Shared} (h : wpAny M A t Q E s) (hQ : ∀ a s, Q a s → Q' a s) : wpAny M A t Q' E s := wpAny_mono h hQ fun _ _ x => x
end L2
namespace L2
open PySem PySem.Spec PyProof.Rows
section
variable {X : Cx}
def tVar (i : Nat) : TE := fun σ H Q => ∃ v, σ[i]? = some (some v) ∧ Q v H
def tC (v : V) : TE := fun _ H Q => Q v H
theorem pe_var {i : Nat} {x : Str} {pos : Pos} (hN : X.N[i]? = some x) (hv : Vis X.env.scope x) (hd : (x == ("__debug__" : Str)) = false := by decide) (hcd : (x == ("__classdict__" : Str)) = false := by decide) : PE X (.Name x pos) (tVar i) := by
  intro pins s σ H Q I h
  obtain ⟨v, e, h⟩ := h
  obtain ⟨m, hn, hl⟩ := I.loc
  obtain ⟨u, r, l⟩ := hl i x v hN e hv
  have fin : EP X pins σ Q u s := ⟨v, H, I, r, h⟩
  rcases l with ⟨hk, hm⟩ | ⟨hk, c, hc, hcell⟩
  · exact wpAny_Name (wpAny_loadName_local I.ok.kind hk hn hm fin) hd
  · rcases hk with hk | hk
    · exact wpAny_Name (wpAny_loadName_cell I.ok.kind hk hc hcell fin) hd
    · exact wpAny_Name (wpAny_loadName_free I.ok.kind hk hc hcell fin hcd) hd
theorem pe_int {i j pos} : PE X (.Constant (.int i) j pos) (tC (.int i)) := fun _ _ _ H _ I h => wpAny_Constant_int ⟨.int i, H, I.tok _, ⟨_, rfl⟩, h⟩
theorem pe_bl {b j pos} : PE X (.Constant (.bool b) j pos) (tC (.bl b)) := fun _ _ _ H _ I h => Constant_bool ⟨.bl b, H, I, rfl, h⟩
theorem pe_non {j pos} : PE X (.Constant .none j pos) (tC .non) := fun _ _ _ H _ I h => Constant_none ⟨.non, H, I, rfl, h⟩
theorem pe_str {x j pos} : PE X (.Constant (.str x) j pos) (tC (.str x)) := fun _ _ _ H _ I h => Calls.Constant_str ⟨.str x, H, I.tok _, ⟨_, rfl⟩, h⟩
def Gl (X : Cx) (x : Str) : Prop := X.env.kindOf x = some .globalImplicit
theorem ld_glob {E : Value → Shared → Prop} {pins : List (Addr × Obj)} {s : Shared} {σ : St} {H : Hp} {x : Str} {u : Value} {pos : Pos} {Q : Value → Shared → Prop} (I : Inv X pins σ H s) (hg : Gl X x) (hm : X.mg x = some u) (h : Q u s)
    (hd : (x == ("__debug__" : Str)) = false := by decide) : wpAny (model X.prog X.w) X.A (eval (.Name x pos) X.env) Q E s :=
  Calls.Name_function_global I.ok.kind hg (Calls.loadGlobal_global (by rw [I.ok.glob]; exact I.mod.glob.keeps I.bk) hm h) hd
theorem ld_blt {E : Value → Shared → Prop} {pins : List (Addr × Obj)} {s : Shared} {σ : St} {H : Hp} {x : Str} {u : Value} {pos : Pos} {Q : Value → Shared → Prop} (I : Inv X pins σ H s) (hg : Gl X x) (hm : X.mg x = none) (hv : bootBuiltins x = some u) (h : Q u s)
    (hn : x ≠ "__name__" := by decide) (hd : (x == ("__debug__" : Str)) = false := by decide) : wpAny (model X.prog X.w) X.A (eval (.Name x pos) X.env) Q E s := by
  obtain ⟨mb, h1, h2⟩ := I.mod.blt
  exact Calls.Name_function_global I.ok.kind hg (Calls.loadGlobal_builtin (by rw [I.ok.glob]; exact I.mod.glob.keeps I.bk) hm (by rw [I.ok.blt]; exact h1.keeps I.bk) ((h2 x hn).trans hv) h) hd
theorem pe_glob {x : Str} {v : V} {u : Value} {pos : Pos} (hg : Gl X x) (hm : X.mg x = some u) (r : RelV v u) (hd : (x == ("__debug__" : Str)) = false := by decide) : PE X (.Name x pos) (tC v) :=
  fun _ _ _ H _ I h => ld_glob I hg hm ⟨v, H, I, r, h⟩ hd
theorem pe_bltn {x : Str} {v : V} {u : Value} {pos : Pos} (hg : Gl X x) (hm : X.mg x = none) (hv : bootBuiltins x = some u) (r : RelV v u) (hn : x ≠ "__name__" := by decide) (hd : (x == ("__debug__" : Str)) = false := by decide) : PE X (.Name x pos) (tC v) :=
  fun _ _ _ H _ I h => ld_blt I hg hm hv ⟨v, H, I, r, h⟩ hn hd
variable {a b : Expr} {ta tb : TE} {pos : Pos}
def tB (t : TE) : TT := fun σ H Q => t σ H fun x H1 => ∃ c, x = .bl c ∧ Q c H1
variable {tA tB' : TT} {rest : List Expr}
def tAnd (t u : TT) : TT := fun σ H Q => t σ H fun c H1 => if c = true then u σ H1 Q else Q false H1
def tOr (t u : TT) : TT := fun σ H Q => t σ H fun c H1 => if c = true then Q true H1 else u σ H1 Q
def tNot (t : TT) : TT := fun σ H Q => t σ H fun c H1 => Q (!c) H1
theorem pw_and1 (ha : PT X a tA) : PW X (.BoolOp .And [a] pos) tA := by
  intro wh pins s σ H Q I h
  refine isTrue_and (thn (ha pins s σ H Q I h) fun c s1 e => ?_)
  cases c with
  | true => exact isTrue_and_nil e
  | false => exact e
theorem pw_or1 (ha : PT X a tA) : PW X (.BoolOp .Or [a] pos) tA := by
  intro wh pins s σ H Q I h
  refine isTrue_or (thn (ha pins s σ H Q I h) fun c s1 e => ?_)
  cases c with
  | false => exact isTrue_or_nil e
  | true => exact e
theorem pw_and (ha : PT X a tA) (hb : PW X (.BoolOp .And (b :: rest) pos) tB') : PW X (.BoolOp .And (a :: b :: rest) pos) (tAnd tA tB') := by
  intro wh pins s σ H Q I h
  refine isTrue_and (thn (ha pins s σ H _ I h) fun c s1 ⟨H1, I1, q1⟩ => ?_)
  cases c with
  | true => exact hb wh pins s1 σ H1 Q I1 q1
  | false => exact ⟨H1, I1, q1⟩
theorem pw_or (ha : PT X a tA) (hb : PW X (.BoolOp .Or (b :: rest) pos) tB') : PW X (.BoolOp .Or (a :: b :: rest) pos) (tOr tA tB') := by
  intro wh pins s σ H Q I h
  refine isTrue_or (thn (ha pins s σ H _ I h) fun c s1 ⟨H1, I1, q1⟩ => ?_)
  cases c with
  | true => exact ⟨H1, I1, q1⟩
  | false => exact hb wh pins s1 σ H1 Q I1 q1
theorem pt_not (ha : PT X a tA) : PT X (.UnaryOp .Not a pos) (tNot tA) := by
  intro pins s σ H Q I h
  exact isTrue_not (ha pins s σ H (fun c H1 => Q (!c) H1) I h)
def tAndV (ta tb : TE) : TE := fun σ H Q => ta σ H fun x H1 => ∃ c, x = .bl c ∧ if c = true then tb σ H1 Q else Q (.bl false) H1
theorem pe_one {op} {t : TE} (h : PE X a t) : PE X (.BoolOp op [a] pos) t := fun pins s σ H Q I hw => BoolOp_one (h pins s σ H Q I hw)
theorem pe_and (ha : PE X a ta) (hb : PE X (.BoolOp .And (b :: rest) pos) tb) : PE X (.BoolOp .And (a :: b :: rest) pos) (tAndV ta tb) := by
  intro pins s σ H Q I h
  refine BoolOp_and (thn (ha pins s σ H _ I h) fun v s1 ⟨x, H1, I1, r1, q1⟩ => ?_)
  obtain ⟨c, rfl, q1⟩ := q1
  cases r1
  refine wpAny_truthy_bool ?_
  cases c with
  | true => exact hb pins s1 σ H1 Q I1 q1
  | false => exact ⟨.bl false, H1, I1, rfl, q1⟩
end
end L2
namespace L2
open PySem PySem.Spec PyProof.Rows
def SqL (K : PySem.W.Frag) (H : Hp) (a : Addr) (xs : List V) : Prop :=
  Rd H a (.lst xs) ∨
    ∃ (o : Obj) (its : Array Value) (n : Nat), K.lookup a = some o ∧ o.cls = .type "list" ∧ o.dict = none ∧ o.data = .seq its n ∧ its.size ≤ sizeLine ∧ Vals xs its.toList
def SqT (K : PySem.W.Frag) (H : Hp) (a : Addr) (xs : List V) : Prop :=
  Rd H a (.tup xs) ∨
    ∃ (o : Obj) (its : Array Value) (n : Nat), K.lookup a = some o ∧ o.cls = .type "tuple" ∧ o.data = .seq its n ∧ its.size ≤ sizeLine ∧ Vals xs its.toList
def absV : Value → Option V
  | .none => some .non
  | .bool b => some (.bl b)
  | .int i _ => some (.int i)
  | .str x _ => some (.str x)
  | .bytes b _ => some (.byt b)
  | .float b _ => some (.flt b)
  | .ref a => some (.ref a)
  | .type n => some (.ty n)
  | _ => none
theorem RelV.abs {x : V} {u : Value} (r : RelV x u) : absV u = some x := by
  cases x with
  | non => cases r; rfl
  | bl _ => cases r; rfl
  | int _ => obtain ⟨t, rfl⟩ := r; rfl
  | str _ => obtain ⟨t, rfl⟩ := r; rfl
  | byt _ => obtain ⟨t, rfl⟩ := r; rfl
  | flt _ => obtain ⟨t, rfl⟩ := r; rfl
  | ref _ => cases r; rfl
  | ty _ => cases r; rfl
theorem RelV.inj {x y : V} {u : Value} (r : RelV x u) (q : RelV y u) : x = y := Option.some.inj (r.abs.symm.trans q.abs)
theorem Vals.inj : ∀ {xs ys : List V} {us : List Value}, Vals xs us → Vals ys us → xs = ys
  | _, _, _, .nil, .nil => rfl
  | _, _, _, .cons r t, .cons r' t' => by rw [r.inj r', Vals.inj t t']
section
variable {X : Cx} {pins : List (Addr × Obj)} {σ : St} {H : Hp} {s : Shared} {a : Addr} {xs ys : List V}
theorem SqL.of {K : PySem.W.Frag} (h : H a = some (.lst xs)) : SqL K H a xs := .inl (.inl h)
theorem SqT.of {K : PySem.W.Frag} (h : H a = some (.tup xs)) : SqT K H a xs := .inl (.inl h)
theorem Inv.list (I : Inv X pins σ H s) (h : SqL X.K H a xs) : ∃ its : List Value, Vals xs its ∧ PlainL s.heap a its.toArray ∧ xs.length ≤ sizeLine := by
  rcases h with h | ⟨o, its, n, hk, hc, hd, hs, hz, r⟩
  · obtain ⟨z, its, n, r, e⟩ := h.ok I.hok
    exact ⟨its, r, ⟨_, n, e, rfl, rfl, rfl⟩, z⟩
  · refine ⟨its.toList, r, ⟨o, n, I.kIn a o hk, hc, hd, by simpa using hs⟩, ?_⟩
    have e := r.length
    simp only [Array.length_toList] at e
    omega
theorem Inv.tuple (I : Inv X pins σ H s) (h : SqT X.K H a xs) : ∃ its : List Value, Vals xs its ∧ IsTup s.heap a its.toArray ∧ xs.length ≤ sizeLine := by
  rcases h with h | ⟨o, its, n, hk, hc, hs, hz, r⟩
  · obtain ⟨z, its, r, p⟩ := h.ok I.hok
    exact ⟨its, r, p.1, z⟩
  · refine ⟨its.toList, r, ⟨o, I.kIn a o hk, hc, n, by simpa using hs⟩, ?_⟩
    have e := r.length
    simp only [Array.length_toList] at e
    omega
theorem Inv.list_inj (I : Inv X pins σ H s) (h : SqL X.K H a xs) (h' : SqL X.K H a ys) : xs = ys := by
  obtain ⟨its, r, ⟨o, n, e, _, _, d⟩, _⟩ := I.list h
  obtain ⟨its', r', ⟨o', n', e', _, _, d'⟩, _⟩ := I.list h'
  rw [e] at e'; cases e'
  rw [d] at d'
  injection d' with d1 _
  have : its = its' := by simpa using congrArg Array.toList d1
  subst this
  exact r.inj r'
theorem Inv.tuple_inj (I : Inv X pins σ H s) (h : SqT X.K H a xs) (h' : SqT X.K H a ys) : xs = ys := by
  obtain ⟨its, r, ⟨o, e, _, n, d⟩, _⟩ := I.tuple h
  obtain ⟨its', r', ⟨o', e', _, n', d'⟩, _⟩ := I.tuple h'
  rw [e] at e'; cases e'
  rw [d] at d'
  injection d' with d1 _
  have : its = its' := by simpa using congrArg Array.toList d1
  subst this
  exact r.inj r'
end
abbrev Cx.wish (X : Cx) (E : Value → Shared → Prop) : Cx := { X with xe := E }
abbrev Cx.nox (X : Cx) : Cx := X.wish fun _ _ => False
theorem Cx.Ok.wish {X : Cx} (ok : X.Ok) (E : Value → Shared → Prop) : (X.wish E).Ok :=
  ⟨ok.mod, ok.kind, ok.glob, ok.blt, ok.above, ok.inj, ok.has, ok.cab, ok.hd, ok.frames, ok.stk, ok.exf, ok.bs, ok.bsz, ok.noex, ok.exfs, ok.funs, ok.frf⟩
theorem Cx.Ok.unwish {X : Cx} {E : Value → Shared → Prop} (ok : (X.wish E).Ok) : X.Ok :=
  ⟨ok.mod, ok.kind, ok.glob, ok.blt, ok.above, ok.inj, ok.has, ok.cab, ok.hd, ok.frames, ok.stk, ok.exf, ok.bs, ok.bsz, ok.noex, ok.exfs, ok.funs, ok.frf⟩
section
variable {X : Cx} {pins : List (Addr × Obj)} {σ : St} {H : Hp} {s : Shared} {E : Value → Shared → Prop}
theorem Inv.wish (I : Inv X pins σ H s) (E : Value → Shared → Prop) : Inv (X.wish E) pins σ H s := ⟨I.ok.wish E, I.os, I.bare, I.base, I.loc, I.cell, I.free, I.freeC, I.pin, I.hok, I.len⟩
theorem Inv.unwish (I : Inv (X.wish E) pins σ H s) : Inv X pins σ H s := ⟨I.ok.unwish, I.os, I.bare, I.base, I.loc, I.cell, I.free, I.freeC, I.pin, I.hok, I.len⟩
theorem SP.unwish {D : Ends} {f : Flow} {s' : Shared} (h : SP (X.wish E) pins D f s') : SP X pins D f s' := by
  cases f with
  | next => obtain ⟨σ', H', I, q⟩ := h; exact ⟨σ', H', I.unwish, q⟩
  | brk => obtain ⟨σ', H', I, q⟩ := h; exact ⟨σ', H', I.unwish, q⟩
  | cont => obtain ⟨σ', H', I, q⟩ := h; exact ⟨σ', H', I.unwish, q⟩
  | ret u => obtain ⟨v, σ', H', I, r, q⟩ := h; exact ⟨v, σ', H', I.unwish, r, q⟩
theorem PE.nox {e : Expr} {t : TE} (h : PE X.nox e t) : PE X e t := fun pins s σ H Q I hw =>
  wpAny_mono (h pins s σ H Q (I.wish _) hw) (fun _ _ ⟨v, H', I', r, q⟩ => ⟨v, H', I'.unwish, r, q⟩) fun _ _ z => False.elim z
theorem PT.nox {e : Expr} {t : TT} (h : PT X.nox e t) : PT X e t := fun pins s σ H Q I hw =>
  wpAny_mono (h pins s σ H Q (I.wish _) hw) (fun _ _ ⟨H', I', q⟩ => ⟨H', I'.unwish, q⟩) fun _ _ z => False.elim z
theorem PSs.nox {st : List Stmt} {t : TS} (h : PSs X.nox st t) : PSs X st t := fun pins s σ H D I hw =>
  wpAny_mono (h pins s σ H D (I.wish _) hw) (fun _ _ q => q.unwish) fun _ _ z => False.elim z
end
section
variable {X : Cx} {st : Stmt} {rest : List Stmt} {t u : TS} {e : Expr} {te : TE} {pos : Pos}
def tNext : TS := fun D σ H => D.nx σ H
def tSeq (t u : TS) : TS := fun D σ H => t { D with nx := u D } σ H
theorem pss_nil : PSs X [] tNext := fun _ _ σ H _ I h => wpAny_execs_nil ⟨σ, H, I, h⟩
theorem pss_cons (h1 : PS X st t) (h2 : PSs X rest u) : PSs X (st :: rest) (tSeq t u) := by
  intro pins s σ H D I h
  refine wpAny_execs_cons (thn (h1 pins s σ H { D with nx := u D } I h) fun f s1 q => ?_)
  cases f with
  | next =>
    obtain ⟨σ', H', I', q⟩ := q
    exact h2 pins s1 σ' H' D I' q
  | ret v => exact q
  | brk => exact q
  | cont => exact q
theorem pss_one (h1 : PS X st t) : PSs X [st] t := by
  intro pins s σ H D I h
  refine wpAny_execs_cons (thn (h1 pins s σ H D I h) fun f s1 q => ?_)
  cases f with
  | next => exact wpAny_execs_nil q
  | ret v => exact q
  | brk => exact q
  | cont => exact q
theorem Inv.quiet {pins : List (Addr × Obj)} {σ : St} {H : Hp} {s : Shared} (I : Inv X pins σ H s) : interactive X.env = false := by simp [interactive, I.ok.kind]
def tDrop (te : TE) : TS := fun D σ H => te σ H fun _ H1 => D.nx σ H1
theorem ps_expr (he : PE X e te) (hs : swapsWith e none pos.line X.env = pure false := by rfl) : PS X (.Expr e pos) (tDrop te) := by
  intro pins s σ H D I h
  exact wpAny_Expr_any (thn (he pins s σ H _ I h) fun v s1 ⟨x, H1, I1, r1, q1⟩ => ⟨σ, H1, I1, q1⟩) I.quiet hs
def tRet (te : TE) : TS := fun D σ H => te σ H D.rt
theorem ps_ret (he : PE X e te) : PS X (.Return (some e) pos) (tRet te) := by
  intro pins s σ H D I h
  exact wpAny_Return_some (thn (he pins s σ H _ I h) fun v s1 ⟨x, H1, I1, r1, q1⟩ => ⟨x, σ, H1, I1, r1, q1⟩)
def tIfS (c : TT) (t u : TS) : TS := fun D σ H => c σ H fun b H1 => if b = true then t D σ H1 else u D σ H1
theorem ps_if {c : Expr} {a b : List Stmt} {tc : TT} (hc : PT X c tc) (ha : PSs X a t) (hb : PSs X b u) : PS X (.If c a b pos) (tIfS tc t u) := by
  intro pins s σ H D I h
  refine wpAny_If (thn (hc pins s σ H _ I h) fun d s1 ⟨H1, I1, q1⟩ => ?_)
  cases d with
  | true => exact ha pins s1 σ H1 D I1 q1
  | false => exact hb pins s1 σ H1 D I1 q1
end
abbrev TG := V → St → Hp → (St → Hp → Prop) → Prop
abbrev TGs := List V → St → Hp → (St → Hp → Prop) → Prop
def PG (X : Cx) (target : Expr) (t : TG) : Prop :=
  ∀ (pins : List (Addr × Obj)) (s : Shared) (σ : St) (H : Hp) (v : V) (u : Value) (Q : St → Hp → Prop), Inv X pins σ H s → RelV v u → t v σ H Q →
    wpAny (model X.prog X.w) X.A (assign target X.env u) (fun _ s' => ∃ σ' H', Inv X pins σ' H' s' ∧ Q σ' H') X.xe s
def PGs (X : Cx) (ts : List Expr) (t : TGs) : Prop :=
  ∀ (pins : List (Addr × Obj)) (s : Shared) (σ : St) (H : Hp) (vs : List V) (us : List Value) (Q : St → Hp → Prop), Inv X pins σ H s → Vals vs us → t vs σ H Q →
    wpAny (model X.prog X.w) X.A (assignInOrder ((assignEach ts X.env).map (·.2)) us) (fun _ s' => ∃ σ' H', Inv X pins σ' H' s' ∧ Q σ' H') X.xe s
section
variable {X : Cx} {pos : Pos}
def gName (i : Nat) : TG := fun v σ H Q => Q (σ.set i (some v)) H
theorem pg_name {i : Nat} {x : Str} (hN : X.N.Nodup) (hi : X.N[i]? = some x) (hx : Loc X.env.scope x) (hf : X.fn x = true ∨ X.env.scope.names.lookup x = some .local := by first | exact .inl rfl | exact .inr rfl | assumption) : PG X (.Name x pos) (gName i) := by
  intro pins s σ H v u Q I r h
  exact wpAny_assign_Name (store_ok I hN hi hx r (fun s' I' => ⟨_, H, I', h⟩) hf)
def gNil : TGs := fun vs σ H Q => vs = [] ∧ Q σ H
def gCons (t : TG) (u : TGs) : TGs := fun vs σ H Q => ∃ v r, vs = v :: r ∧ t v σ H fun σ' H' => u r σ' H' Q
theorem pgs_nil : PGs X [] gNil := by
  intro pins s σ H vs us Q I r h
  obtain ⟨e, h⟩ := h
  subst e
  cases r
  exact assignInOrder_nil ⟨σ, H, I, h⟩
theorem pgs_cons {e : Expr} {es : List Expr} {t : TG} {u : TGs} (h1 : PG X e t) (h2 : PGs X es u)
    (hs : (assignEach (e :: es) X.env).map (·.2) = assign e X.env :: (assignEach es X.env).map (·.2) := by rfl) : PGs X (e :: es) (gCons t u) := by
  intro pins s σ H vs us Q I r h
  obtain ⟨v, vr, e1, h⟩ := h
  subst e1
  cases r with
  | cons r rr =>
    rw [hs]
    refine assignInOrder_cons (thn (h1 pins s σ H _ _ _ I r h) fun _ s1 ⟨σ1, H1, I1, q1⟩ => ?_)
    exact h2 pins s1 σ1 H1 _ _ Q I1 rr q1
def gTup (K : PySem.W.Frag) (n : Nat) (t : TGs) : TG := fun v σ H Q => ∃ a xs, v = .ref a ∧ SqT K H a xs ∧ xs.length = n ∧ t xs σ H Q
theorem pg_tup {es : List Expr} {k : Nat} {t : TGs} {n : Nat} (hc : X.calm = true) (h : PGs X es t)
    (hn : (assignEach es X.env).length = n := by rfl) (hst : (assignEach es X.env).findIdx? (·.1) = none := by rfl) : PG X (.Tuple es k pos) (gTup X.K n t) := by
  intro pins s σ H v u Q I r hw
  obtain ⟨a, xs, e1, hq, hl, hw⟩ := hw
  subst e1
  cases r
  obtain ⟨its, rv, ht, hz⟩ := I.tuple hq
  refine assign_Tuple_tuple (I.ok.hd hc) ht (by simp [hn, ← hl, rv.length]) hst fun h' hx => ?_
  have I1 : Inv X pins σ H { s with heap := h' } := I.kept (t' := s.toks) fun b o e => hx b o (Nat.ne_of_lt (Heap.lt_size e)) e
  exact h pins _ σ H xs _ Q I1 (by simpa using rv) hw
def tAsg (te : TE) (g : TG) : TS := fun D σ H => te σ H fun x H1 => g x σ H1 D.nx
theorem ps_asg {tg e : Expr} {te : TE} {g : TG} (he : PE X e te) (hg : PG X tg g) (hs : swapsWithSole [tg] e pos.line X.env = pure false := by rfl) (hw : swappedStores [tg] e X.env = pure none := by rfl)
    (h1 : (assignEach [tg] X.env).map (·.2) = [assign tg X.env] := by rfl) : PS X (.Assign [tg] e pos) (tAsg te g) := by
  intro pins s σ H D I h
  refine wpAny_Assign_stores (thn (he pins s σ H _ I h) fun v s1 ⟨x, H1, I1, r1, q1⟩ => ?_) hs hw
  rw [h1]
  exact thn (hg pins s1 σ H1 x v _ I1 r1 q1) fun _ s2 q => q
theorem ps_set {i : Nat} {x : Str} {e : Expr} {te : TE} {pos' : Pos} (hN : X.N.Nodup) (hi : X.N[i]? = some x) (hx : Loc X.env.scope x) (he : PE X e te) (hs : swapsWith e (some (.Name x pos')) pos.line X.env = pure false := by rfl) (hf : X.fn x = true ∨ X.env.scope.names.lookup x = some .local := by first | exact .inl rfl | exact .inr rfl | assumption) :
    PS X (.Assign [.Name x pos'] e pos) (tAsg te (gName i)) := by
  intro pins s σ H D I h
  refine wpAny_Assign_Name (thn (he pins s σ H _ I h) fun v s1 ⟨y, H1, I1, r1, q1⟩ => ?_) hs
  exact store_ok I1 hN hi hx r1 (fun s2 I2 => ⟨_, H1, I2, q1⟩) hf
end
section
variable {X : Cx} {pos : Pos}
def tWhile (c : TT) (tb : TS) : TS := fun D σ H => ∃ W : Nat → St → Hp → Prop, (∃ m, W m σ H) ∧ ∀ m σ H, W m σ H →
  c σ H fun b H1 => if b = true then ∃ N : St → Hp → Prop, (∀ σ' H', N σ' H' → ∃ m', m' < m ∧ W m' σ' H') ∧ tb { D with nx := N, ct := N, bk := D.nx } σ H1 else D.nx σ H1
theorem ps_while {c : Expr} {body : List Stmt} {tc : TT} {tb : TS} (hp : PassesOwn (model X.prog X.w) X.A X.env X.xe) (hc : PT X c tc) (hb : PSs X body tb) : PS X (.While c body [] pos) (tWhile tc tb) := by
  intro pins s σ H D I h
  obtain ⟨W, ⟨m0, w0⟩, turn⟩ := h
  refine wpAny_While (codeAny_whileLoop (fun n s' => ∃ σ' H', Inv X pins σ' H' s' ∧ W n σ' H') ?_ m0 ⟨σ, H, I, w0⟩)
  rintro n s1 ⟨σ1, H1, I1, w1⟩
  refine wpAny_passesOwn hp (thn (hc pins s1 σ1 H1 _ I1 (turn n σ1 H1 w1)) fun b s2 ⟨H2, I2, q2⟩ => ?_)
  cases b with
  | true =>
    obtain ⟨N, hN, q2⟩ := q2
    rw [if_pos rfl]
    refine wpAny_passesOwn hp (thn (hb pins s2 σ1 H2 _ I2 q2) fun f s3 q3 => ?_)
    cases f with
    | next =>
      obtain ⟨σ3, H3, I3, n3⟩ := q3
      obtain ⟨m', hm, w3⟩ := hN σ3 H3 n3
      exact ⟨m', hm, σ3, H3, I3, w3⟩
    | cont =>
      obtain ⟨σ3, H3, I3, n3⟩ := q3
      obtain ⟨m', hm, w3⟩ := hN σ3 H3 n3
      exact ⟨m', hm, σ3, H3, I3, w3⟩
    | brk => exact q3
    | ret v => exact q3
  | false =>
    rw [if_neg Bool.false_ne_true]
    exact wpAny_execs_nil ⟨σ1, H2, I2, q2⟩
end
structure It where
  go : Nat → Hp → Prop
  yld : Nat → Hp → V → Hp → Prop
  stop : Nat → Hp → Prop
def FpOk (X : Cx) (pins : List (Addr × Obj)) (H : Hp) (b : Addr) : Prop :=
  H b = none ∧ b ≠ X.env.locals ∧ b ∉ X.fs ∧ (b ∈ X.ex ∨ X.s₀.heap.objs.size ≤ b) ∧ (∀ x c, X.env.cells.lookup x = some c → c ≠ b) ∧ ∀ p ∈ X.pn ++ pins, p.1 ≠ b
theorem Inv.fpOk {X : Cx} {pins : List (Addr × Obj)} {σ : St} {H H' : Hp} {s : Shared} {b : Addr} (I : Inv X pins σ H s) (hb : s.heap.objs.size ≤ b) (hn : H' b = none) : FpOk X pins H' b := by
  refine ⟨hn, Nat.ne_of_gt (Nat.lt_of_lt_of_le I.lt hb), I.nofs hb, .inr (Nat.le_trans I.sz hb), fun x c e z => ?_, fun p hp z => ?_⟩
  · obtain ⟨v, q⟩ := I.cell x c e
    exact absurd (Nat.lt_of_lt_of_le q.lt (by rw [z]; exact hb)) (Nat.lt_irrefl _)
  · exact absurd (Nat.lt_of_lt_of_le (Heap.lt_size (I.pin p hp).1) (by rw [z]; exact hb)) (Nat.lt_irrefl _)
structure Turn (P : Program) (w : World) (K : PySem.W.Frag) (tg : Expr) (J : It) (fp : List Addr) (it : Addr) (tn : Nat → Heap → Prop) : Prop where
  mem : it ∈ fp
  obj : ∀ i h, tn i h → ∀ b ∈ fp, ∃ o, h.get? b = some o ∧ ∀ v, o.data ≠ .cell v
  keep : ∀ i h h', tn i h → (∀ b ∈ fp, ∀ o, h.get? b = some o → h'.get? b = some o) → tn i h'
  item : ∀ (X : Cx), X.prog = P → X.w = w → X.K = K → X.calm = true → ∀ (i : Nat) (pins : List (Addr × Obj)) (s : Shared) (σ : St) (H : Hp) (E : Value → Shared → Prop), Inv X pins σ H s → (∀ b ∈ fp, FpOk X pins H b) → tn i s.heap → J.go i H →
    wpAny (model P w) X.A (pyNext (.ref it)) (fun r s1 => ∃ u, r = some u ∧
      wpAny (model P w) X.A (letOwnedTupleGo tg (.ref it) u) (fun _ s2 => ∃ x H', Inv X pins σ H' s2 ∧ RelV x u ∧ J.yld i H x H' ∧ tn (i + 1) s2.heap ∧ ∀ b ∈ fp, H' b = none) E s1) E s
  done : ∀ (X : Cx), X.prog = P → X.w = w → X.K = K → X.calm = true → ∀ (i : Nat) (pins : List (Addr × Obj)) (s : Shared) (σ : St) (H : Hp) (E : Value → Shared → Prop), Inv X pins σ H s → (∀ b ∈ fp, FpOk X pins H b) → tn i s.heap → J.stop i H →
    wpAny (model P w) X.A (pyNext (.ref it)) (fun r s1 => r = none ∧ Inv X pins σ H s1) E s
  self : ∀ (A : Around) (i : Nat) (s : Shared) (Q : Value → Shared → Prop) (E : Value → Shared → Prop), tn i s.heap → Q (.ref it) s → wpAny (model P w) A (pyIter (.ref it)) Q E s
abbrev TI := St → Hp → (It → Hp → Prop) → Prop
def PIE (X : Cx) (pins : List (Addr × Obj)) (σ : St) (tg : Expr) (R : It → Hp → Prop) (itv : Value) (s2 : Shared) : Prop :=
  ∃ (it : Addr) (fp : List Addr) (tn : Nat → Heap → Prop) (J : It) (H' : Hp), itv = .ref it ∧ Inv X pins σ H' s2 ∧ Turn X.prog X.w X.K tg J fp it tn ∧ tn 0 s2.heap ∧ (∀ b ∈ fp, FpOk X pins H' b) ∧ R J H'
def PI (X : Cx) (tg iter : Expr) (wi : TI) : Prop :=
  ∀ (pins : List (Addr × Obj)) (s : Shared) (σ : St) (H : Hp) (R : It → Hp → Prop), Inv X pins σ H s → wi σ H R →
    wpAny (model X.prog X.w) X.A (eval iter X.env) (fun v s1 => wpAny (model X.prog X.w) X.A (pyIter v) (PIE X pins σ tg R) X.xe s1) X.xe s
theorem go_of {M : Model} {A : Around} {E : Value → Shared → Prop} {s : Shared} {tg : Expr} {it : Addr} {u : Value} {o : Obj} {n : String} {vs : Array Value} {Q : Unit → Shared → Prop} (ho : s.heap.get? it = some o) (hc : o.cls = .type n) (hd : o.data = .fields vs)
    (hn : ["enumerate", "zip", "dict_itemiterator", "dict_reverseitemiterator", "odict_iterator", "itertools.zip_longest", "itertools.pairwise"].contains n = false) (hQ : Q () s) : wpAny M A (letOwnedTupleGo tg (.ref it) u) Q E s := by
  unfold letOwnedTupleGo
  cases tg <;> first
    | exact wpAny_pure hQ
    | (cases u <;> first
        | exact wpAny_pure hQ
        | (refine wpAny_bind (wpAny_load ho ?_)
           rw [hc, hd]
           show wpAny M A (if (["enumerate", "zip", "dict_itemiterator", "dict_reverseitemiterator", "odict_iterator", "itertools.zip_longest", "itertools.pairwise"].contains n && vs[0]? == some (rawInt _)) = true then _ else _) Q E s
           rw [if_neg (by intro h; rw [hn, Bool.false_and] at h; cases h)]
           exact wpAny_pure hQ))
def Itl (K : PySem.W.Frag) (a : Addr) : It :=
  ⟨fun i H => ∃ xs x, SqL K H a xs ∧ xs[i]? = some x, fun i H x H' => H' = H ∧ ∀ xs, SqL K H a xs → xs[i]? = some x, fun i H => ∃ xs, SqL K H a xs ∧ xs.length ≤ i⟩
def Itr (lo : Int) (n : Nat) : It := ⟨fun i _ => i < n, fun i H x H' => H' = H ∧ x = .int (lo + i), fun i _ => n ≤ i⟩
theorem turn_list {P : Program} {w : World} {K : PySem.W.Frag} {tg : Expr} (a it : Addr) : Turn P w K tg (Itl K a) [it] it (fun i h => h.IsListIter it a i) where
  mem := by simp
  obj := fun i h st b hb => by
    have e : b = it := by simpa using hb
    subst e
    obtain ⟨o, e, c, d⟩ := st
    exact ⟨o, e, fun v z => by rw [d] at z; cases z⟩
  keep := fun i h h' st k => st.at fun o e => k it (by simp) o e
  item := by
    intro X hP hw hK hc i pins s σ H E I hf st hg
    subst hP hw hK
    obtain ⟨xs, x, hq, hx⟩ := hg
    obtain ⟨its, rv, p, hz⟩ := I.list hq
    obtain ⟨u, hu, ru⟩ := rv.get hx
    obtain ⟨f0, f1, f2, f3, f4, f5⟩ := hf it (by simp)
    refine wpAny_pyNext_list_item st p.isList (x := u) (by simpa using hu) fun h' st' sb => ?_
    have I1 : Inv X pins σ H { s with heap := h' } := I.turned (t' := s.toks) (fun b o hb e => (sb.2 b hb).trans e) f0 f1 f3 f4 f5
    obtain ⟨o, e, c, d⟩ := id st'
    exact ⟨u, rfl, go_of (s := { s with heap := h' }) e c d (by decide) ⟨x, H, I1, ru, ⟨rfl, fun ys hy => by rw [I.list_inj hy hq]; exact hx⟩, st', fun b hb => (hf b hb).1⟩⟩
  done := by
    intro X hP hw hK hc i pins s σ H E I hf st hg
    subst hP hw hK
    obtain ⟨xs, hq, hx⟩ := hg
    obtain ⟨its, rv, p, hz⟩ := I.list hq
    obtain ⟨f0, f1, f2, f3, f4, f5⟩ := hf it (by simp)
    have hl := rv.length
    exact wpAny_pyNext_list_end (I.ok.hd hc) st p.isList (by simp; omega) fun h' eb => ⟨rfl, I.turned (t' := s.toks) (fun b o hb e => eb b o hb e) f0 f1 f3 f4 f5⟩
  self := fun _ _ _ _ _ st h => wpAny_pyIter_listiter st h
theorem turn_range {P : Program} {w : World} {K : PySem.W.Frag} {tg : Expr} (it : Addr) (lo : Int) (n : Nat) : Turn P w K tg (Itr lo n) [it] it (fun i h => IsRangeIter h it (lo + (i : Nat) * 1) ((n : Int) - (i : Nat)) 1) where
  mem := by simp
  obj := fun i h st b hb => by
    have e : b = it := by simpa using hb
    subst e
    exact ⟨_, st, fun v z => by
      have z' : Data.fields _ = Data.cell v := z
      cases z'⟩
  keep := fun i h h' st k => k it (by simp) _ st
  item := by
    intro X hP hw hK hc i pins s σ H E I hf st hg
    subst hP hw hK
    obtain ⟨f0, f1, f2, f3, f4, f5⟩ := hf it (by simp)
    have W := Walks.range (prog := X.prog) (w := X.w) (I.ok.hd hc) it lo 1 n
    refine W.item i s _ _ hg st fun v h' tk hv st' kk => ?_
    obtain ⟨t, rfl⟩ := hv
    have I1 : Inv X pins σ H { s with heap := h', toks := tk } := I.turned (fun b o hb e => kk b o (by simpa using hb) e) f0 f1 f3 f4 f5
    refine ⟨_, rfl, go_of (s := { s with heap := h', toks := tk }) (n := "range_iterator") st' rfl rfl (by decide) ⟨.int (lo + i), H, I1, ⟨t, ?_⟩, ⟨rfl, rfl⟩, st', fun b hb => (hf b hb).1⟩⟩
    rw [Int.mul_one]
  done := by
    intro X hP hw hK hc i pins s σ H E I hf st hg
    subst hP hw hK
    obtain ⟨f0, f1, f2, f3, f4, f5⟩ := hf it (by simp)
    exact wpAny_pyNext_range_end (I.ok.hd hc) st (by have : n ≤ i := hg; omega) fun h' eb => ⟨rfl, I.turned (t' := s.toks) (fun b o hb e => eb b o hb e) f0 f1 f3 f4 f5⟩
  self := fun _ _ _ _ _ st h => wpAny_pyIter_rangeiter st h
end L2
namespace L2
open PySem PySem.Spec PyProof.Rows
section
variable {X : Cx} {tg : Expr}
def iList (K : PySem.W.Frag) (tl : TE) : TI := fun σ H R => tl σ H fun x H1 => ∃ a, x = .ref a ∧ (∃ xs, SqL K H1 a xs) ∧ R (Itl K a) H1
theorem pi_list {l : Expr} {tl : TE} (hl : PE X l tl) : PI X tg l (iList X.K tl) := by
  intro pins s σ H R I h
  refine thn (hl pins s σ H _ I h) fun v s1 ⟨x, H1, I1, r1, q1⟩ => ?_
  obtain ⟨a, e, ⟨xs, hq⟩, q⟩ := q1
  subst e
  cases r1
  obtain ⟨its, rv, p, hz⟩ := I1.list hq
  refine wpAny_pyIter_list p.isList ?_
  refine ⟨s1.heap.objs.size, [s1.heap.objs.size], _, _, H1, rfl, I1.kept (t' := s1.toks) fun b o e => Heap.get?_push_of_some _ e, turn_list a _, ⟨_, Heap.get?_push_size _ rfl, rfl, rfl⟩, fun b hb => ?_, q⟩
  have e : b = s1.heap.objs.size := by simpa using hb
  subst e
  exact I1.fpOk (Nat.le_refl _) (I1.hok.fresh (Nat.le_refl _))
theorem range_it {pins : List (Addr × Obj)} {σ : St} {H : Hp} {s : Shared} {R : It → Hp → Prop} {E : Value → Shared → Prop} {lo hi : Int} {t u v : Tok} {tk : Nat} (I : Inv X pins σ H s) (h1 : -(2 ^ 62) ≤ lo) (h2 : lo < 2 ^ 62) (h3 : -(2 ^ 62) ≤ hi) (h4 : hi < 2 ^ 62)
    (q : R (Itr lo (hi - lo).toNat) H) : wpAny (model X.prog X.w) X.A (pyIter (.ref s.heap.objs.size)) (PIE X pins σ tg R) E { s with heap := s.heap.push { cls := .type "range", data := .fields #[.int lo t, .int hi u, .int 1 v] }, toks := tk } := by
  refine wpAny_pyIter_range (IsRange.new ..) (small_one h1 h2 h3 h4) ?_
  have I1 : Inv X pins σ H { s with heap := s.heap.push { cls := .type "range", data := .fields #[.int lo t, .int hi u, .int 1 v] }, toks := tk } := I.kept fun b o e => Heap.get?_push_of_some _ e
  refine ⟨(s.heap.push { cls := .type "range", data := .fields #[.int lo t, .int hi u, .int 1 v] }).objs.size, [(s.heap.push { cls := .type "range", data := .fields #[.int lo t, .int hi u, .int 1 v] }).objs.size], _, _, H, rfl,
    I1.kept (t' := tk) fun b o e => Heap.get?_push_of_some _ e, turn_range _ lo (hi - lo).toNat, ?_, fun b hb => ?_, q⟩
  · have e1 : lo + ((0 : Nat) : Int) * 1 = lo := by simp
    have e2 : (((hi - lo).toNat : Nat) : Int) - ((0 : Nat) : Int) = Builtin.Range.rangeSize lo hi 1 := by rw [rangeSize_one]; split <;> omega
    show IsRangeIter _ _ (lo + ((0 : Nat) : Int) * 1) ((((hi - lo).toNat : Nat) : Int) - ((0 : Nat) : Int)) 1
    rw [e1, e2]
    exact Heap.get?_push_size _ rfl
  · have e : b = (s.heap.push { cls := .type "range", data := .fields #[.int lo t, .int hi u, .int 1 v] }).objs.size := by simpa using hb
    subst e
    exact I1.fpOk (Nat.le_refl _) (I1.hok.fresh (Nat.le_refl _))
def iRng1 (ta : TA) : TI := fun σ H R => ta σ H fun vs H1 => ∃ j : Int, vs = [.int j] ∧ -(2 ^ 62) ≤ j ∧ j < 2 ^ 62 ∧ R (Itr 0 j.toNat) H1
theorem pi_range1 {a : Expr} {ta : TA} {p pos : Pos} (hg : Gl X "range") (hm : X.mg "range" = none) (ha : PA X [a] ta) (hs : starEach [a] X.env = [(false, eval a X.env)] := by rfl) : PI X tg (.Call (.Name "range" p) [a] [] pos) (iRng1 ta) := by
  intro pins s σ H R I h
  refine Call_ (ld_blt I hg hm boot_range (PyProof.Rows.callWith_type1 (thn (ha pos pins s σ H _ I h) fun us s1 ⟨vs, H1, I1, r1, q1⟩ => ?_) hs rfl))
  obtain ⟨j, e, q1, q2, q⟩ := q1
  subst e
  cases r1 with
  | cons r rr =>
    cases rr
    obtain ⟨t, rfl⟩ := r
    exact call_range_1 (range_it I1 (by omega) (by omega) q1 q2 (by simpa using q))
def tFor (wi : TI) (g : TG) (tb : TS) : TS := fun D σ H => wi σ H fun J H1 => ∃ W : Nat → Nat → St → Hp → Prop, (∃ m, W 0 m σ H1) ∧ ∀ i m σ H, W i m σ H →
  (J.stop i H ∧ D.nx σ H) ∨ (J.go i H ∧ ∃ N : St → Hp → Prop, (∀ σ' H', N σ' H' → ∃ m', m' < m ∧ W (i + 1) m' σ' H') ∧ ∀ x H', J.yld i H x H' → g x σ H' fun σ2 H2 => tb { D with nx := N, ct := N, bk := D.nx } σ2 H2)
def pinsAt (fp : List Addr) (h : Heap) : List (Addr × Obj) := fp.filterMap fun b => (h.get? b).map fun o => (b, o)
theorem mem_pinsAt {fp : List Addr} {h : Heap} {b : Addr} {o : Obj} (hb : b ∈ fp) (e : h.get? b = some o) : (b, o) ∈ pinsAt fp h := List.mem_filterMap.mpr ⟨b, hb, by rw [e]; rfl⟩
theorem of_pinsAt {fp : List Addr} {h : Heap} {p : Addr × Obj} (hp : p ∈ pinsAt fp h) : p.1 ∈ fp ∧ h.get? p.1 = some p.2 := by
  obtain ⟨b, hb, e⟩ := List.mem_filterMap.mp hp
  cases q : h.get? b with
  | none => rw [q] at e; cases e
  | some o =>
    rw [q] at e
    have e' : (b, o) = p := Option.some.inj e
    subst e'
    exact ⟨hb, q⟩
theorem Inv.pinned {pins : List (Addr × Obj)} {σ : St} {H : Hp} {s : Shared} {fp : List Addr} (I : Inv X pins σ H s) (hf : ∀ b ∈ fp, FpOk X pins H b) (ho : ∀ b ∈ fp, ∃ o, s.heap.get? b = some o ∧ ∀ v, o.data ≠ .cell v) : Inv X (pins ++ pinsAt fp s.heap) σ H s :=
  I.pins_of fun p hp => (List.mem_append.mp hp).elim (fun z => I.pin p (List.mem_append_right _ z)) fun z => by
    obtain ⟨hb, e⟩ := of_pinsAt z
    obtain ⟨f0, f1, f2, _⟩ := hf p.1 hb
    obtain ⟨o, e', d⟩ := ho p.1 hb
    rw [e] at e'; cases e'
    exact ⟨e, f0, f1, f2, d⟩
theorem Inv.unpinned {pins pl : List (Addr × Obj)} {σ : St} {H : Hp} {s : Shared} (I : Inv X (pins ++ pl) σ H s) : Inv X pins σ H s := I.pins_of fun p hp => I.pin p (List.mem_append_right _ (List.mem_append_left _ hp))
theorem ps_for {iter : Expr} {body : List Stmt} {wi : TI} {g : TG} {tb : TS} {pos : Pos} (hp : PassesOwn (model X.prog X.w) X.A X.env X.xe) (hc : X.calm = true) (hi : PI X tg iter wi) (hg : PG X tg g) (hb : PSs X body tb)
    (hs : ∀ x, foldedSetIterable iter X.env x = pure x := by intro _; rfl) : PS X (.For tg iter body [] pos) (tFor wi g tb) := by
  intro pins s σ H D I h
  refine wpAny_For (thn (hi pins s σ H _ I h) fun v s1 h1 => thn h1 fun itv s2 h2 => ?_) hs
  obtain ⟨it, fp, tn, J, H2, e, I2, T, st2, f2, W, ⟨m0, w0⟩, turn⟩ := h2
  subst e
  have stat : ∀ {H' : Hp}, (∀ b ∈ fp, H' b = none) → ∀ b ∈ fp, FpOk X pins H' b := fun hn b hb => ⟨hn b hb, (f2 b hb).2⟩
  refine codeAny_forLoop_any (fun n s' => ∃ i σ' H', Inv X pins σ' H' s' ∧ tn i s'.heap ∧ (∀ b ∈ fp, H' b = none) ∧ W i n σ' H') ?_ m0 ⟨0, σ, H2, I2, st2, fun b hb => (f2 b hb).1, w0⟩
  rintro n s3 ⟨i, σ3, H3, I3, st3, fr3, w3⟩
  rcases turn i n σ3 H3 w3 with ⟨stop, qn⟩ | ⟨go, N, hN, step⟩
  · refine wpAny_passesOwn hp (thn (T.done X rfl rfl rfl hc i pins s3 σ3 H3 X.xe I3 (stat fr3) st3 stop) fun r s4 ⟨hr, I4⟩ => ?_)
    subst hr
    exact wpAny_execs_nil ⟨σ3, H3, I4, qn⟩
  · refine wpAny_passesOwn hp (thn (T.item X rfl rfl rfl hc i pins s3 σ3 H3 X.xe I3 (stat fr3) st3 go) fun r s4 ⟨u, hr, h4⟩ => ?_)
    subst hr
    refine wpAny_passesOwn hp (thn h4 fun _ s5 ⟨x, H5, I5, r5, y5, st5, fr5⟩ => ?_)
    have I5' := I5.pinned (stat fr5) (T.obj _ _ st5)
    refine wpAny_passesOwn hp (thn (hg _ s5 σ3 H5 x u _ I5' r5 (step x H5 y5)) fun _ s6 ⟨σ6, H6, I6, q6⟩ => ?_)
    refine wpAny_passesOwn hp (thn (hb _ s6 σ6 H6 _ I6 q6) fun f s7 q7 => ?_)
    have again : ∀ {σ7 : St} {H7 : Hp}, Inv X (pins ++ pinsAt fp s5.heap) σ7 H7 s7 → N σ7 H7 → ∃ m, m < n ∧ ∃ i σ' H', Inv X pins σ' H' s7 ∧ tn i s7.heap ∧ (∀ b ∈ fp, H' b = none) ∧ W i m σ' H' := fun {σ7 H7} I7 n7 => by
      obtain ⟨m', hm, w7⟩ := hN σ7 H7 n7
      refine ⟨m', hm, i + 1, σ7, H7, I7.unpinned, T.keep _ _ _ st5 fun b hb o e => (I7.pin (b, o) (List.mem_append_right _ (List.mem_append_right _ (mem_pinsAt hb e)))).1, fun b hb => ?_, w7⟩
      obtain ⟨o, e, d⟩ := T.obj _ _ st5 b hb
      exact (I7.pin (b, o) (List.mem_append_right _ (List.mem_append_right _ (mem_pinsAt hb e)))).2.1
    cases f with
    | next => obtain ⟨σ7, H7, I7, n7⟩ := q7; exact again I7 n7
    | cont => obtain ⟨σ7, H7, I7, n7⟩ := q7; exact again I7 n7
    | brk => obtain ⟨σ7, H7, I7, q7⟩ := q7; exact ⟨σ7, H7, I7.unpinned, q7⟩
    | ret v => obtain ⟨x7, σ7, H7, I7, r7, q7⟩ := q7; exact ⟨x7, σ7, H7, I7.unpinned, r7, q7⟩
end
theorem for_list {K : PySem.W.Frag} {a : Addr} {xs : List V} {g : TG} {tb : TS} {D : Ends} {σ : St} {H : Hp} (Pv : Nat → St → Hp → Prop) (h0 : Pv 0 σ H) (hl : ∀ i σ H, i ≤ xs.length → Pv i σ H → SqL K H a xs)
    (hs : ∀ i x σ H, xs[i]? = some x → Pv i σ H → g x σ H fun σ2 H2 => tb { D with nx := Pv (i + 1), ct := Pv (i + 1), bk := D.nx } σ2 H2) (hd : ∀ σ H, Pv xs.length σ H → D.nx σ H) :
    ∃ W : Nat → Nat → St → Hp → Prop, (∃ m, W 0 m σ H) ∧ ∀ i m σ H, W i m σ H →
      ((Itl K a).stop i H ∧ D.nx σ H) ∨ ((Itl K a).go i H ∧ ∃ N : St → Hp → Prop, (∀ σ' H', N σ' H' → ∃ m', m' < m ∧ W (i + 1) m' σ' H') ∧ ∀ x H', (Itl K a).yld i H x H' → g x σ H' fun σ2 H2 => tb { D with nx := N, ct := N, bk := D.nx } σ2 H2) := by
  refine ⟨fun i m σ H => m = xs.length - i ∧ i ≤ xs.length ∧ Pv i σ H, ⟨xs.length, by simp, Nat.zero_le _, h0⟩, ?_⟩
  rintro i m σ H ⟨rfl, hi, p⟩
  have q := hl i σ H hi p
  by_cases hlt : i < xs.length
  · refine .inr ⟨⟨xs, xs[i], q, by simp [hlt]⟩, Pv (i + 1), fun σ' H' p' => ⟨xs.length - (i + 1), by omega, rfl, hlt, p'⟩, fun x H' y => ?_⟩
    obtain ⟨e, y⟩ := y
    subst e
    exact hs i x σ _ (y xs q) p
  · have e : i = xs.length := by omega
    subst e
    exact .inl ⟨⟨xs, q, Nat.le_refl _⟩, hd σ H p⟩
end L2
namespace L2
open PySem PySem.Spec PyProof.Rows
abbrev R2 := V → V → Hp → VK → Prop
def OpR (X : Cx) (f : Value → Value → Sem Value) (r : R2) : Prop :=
  ∀ (pins : List (Addr × Obj)) (s : Shared) (σ : St) (H : Hp) (x y : V) (v u : Value) (Q : VK), Inv X pins σ H s → RelV x v → RelV y u → r x y H Q →
    wpAny (model X.prog X.w) X.A (f v u) (EP X pins σ Q) X.xe s
def UnR (X : Cx) (f : Value → Sem Value) (r : V → Hp → VK → Prop) : Prop :=
  ∀ (pins : List (Addr × Obj)) (s : Shared) (σ : St) (H : Hp) (x : V) (v : Value) (Q : VK), Inv X pins σ H s → RelV x v → r x H Q →
    wpAny (model X.prog X.w) X.A (f v) (EP X pins σ Q) X.xe s
def CallR (X : Cx) (f : Value) (r : List V → Hp → VK → Prop) : Prop :=
  ∀ (pins : List (Addr × Obj)) (s : Shared) (σ : St) (H : Hp) (xs : List V) (us : List Value) (Q : VK), Inv X pins σ H s → Vals xs us → r xs H Q →
    wpAny (model X.prog X.w) X.A (call f us) (EP X pins σ Q) X.xe s
def TruR (X : Cx) (r : V → Hp → (Bool → Hp → Prop) → Prop) : Prop :=
  ∀ (pins : List (Addr × Obj)) (s : Shared) (σ : St) (H : Hp) (x : V) (v : Value) (Q : Bool → Hp → Prop), Inv X pins σ H s → RelV x v → r x H Q →
    wpAny (model X.prog X.w) X.A (truthy v) (TP X pins σ Q) X.xe s
def tOp (r : R2) (ta tb : TE) : TE := fun σ H Q => ta σ H fun x H1 => tb σ H1 fun y H2 => r x y H2 Q
def tUn (r : V → Hp → VK → Prop) (ta : TE) : TE := fun σ H Q => ta σ H fun x H1 => r x H1 Q
def rI (C : Int → Int → Prop) (g : Int → Int → V) : R2 := fun x y H Q => ∃ i j, x = .int i ∧ y = .int j ∧ C i j ∧ Q (g i j) H
def rI0 (g : Int → Int → V) : R2 := fun x y H Q => ∃ i j, x = .int i ∧ y = .int j ∧ Q (g i j) H
def rU (g : Int → V) : V → Hp → VK → Prop := fun x H Q => ∃ i, x = .int i ∧ Q (g i) H
section
variable {X : Cx} {a b c : Expr} {ta tb tc : TE} {pos : Pos}
theorem binT (ha : PE X a ta) (hb : PE X b tb) {pins : List (Addr × Obj)} {s : Shared} {σ : St} {H : Hp} {R : V → V → Hp → Prop} (I : Inv X pins σ H s)
    (h : ta σ H fun x H1 => tb σ H1 fun y H2 => R x y H2) {Q : Value → Shared → Prop} {f : Value → Value → Sem Value}
    (hf : ∀ v u s2 x y H2, Inv X pins σ H2 s2 → RelV x v → RelV y u → R x y H2 → wpAny (model X.prog X.w) X.A (f v u) Q X.xe s2) :
    wpAny (model X.prog X.w) X.A (eval a X.env) (fun v s₁ => wpAny (model X.prog X.w) X.A (eval b X.env) (fun u s₂ => wpAny (model X.prog X.w) X.A (f v u) Q X.xe s₂) X.xe s₁) X.xe s := by
  refine thn (ha pins s σ H _ I h) fun v s1 ⟨x, H1, I1, r1, q1⟩ => ?_
  refine thn (hb pins s1 σ H1 _ I1 q1) fun u s2 ⟨y, H2, I2, r2, q2⟩ => ?_
  exact hf v u s2 x y H2 I2 r1 r2 q2
theorem pe_op {op : Operator} {r : R2} (ho : OpR X (binaryOp op) r) (ha : PE X a ta) (hb : PE X b tb) : PE X (.BinOp a op b pos) (tOp r ta tb) := by
  intro pins s σ H Q I h
  exact wpAny_BinOp (binT ha hb I h fun v u s2 x y H2 I2 rx ry q => ho pins s2 σ H2 x y v u Q I2 rx ry q)
theorem pe_un {op : UnaryOp} {r : V → Hp → VK → Prop} (ho : UnR X (unaryOp op) r) (ha : PE X a ta) : PE X (.UnaryOp op a pos) (tUn r ta) := by
  intro pins s σ H Q I h
  exact UnaryOp_ (thn (ha pins s σ H _ I h) fun v s1 ⟨x, H1, I1, r1, q1⟩ => ho pins s1 σ H1 x v Q I1 r1 q1)
theorem opI {f : Value → Value → Sem Value} {C : Int → Int → Prop} {g : Int → Int → Int}
    (rule : ∀ (i j : Int) (t u : Tok) (s : Shared) (Q : Value → Shared → Prop) (E : Value → Shared → Prop), C i j → Q (.int (g i j) s.toks) { s with toks := s.toks + 1 } → wpAny (model X.prog X.w) X.A (f (.int i t) (.int j u)) Q E s) :
    OpR X f (rI C fun i j => .int (g i j)) := by
  intro pins s σ H x y v u Q I rx ry h
  obtain ⟨i, j, rfl, rfl, hc, q⟩ := h
  obtain ⟨t, rfl⟩ := rx
  obtain ⟨t', rfl⟩ := ry
  exact rule i j t t' s _ _ hc ⟨.int (g i j), H, I.tok _, ⟨_, rfl⟩, q⟩
theorem opI0 {f : Value → Value → Sem Value} {g : Int → Int → Int}
    (rule : ∀ (i j : Int) (t u : Tok) (s : Shared) (Q : Value → Shared → Prop) (E : Value → Shared → Prop), Q (.int (g i j) s.toks) { s with toks := s.toks + 1 } → wpAny (model X.prog X.w) X.A (f (.int i t) (.int j u)) Q E s) :
    OpR X f (rI0 fun i j => .int (g i j)) := by
  intro pins s σ H x y v u Q I rx ry h
  obtain ⟨i, j, rfl, rfl, q⟩ := h
  obtain ⟨t, rfl⟩ := rx
  obtain ⟨t', rfl⟩ := ry
  exact rule i j t t' s _ _ ⟨.int (g i j), H, I.tok _, ⟨_, rfl⟩, q⟩
theorem opB0 {f : Value → Value → Sem Value} {g : Int → Int → Bool}
    (rule : ∀ (i j : Int) (t u : Tok) (s : Shared) (Q : Value → Shared → Prop) (E : Value → Shared → Prop), Q (.bool (g i j)) s → wpAny (model X.prog X.w) X.A (f (.int i t) (.int j u)) Q E s) :
    OpR X f (rI0 fun i j => .bl (g i j)) := by
  intro pins s σ H x y v u Q I rx ry h
  obtain ⟨i, j, rfl, rfl, q⟩ := h
  obtain ⟨t, rfl⟩ := rx
  obtain ⟨t', rfl⟩ := ry
  exact rule i j t t' s _ _ ⟨.bl (g i j), H, I, rfl, q⟩
def CPow (i j : Int) : Prop := 0 ≤ j ∧ j ≤ 1000000 ∧ i.natAbs < 2 ^ 64
def CMul (i j : Int) : Prop := (-(2 ^ 64) < i ∧ i < 2 ^ 64) ∨ (-(2 ^ 64) < j ∧ j < 2 ^ 64)
theorem CMul.ok {i j : Int} (h : CMul i j) : IntMulOk i j := by
  rcases h with ⟨h1, h2⟩ | ⟨h1, h2⟩
  · exact .of_left (intBits_le_64 h1 h2)
  · exact .of_right (intBits_le_64 h1 h2)
theorem op_add : OpR X (binaryOp .Add) (rI0 fun i j => .int (i + j)) := opI0 fun _ _ _ _ _ _ _ q => add_int q
theorem op_sub : OpR X (binaryOp .Sub) (rI0 fun i j => .int (i - j)) := opI0 fun _ _ _ _ _ _ _ q => sub_int q
theorem op_mul : OpR X (binaryOp .Mult) (rI CMul fun i j => .int (i * j)) := opI fun _ _ _ _ _ _ _ hc q => mul_int q hc.ok
theorem op_mod : OpR X (binaryOp .Mod) (rI (fun _ j => 0 < j) fun i j => .int (i % j)) := opI fun i j _ _ _ _ _ hc q => by
  have h1 : (0 : Int) < j := hc
  exact mod_int' (by omega) (by rw [Int.fmod_eq_emod_of_nonneg i (by omega)]; exact q)
theorem op_pow : OpR X (binaryOp .Pow) (rI CPow fun i j => .int (i ^ j.toNat)) := opI fun _ _ _ _ _ _ _ hc q => pow_int_small hc.1 hc.2.1 hc.2.2 q
theorem unI {f : Value → Sem Value} {g : Int → Int}
    (rule : ∀ (i : Int) (t : Tok) (s : Shared) (Q : Value → Shared → Prop) (E : Value → Shared → Prop), Q (.int (g i) s.toks) { s with toks := s.toks + 1 } → wpAny (model X.prog X.w) X.A (f (.int i t)) Q E s) :
    UnR X f (rU fun i => .int (g i)) := by
  intro pins s σ H x v Q I rx h
  obtain ⟨i, rfl, q⟩ := h
  obtain ⟨t, rfl⟩ := rx
  exact rule i t s _ _ ⟨.int (g i), H, I.tok _, ⟨_, rfl⟩, q⟩
theorem un_neg : UnR X (unaryOp .USub) (rU fun i => .int (-i)) := unI fun _ _ _ _ _ q => neg_int q
end
def scal : V → V → Bool
  | .non, .non => true | .non, .int _ => true | .int _, .non => true | .non, .bl _ => true | .bl _, .non => true | .non, .str _ => true | .str _, .non => true
  | .int _, .int _ => true | .bl _, .bl _ => true | .str _, .str _ => true | .byt _, .byt _ => true
  | .int _, .str _ => true | .str _, .int _ => true | .bl _, .str _ => true | .str _, .bl _ => true
  | _, _ => false
def rEq : R2 := fun x y H Q => scal x y = true ∧ Q (.bl (decide (x = y))) H
theorem dec_int {i j : Int} : decide (V.int i = V.int j) = (i == j) := by
  rw [Bool.eq_iff_iff]
  simp
theorem dec_bl {i j : Bool} : decide (V.bl i = V.bl j) = (i == j) := by
  rw [Bool.eq_iff_iff]
  simp
theorem dec_str {i j : Str} : decide (V.str i = V.str j) = (i == j) := by
  rw [Bool.eq_iff_iff]
  simp
theorem dec_byt {i j : Array UInt8} : decide (V.byt i = V.byt j) = (i.toList == j.toList) := by
  rw [Bool.eq_iff_iff]
  cases i
  cases j
  simp
section
variable {X : Cx} {a b c : Expr} {ta tb tc : TE} {pos : Pos}
theorem fin_bl {pins : List (Addr × Obj)} {σ : St} {H : Hp} {s : Shared} {Q : VK} {k k' : Bool} (I : Inv X pins σ H s) (q : Q (.bl k) H) (e : k = k') : EP X pins σ Q (.bool k') s := by
  subst e
  exact ⟨.bl k, H, I, rfl, q⟩
theorem op_eq : OpR X (compareOp .Eq) rEq := by
  intro pins s σ H x y v u Q I rx ry h
  obtain ⟨hs, q⟩ := h
  cases x with
  | non =>
    cases rx
    cases y with
    | non => cases ry; exact PySem.EqNone.eq_none_none (fin_bl I q (by simp))
    | bl j => cases ry; exact PySem.EqNone.eq_none_bool (fin_bl I q (by simp))
    | int j => obtain ⟨t', rfl⟩ := ry; exact PySem.EqNone.eq_none_int (fin_bl I q (by simp))
    | str j => obtain ⟨t', rfl⟩ := ry; exact PySem.EqNone.eq_none_str (fin_bl I q (by simp))
    | _ => exact absurd (show false = true from hs) Bool.false_ne_true
  | bl i =>
    cases rx
    cases y with
    | non => cases ry; exact PySem.EqNone.eq_bool_none (fin_bl I q (by simp))
    | bl j => cases ry; exact eq_bool (fin_bl I q dec_bl)
    | str j => obtain ⟨t', rfl⟩ := ry; exact PySem.EqMixed.eq_bool_str (fin_bl I q (by simp))
    | _ => exact absurd (show false = true from hs) Bool.false_ne_true
  | int i =>
    obtain ⟨t, rfl⟩ := rx
    cases y with
    | non => cases ry; exact PySem.EqNone.eq_int_none (fin_bl I q (by simp))
    | int j => obtain ⟨t', rfl⟩ := ry; exact eq_int (fin_bl I q dec_int)
    | str j => obtain ⟨t', rfl⟩ := ry; exact PySem.EqMixed.eq_int_str (fin_bl I q (by simp))
    | _ => exact absurd (show false = true from hs) Bool.false_ne_true
  | str i =>
    obtain ⟨t, rfl⟩ := rx
    cases y with
    | non => cases ry; exact PySem.EqNone.eq_str_none (fin_bl I q (by simp))
    | bl j => cases ry; exact PySem.EqMixed.eq_str_bool (fin_bl I q (by simp))
    | int j => obtain ⟨t', rfl⟩ := ry; exact PySem.EqMixed.eq_str_int (fin_bl I q (by simp))
    | str j => obtain ⟨t', rfl⟩ := ry; exact eq_str (fin_bl I q dec_str)
    | _ => exact absurd (show false = true from hs) Bool.false_ne_true
  | byt i =>
    obtain ⟨t, rfl⟩ := rx
    cases y with
    | byt j => obtain ⟨t', rfl⟩ := ry; exact PySem.W.eq_bytes (fin_bl I q dec_byt)
    | _ => exact absurd (show false = true from hs) Bool.false_ne_true
  | _ => cases y <;> exact absurd (show false = true from hs) Bool.false_ne_true
theorem op_gt : OpR X (compareOp .Gt) (rI0 fun i j => .bl (decide (j < i))) := opB0 fun _ _ _ _ _ _ _ q => gt_int q
theorem op_ge : OpR X (compareOp .GtE) (rI0 fun i j => .bl (decide (j ≤ i))) := opB0 fun _ _ _ _ _ _ _ q => ge_int q
theorem OpR.or {f : Value → Value → Sem Value} {r r' : R2} (h : OpR X f r) (h' : OpR X f r') : OpR X f (fun x y H Q => r x y H Q ∨ r' x y H Q) := by
  intro pins s σ H x y v u Q I rx ry q
  rcases q with q | q
  · exact h pins s σ H x y v u Q I rx ry q
  · exact h' pins s σ H x y v u Q I rx ry q
theorem nomark (b : Expr) {op : CmpOp} (h : op ≠ .In := by decide) (h2 : op ≠ .NotIn := by decide) : behindInMarks op b = false := by
  have e1 : (op == CmpOp.In) = false := by cases op <;> first | rfl | exact absurd rfl h
  have e2 : (op == CmpOp.NotIn) = false := by cases op <;> first | rfl | exact absurd rfl h2
  cases b <;> simp [behindInMarks, e1, e2]
theorem pe_cmpR {op : CmpOp} {r : R2} (ho : OpR X (compareOp op) r) (ha : PE X a ta) (hb : PE X b tb) (hm : behindInMarks op b = false) : PE X (.Compare a [op] [b] pos) (tOp r ta tb) := by
  intro pins s σ H Q I h
  exact wpAny_Compare1 (binT ha hb I h fun v u s2 x y H2 I2 rx ry q => ho pins s2 σ H2 x y v u Q I2 rx ry q) hm
def tTest (t : TE) : TT := fun σ H Q => t σ H fun x H' => ∃ k, x = .bl k ∧ Q k H'
theorem pt_cmpR {op : CmpOp} {r : R2} (ho : OpR X (compareOp op) r) (ha : PE X a ta) (hb : PE X b tb) (hm : behindInMarks op b = false) : PT X (.Compare a [op] [b] pos) (tTest (tOp r ta tb)) := by
  intro pins s σ H Q I h
  refine wpAny_isTrue_Compare1 (thn (ha pins s σ H _ I h) fun v s1 ⟨x, H1, I1, r1, q1⟩ => thn (hb pins s1 σ H1 _ I1 q1) fun u s2 ⟨y, H2, I2, r2, q2⟩ =>
    thn (ho pins s2 σ H2 x y v u _ I2 r1 r2 q2) fun c s3 ⟨z, H3, I3, r3, k, e, q3⟩ => ?_) hm
  subst e
  cases r3
  exact wpAny_truthy_bool ⟨H3, I3, q3⟩
def TruV (K : PySem.W.Frag) (x : V) (H : Hp) (k : Bool) : Prop :=
  match x with
  | .non => k = false
  | .bl b => k = b
  | .int i => k = (i != 0)
  | .str y => y.length ≤ sizeLine ∧ k = ((y.length : Int) != 0)
  | .byt y => y.size ≤ sizeLine ∧ k = ((y.size : Int) != 0)
  | .ref p => (∃ xs, SqL K H p xs ∧ k = !xs.isEmpty) ∨ (∃ xs, SqT K H p xs ∧ k = !xs.isEmpty) ∨ ∃ kvs, H p = some (.dK kvs) ∧ k = !kvs.isEmpty
  | _ => False
theorem isEmpty_kv {κ : Type} {kvs : List (κ × V)} {vs : List (κ × Value)} (r : KV kvs vs) : (!vs.isEmpty) = !kvs.isEmpty := by
  cases r <;> rfl
theorem isEmpty_of {xs : List V} {its : List Value} (r : Vals xs its) : (!its.toArray.isEmpty) = !xs.isEmpty := by
  cases r <;> simp
theorem line63 : (sizeLine : Nat) < 2 ^ 63 := by rw [sizeLine_eq]; decide
theorem tru_ok : TruR X (fun x H Q => ∃ k, TruV X.K x H k ∧ Q k H) := by
  intro pins s σ H x v Q I rx h
  obtain ⟨k, e, q⟩ := h
  have hl := line63
  have hs : sizeLine = 16777216 := sizeLine_eq
  cases x with
  | non =>
    cases rx
    have e' : k = false := e
    subst e'
    exact truthy_none ⟨H, I, q⟩
  | bl b =>
    cases rx
    have e' : k = b := e
    subst e'
    exact wpAny_truthy_bool ⟨H, I, q⟩
  | int i =>
    obtain ⟨t, rfl⟩ := rx
    have e' : k = (i != 0) := e
    subst e'
    exact PySem.P.truthy_int ⟨H, I, q⟩
  | str y =>
    obtain ⟨t, rfl⟩ := rx
    obtain ⟨hy, e'⟩ : y.length ≤ sizeLine ∧ k = ((y.length : Int) != 0) := e
    subst e'
    exact PySem.P.truthy_str (by omega) ⟨H, I.tok _, q⟩
  | byt y =>
    obtain ⟨t, rfl⟩ := rx
    obtain ⟨hy, e'⟩ : y.size ≤ sizeLine ∧ k = ((y.size : Int) != 0) := e
    subst e'
    exact PySem.W.truthy_bytes (by omega) ⟨H, I.tok _, q⟩
  | ref p =>
    cases rx
    have e' : (∃ xs, SqL X.K H p xs ∧ k = !xs.isEmpty) ∨ (∃ xs, SqT X.K H p xs ∧ k = !xs.isEmpty) ∨ ∃ kvs, H p = some (.dK kvs) ∧ k = !kvs.isEmpty := e
    rcases e' with ⟨xs, hx, e'⟩ | ⟨xs, hx, e'⟩ | ⟨kvs, hx, e'⟩
    · subst e'
      obtain ⟨its, r, pl, hz⟩ := I.list hx
      have hlen := r.length
      exact wpAny_truthy_list pl.isList (by simp only [List.size_toArray]; omega) ⟨H, I.tok _, by rw [isEmpty_of r]; exact q⟩
    · subst e'
      obtain ⟨its, r, pl, hz⟩ := I.tuple hx
      have hlen := r.length
      exact truthy_tuple pl (by simp only [List.size_toArray]; omega) ⟨H, I.tok _, by rw [isEmpty_of r]; exact q⟩
    · subst e'
      obtain ⟨hz, hS, vs, r, m⟩ : kvs.length ≤ sizeLine ∧ (p == sysModules) = false ∧ ∃ vs, KV kvs vs ∧ s.heap.DictOf (mixKind X.prog X.w) p vs := I.hok p _ hx
      have hlen : kvs.length = vs.length := Paired.length r
      exact wpAny_truthy_dict hS m (by omega) ⟨H, I.tok _, by rw [isEmpty_kv r]; exact q⟩
  | _ => exact (show False from e).elim
theorem pt_truth (ha : PE X a ta) (he : ∀ whole, isTrue a X.env whole = (do let v ← whole; standAt a.pos; holding [v] (truthy v))) :
    PT X a (fun σ H Q => ta σ H fun x H' => ∃ k, TruV X.K x H' k ∧ Q k H') := by
  intro pins s σ H Q I h
  exact isTrue_plain (thn (ha pins s σ H _ I h) fun v s1 ⟨x, H1, I1, r1, q1⟩ => tru_ok pins s1 σ H1 x v Q I1 r1 q1) (he _)
theorem op_add_str : OpR X (binaryOp .Add) (fun x y H Q => ∃ i j, x = .str i ∧ y = .str j ∧ i.length + j.length ≤ sizeLine ∧ Q (.str (i ++ j)) H) := by
  intro pins s σ H x y v u Q I rx ry h
  obtain ⟨i, j, rfl, rfl, hz, q⟩ := h
  obtain ⟨t, rfl⟩ := rx
  obtain ⟨t', rfl⟩ := ry
  exact add_str (fun t' tk => ⟨.str (i ++ j), H, I.tok _, ⟨_, rfl⟩, q⟩) hz
theorem vals1 {x : V} {us : List Value} (r : Vals [x] us) : ∃ u, us = [u] ∧ RelV x u := by
  cases r with
  | cons r1 r2 => cases r2; exact ⟨_, rfl, r1⟩
theorem vals2 {x y : V} {us : List Value} (r : Vals [x, y] us) : ∃ u w', us = [u, w'] ∧ RelV x u ∧ RelV y w' := by
  cases r with
  | cons r1 r2 =>
    cases r2 with
    | cons r3 r4 => cases r4; exact ⟨_, _, rfl, r1, r3⟩
theorem call_max2 (hc : X.calm = true) : CallR X (.builtin "max") (fun xs H Q => ∃ i j, xs = [.int i, .int j] ∧ Q (.int (if j > i then j else i)) H) := by
  intro pins s σ H xs us Q I r h
  obtain ⟨i, j, rfl, q⟩ := h
  obtain ⟨u, w', rfl, ⟨t, rfl⟩, ⟨t', rfl⟩⟩ := vals2 r
  refine max_two_ints (I.ok.hd hc) fun h' tk k => ⟨_, H, I.kept k, ?_, q⟩
  by_cases hj : j > i
  · rw [if_pos hj, if_pos hj]; exact ⟨_, rfl⟩
  · rw [if_neg hj, if_neg hj]; exact ⟨_, rfl⟩
end
end L2
namespace L2
open PySem PySem.Spec PyProof.Rows
section
variable {prog : Program} {w : World} {A : Around} {E : Value → Shared → Prop} {s : Shared} {K : PySem.W.Frag} {x dx C f : Addr} {mA : Str → Option Value} {name : Str} {v : Value}
end
def putF (f : Str) (v : V) : List (Str × V) → List (Str × V)
  | [] => [(f, v)]
  | (g, x) :: r => if g = f then (g, v) :: r else (g, x) :: putF f v r
theorem lookup_putF (f g : Str) (v : V) : ∀ fs : List (Str × V), (putF f v fs).lookup g = if g = f then some v else fs.lookup g
  | [] => by
    show List.lookup g [(f, v)] = _
    by_cases h : g = f
    · have hb : (g == f) = true := beq_iff_eq.mpr h
      simp only [List.lookup, hb, if_pos h]
    · have hb : (g == f) = false := beq_eq_false_iff_ne.mpr h
      simp only [List.lookup, hb, if_neg h]
  | (k, x) :: r => by
    have ih := lookup_putF f g v r
    rw [show putF f v ((k, x) :: r) = (if k = f then (k, v) :: r else (k, x) :: putF f v r) from rfl]
    by_cases hk : k = f
    · rw [if_pos hk]
      by_cases h : g = k
      · have hb : (g == k) = true := beq_iff_eq.mpr h
        simp only [List.lookup, hb, if_pos (h.trans hk)]
      · have hb : (g == k) = false := beq_eq_false_iff_ne.mpr h
        simp only [List.lookup, hb, if_neg (fun e : g = f => h (e.trans hk.symm))]
    · rw [if_neg hk]
      by_cases h : g = k
      · have hb : (g == k) = true := beq_iff_eq.mpr h
        simp only [List.lookup, hb, if_neg (fun e : g = f => hk (h.symm.trans e))]
      · have hb : (g == k) = false := beq_eq_false_iff_ne.mpr h
        simp only [List.lookup, hb]
        exact ih
theorem keys_putF (f : Str) (v : V) : ∀ fs : List (Str × V), f ∈ (putF f v fs).map (·.1) ∧ ∀ g, g ∈ fs.map (·.1) → g ∈ (putF f v fs).map (·.1)
  | [] => ⟨by simp [putF], fun g h => by simp at h⟩
  | (k, x) :: r => by
    obtain ⟨i1, i2⟩ := keys_putF f v r
    rw [show putF f v ((k, x) :: r) = (if k = f then (k, v) :: r else (k, x) :: putF f v r) from rfl]
    by_cases hk : k = f
    · rw [if_pos hk]
      subst hk
      exact ⟨by simp, fun g h => by simpa using h⟩
    · rw [if_neg hk]
      refine ⟨?_, fun g h => ?_⟩
      · rw [List.map_cons]
        exact List.mem_cons_of_mem _ i1
      · rw [List.map_cons] at h ⊢
        rcases List.mem_cons.mp h with e | e
        · exact List.mem_cons.mpr (.inl e)
        · exact List.mem_cons_of_mem _ (i2 g e)
theorem RelO.some_of {v : V} {o : Option Value} (r : RelO (some v) o) : ∃ u, o = some u ∧ RelV v u := by
  cases o with
  | none => exact (show False from r).elim
  | some u => exact ⟨u, rfl, r⟩
theorem handed_of {v : V} {u : Value} (r : RelV v u) : PySem.W.handedIn u = true := by
  cases v with
  | non => cases (show u = Value.none from r); rfl
  | bl b => cases (show u = Value.bool b from r); rfl
  | int i => obtain ⟨t, e⟩ := (show ∃ t, u = Value.int i t from r); cases e; rfl
  | str x => obtain ⟨t, e⟩ := (show ∃ t, u = Value.str x t from r); cases e; rfl
  | byt b => obtain ⟨t, e⟩ := (show ∃ t, u = Value.bytes b t from r); cases e; rfl
  | flt b => obtain ⟨t, e⟩ := (show ∃ t, u = Value.float b t from r); cases e; rfl
  | ref a => cases (show u = Value.ref a from r); rfl
  | ty n => cases (show u = Value.type n from r); rfl
section
variable {P : Program} {w : World} {H H' : Hp} {h h' : Heap} {a C dx : Addr} {fs fs' : List (Str × V)}
end
structure Cls (K : PySem.W.Frag) (C : Addr) : Prop where
  pg : PySem.W.plainGet K C Str.empty = true
  hd : PySem.W.hasDictIn K C = true
  po : PySem.W.plainOver K C = true
  sa : PySem.W.findIn K (.ref C) "__setattr__" = some (some (.builtin "object.__setattr__"))
theorem Cls.get {K : PySem.W.Frag} {C : Addr} (c : Cls K C) (f : Str) : PySem.W.plainGet K C f = true := c.pg
section
variable {X : Cx} {pins : List (Addr × Obj)} {σ : St} {H : Hp} {s : Shared} {a C dx : Addr} {fs : List (Str × V)} {f : Str} {v : V} {A : Around} {E : Value → Shared → Prop}
theorem Inv.made (I : Inv X pins σ H s) : Inv X pins σ (upd (upd H s.heap.objs.size (.own (s.heap.objs.size + 1))) (s.heap.objs.size + 1) (.ins C s.heap.objs.size []))
    { s with heap := (s.heap.push PySem.W.emptyDict).push (PySem.W.instObj C s.heap.objs.size) } := by
  have e1 : (s.heap.push PySem.W.emptyDict).get? s.heap.objs.size = some PySem.W.emptyDict := Heap.get?_push_size s.heap rfl
  have e2 : ((s.heap.push PySem.W.emptyDict).push (PySem.W.instObj C s.heap.objs.size)).get? (s.heap.objs.size + 1) = some (PySem.W.instObj C s.heap.objs.size) := by
    have := Heap.get?_push_size (s.heap.push PySem.W.emptyDict) (o := PySem.W.instObj C s.heap.objs.size) rfl
    rwa [Heap.size_push] at this
  have e3 : (s.heap.push PySem.W.emptyDict).Ns s.heap.objs.size (fun _ => none) := ⟨PySem.W.emptyDict, #[], _, e1, rfl, (fun e he => absurd he (by simp)), fun _ => rfl⟩
  have I1 := I.laid (a := s.heap.objs.size) (o := .own (s.heap.objs.size + 1)) (h' := s.heap.push PySem.W.emptyDict) (t' := s.toks) (fun b u q => Heap.get?_push_of_some _ q) (Nat.le_refl _) ⟨_, e1⟩
  refine I1.laid (a := s.heap.objs.size + 1) (o := .ins C s.heap.objs.size []) (t' := s.toks) (fun b u q => Heap.get?_push_of_some _ q) (Nat.le_of_eq (Heap.size_push _ _)) ?_
  have ne : s.heap.objs.size ≠ s.heap.objs.size + 1 := Nat.ne_of_lt (Nat.lt_succ_self _)
  refine ⟨by rw [upd_ne ne, upd_same], Nat.zero_le _, ne, e2, fun _ => none, (Heap.Ns1.of_empty e3).at fun o q => Heap.get?_push_of_some _ q, fun _ => True.intro, fun y hy => absurd rfl hy⟩
theorem attr_of {prog : Program} {w : World} {env : Env} {e : Expr} {f : Str} {pos : Pos} {s : Shared} {Q : Value → Shared → Prop} (hb : attributeBase e f env (eval e env) = eval e env)
    (h : wpAny (model prog w) A (eval e env) (fun o s₁ => wpAny (model prog w) A (getAttr o f true) Q E s₁) E s) : wpAny (model prog w) A (eval (.Attribute e f pos) env) Q E s :=
  Attribute_any_ h (by rw [arm_eval_Attribute, hb])
end
section
variable {X : Cx} {o e value : Expr} {f : Str} {pos pos' tpos : Pos} {ta tv : TE}
end
section
variable {X : Cx} {pins : List (Addr × Obj)} {σ : St} {H : Hp} {s : Shared} {A : Around} {E : Value → Shared → Prop} {Q : Value → Shared → Prop} {c : Value} {b : Bool}
end
end L2
namespace L2
open PySem PySem.Spec PyProof.Rows
structure Room (k : Nat) (A : Around) : Prop where
  hd : A.handled = none
  dp : A.depth + 3 * k + 5 < recursionLimit
  un : A.units + 16 * k + 200 < cLine
theorem Room.mono {j k : Nat} {A : Around} (r : Room k A) (h : j ≤ k) : Room j A := ⟨r.hd, by have := r.dp; omega, by have := r.un; omega⟩
theorem Room.deeper {k : Nat} {A : Around} (r : Room (k + 1) A) (env : Env) : Room k (A.deeper env) :=
  ⟨r.hd, by have := r.dp; show A.depth + 1 + 3 * k + 5 < _; omega, by have := r.un; show A.units + 3 + 16 * k + 200 < _; omega⟩
theorem Room.in1 {k : Nat} {A : Around} (r : Room (k + 1) A) : Room k A.in1 :=
  ⟨r.hd, by have := r.dp; show A.depth + 3 * k + 5 < _; omega, by have := r.un; show A.units + 1 + 16 * k + 200 < _; omega⟩
theorem make_depth {A : Around} {C : Addr} {us : List Value} {kw : List (Str × Value)} : (A.under (.builtin "type.__call__" ⟨.ref C :: us, kw⟩)).depth = A.depth + 1 := by
  first | rfl | simp [Around.under, Code.weight, Code.isCreation, Code.isGuard, Code.isCaller, Code.frames, Code.isFrame, guardIds]
theorem make_units {A : Around} {C : Addr} {us : List Value} {kw : List (Str × Value)} : (A.under (.builtin "type.__call__" ⟨.ref C :: us, kw⟩)).units = A.units + 1 := by
  first | rfl | simp [Around.under, Code.cUnits, Code.frames, Code.isFrame]
theorem Room.make {k : Nat} {A : Around} (r : Room (k + 1) A) (C : Addr) (us : List Value) (kw : List (Str × Value)) : Room k (A.under (.builtin "type.__call__" ⟨.ref C :: us, kw⟩)) :=
  ⟨r.hd, by have := r.dp; rw [make_depth]; omega, by have := r.un; rw [make_units]; omega⟩
theorem Room.depth {k : Nat} {A : Around} (r : Room k A) : A.depth < recursionLimit := by have := r.dp; omega
theorem Room.units {k : Nat} {A : Around} (r : Room k A) : A.units + 64 < cLine := by have := r.un; omega
def tNil : TA := fun _ H Q => Q [] H
def tCons (ta : TE) (tr : TA) : TA := fun σ H Q => ta σ H fun x H1 => tr σ H1 fun xs H2 => Q (x :: xs) H2
section
variable {X : Cx} {e : Expr} {es : List Expr} {te : TE} {t : TA} {pos : Pos}
theorem pa_nil : PA X [] tNil := fun _ _ _ _ H Q I h => Calls.spliced_nil ⟨[], H, I, .nil, h⟩
theorem pa_cons (ha : PE X e te) (hr : PA X es t) (hs : starEach (e :: es) X.env = (false, eval e X.env) :: starEach es X.env := by rfl) : PA X (e :: es) (tCons te t) := by
  intro pos pins s σ H Q I h
  rw [hs]
  show wpAny _ _ (spliced ((false, eval e X.env) :: backTo pos (starEach es X.env))) _ _ s
  refine Calls.spliced_cons (thn (ha pins s σ H _ I h) fun u s1 ⟨x, H1, I1, r1, q1⟩ => ?_)
  exact thn (hr pos pins s1 σ H1 _ I1 q1) fun us s2 ⟨xs, H2, I2, r2, q2⟩ => ⟨x :: xs, H2, I2, .cons r1 r2, q2⟩
def tTup (t : TA) : TE := fun σ H Q => t σ H fun xs H1 => xs.length ≤ sizeLine ∧ ∀ p, H1 p = none → Q (.ref p) (upd H1 p (.tup xs))
def tLst (t : TA) : TE := fun σ H Q => t σ H fun xs H1 => xs.length ≤ sizeLine ∧ ∀ p, H1 p = none → Q (.ref p) (upd H1 p (.lst xs))
theorem pe_tup {x1} (h : PA X es t) : PE X (.Tuple es x1 pos) (tTup t) := by
  intro pins s σ H Q I hq
  refine wpAny_Tuple_spliced (thn (h pos pins s σ H _ I hq) fun us s1 ⟨xs, H1, I1, r, z, q⟩ => ⟨by rw [← r.length]; exact z, ?_⟩)
  have hf : H1 s1.heap.objs.size = none := I1.hok.fresh (Nat.le_refl _)
  refine ⟨.ref s1.heap.objs.size, upd H1 s1.heap.objs.size (.tup xs), I1.laid (t' := s1.toks) (fun b u e => Heap.get?_push_of_some _ e) (Nat.le_refl _) ?_, rfl, q _ hf⟩
  exact ⟨z, us, r, ⟨⟨_, Heap.get?_push_size _ rfl, rfl, _, rfl⟩, _, Heap.get?_push_size _ rfl, rfl⟩⟩
theorem pe_lst (h : PA X es t) : PE X (.List es pos) (tLst t) := by
  intro pins s σ H Q I hq
  refine wpAny_List_spliced (thn (h pos pins s σ H _ I hq) fun us s1 ⟨xs, H1, I1, r, z, q⟩ => ⟨by rw [← r.length]; exact z, ?_⟩)
  have hf : H1 s1.heap.objs.size = none := I1.hok.fresh (Nat.le_refl _)
  refine ⟨.ref s1.heap.objs.size, upd H1 s1.heap.objs.size (.lst xs), I1.laid (t' := s1.toks) (fun b u e => Heap.get?_push_of_some _ e) (Nat.le_refl _) ?_, rfl, q _ hf⟩
  exact ⟨z, us, 0, r, Heap.get?_push_size _ rfl⟩
end
abbrev Sp := List V → Hp → VK → XK → Prop
abbrev CXT := List Env → Hp → Shared → XK → Value → Shared → Prop
structure Env0 (P : Program) (w : World) (K : PySem.W.Frag) (mg : Str → Option Value) (base : Heap) (A : Around) (outer : List Env) (s : Shared) (H : Hp) : Prop where
  frames : A.frames = some outer
  mod : Mod K mg base
  bs : ∀ b o, base.get? b = some o → s.heap.get? b = some o ∧ H b = none
  bsz : base.objs.size ≤ s.heap.objs.size
  funs : s.heap.FunFrames base outer
  frf : ∀ b ∈ frs outer, H b = none
  hok : HOk P w H s.heap
  bare : AllBare s.gens
def CE (outer : List Env) (P : Program) (w : World) (H : Hp) (s : Shared) (Q : VK) (u : Value) (s' : Shared) : Prop :=
  ∃ v H', s'.os = s.os ∧ AllBare s'.gens ∧ Un (frs outer) [] H H' s.heap s'.heap ∧ HOk P w H' s'.heap ∧ RelV v u ∧ Q v H'
def CR (CX : CXT) (outer : List Env) (P : Program) (w : World) (H : Hp) (s : Shared) (Q : VK) (E : XK) (r : Result) (s' : Shared) : Prop :=
  match r with
  | .ok (.ret u) => CE outer P w H s Q u s'
  | .ok _ => False
  | .error e => CX outer H s E e s'
structure FnOk (P : Program) (w : World) (K : PySem.W.Frag) (mg : Str → Option Value) (base : Heap) (CX : CXT) (k : Nat) (f : Addr) (fd : FuncData) (ps : List Str) (sp : Sp) : Prop where
  len : ∀ vs H Q E, sp vs H Q E → vs.length = ps.length
  run : ∀ (A : Around) (outer : List Env) (s : Shared) (H : Hp) (args : Args) (us : List Value) (vs : List V) (Q : VK) (E : XK), Room k A → Env0 P w K mg base A outer s H → BindsTo s fd args (ps.zip us) → Vals vs us → sp vs H Q E →
    codeAny (model P w) A (.call (.ref f) args) (CR CX outer P w H s Q E) s
theorem FnOk.mono {P : Program} {w : World} {K : PySem.W.Frag} {mg : Str → Option Value} {base : Heap} {CX : CXT} {j k : Nat} {f : Addr} {fd : FuncData} {ps : List Str} {sp : Sp} (F : FnOk P w K mg base CX j f fd ps sp) (h : j ≤ k) :
    FnOk P w K mg base CX k f fd ps sp := ⟨F.len, fun A outer s H args us vs Q E hr => F.run A outer s H args us vs Q E (hr.mono h)⟩
theorem FnOk.imp {P : Program} {w : World} {K : PySem.W.Frag} {mg : Str → Option Value} {base : Heap} {CX : CXT} {k : Nat} {f : Addr} {fd : FuncData} {ps : List Str} {sp sp' : Sp} (F : FnOk P w K mg base CX k f fd ps sp)
    (h : ∀ vs H Q E, sp' vs H Q E → sp vs H Q E) : FnOk P w K mg base CX k f fd ps sp' :=
  ⟨fun vs H Q E q => F.len vs H Q E (h _ _ _ _ q), fun A outer s H args us vs Q E hr he hb hv hs => F.run A outer s H args us vs Q E hr he hb hv (h _ _ _ _ hs)⟩
theorem Env0.make {P : Program} {w : World} {K : PySem.W.Frag} {mg : Str → Option Value} {base : Heap} {A : Around} {outer : List Env} {s : Shared} {H : Hp} (e : Env0 P w K mg base A outer s H) (C : Addr) (us : List Value) (kw : List (Str × Value)) :
    Env0 P w K mg base (A.under (.builtin "type.__call__" ⟨.ref C :: us, kw⟩)) outer s H := ⟨by first | exact e.frames | (simpa [Around.under, Code.envs, Code.isFrame, pushEnvs] using e.frames), e.mod, e.bs, e.bsz, e.funs, e.frf, e.hok, e.bare⟩
theorem Env0.in1 {P : Program} {w : World} {K : PySem.W.Frag} {mg : Str → Option Value} {base : Heap} {A : Around} {outer : List Env} {s : Shared} {H : Hp} (e : Env0 P w K mg base A outer s H) :
    Env0 P w K mg base A.in1 outer s H := ⟨e.frames, e.mod, e.bs, e.bsz, e.funs, e.frf, e.hok, e.bare⟩
section
variable {X : Cx} {pins : List (Addr × Obj)} {σ : St} {H : Hp} {s s' : Shared}
theorem Inv.env0 (I : Inv X pins σ H s) : Env0 X.prog X.w X.K X.mg X.base X.A X.stack s H :=
  ⟨I.ok.frames, I.ok.mod, I.bs, Nat.le_trans I.ok.bsz I.sz, I.stack, I.stkFree, I.hok, I.bare⟩
theorem Inv.after {Q : VK} {u : Value} (I : Inv X pins σ H s) (h : CE X.stack X.prog X.w H s Q u s') : EP X pins σ Q u s' := by
  obtain ⟨v, H', os, bare, un, hok, r, q⟩ := h
  obtain ⟨hh, g, d, t, os'⟩ := s'
  obtain rfl : os' = s.os := os
  exact ⟨v, H', I.call (h' := hh) (g' := g) (d' := d) (t' := t) (ch := []) un hok bare (fun b z => absurd z (by simp)), r, q⟩
end
def tCall (sp : Sp) (dvs : List V) (E : XK) (t : TA) : TE := fun σ H Q => t σ H fun vs H1 => sp (vs ++ dvs) H1 Q E
def Binds (K : PySem.W.Frag) (fd : FuncData) (ps : List Str) (ds : List Value) : Prop :=
  ∀ (s : Shared) (us : List Value), K.In s.heap → (us ++ ds).length = ps.length → BindsTo s fd ⟨us, []⟩ (ps.zip (us ++ ds))
theorem Binds.all {K : PySem.W.Frag} {fd : FuncData} {ps : List Str} (h : ∀ us : List Value, us.length = ps.length → bindArgs fd ⟨us, []⟩ = pure (ps.zip us)) : Binds K fd ps [] := fun s us _ hl => by
  rw [List.append_nil] at hl ⊢
  exact .of_eq (h us hl)
def Passes (CX : CXT) (X : Cx) (E : XK) : Prop := ∀ (pins : List (Addr × Obj)) (σ : St) (H : Hp) (s : Shared) (e : Value) (s' : Shared), Inv X pins σ H s → CX X.stack H s E e s' → X.xe e s'
section
variable {X : Cx} {CX : CXT} {k : Nat} {f C : Addr} {fd : FuncData} {ps : List Str} {sp : Sp} {dvs : List V} {ds : List Value} {E : XK} {x m : Str} {p pos apos : Pos} {e o : Expr} {es : List Expr} {ta : TE} {t : TA}
theorem run_fn {pins : List (Addr × Obj)} {σ : St} {H : Hp} {s : Shared} {Q : VK} {us : List Value} {vs : List V} (F : FnOk X.prog X.w X.K X.mg X.base CX k f fd ps sp) (hr : Room k X.A) (hb : Binds X.K fd ps ds) (hd : Vals dvs ds) (hx : Passes CX X E)
    (I : Inv X pins σ H s) (r : Vals vs us) (h : sp (vs ++ dvs) H Q E) : wpAny (model X.prog X.w) X.A (call (.ref f) us) (EP X pins σ Q) X.xe s := by
  have r2 : Vals (vs ++ dvs) (us ++ ds) := r.append hd
  have hl : (us ++ ds).length = ps.length := by rw [← r2.length]; exact F.len _ _ _ _ h
  refine wpAny_call (codeAny_mono (F.run X.A X.stack s H ⟨us, []⟩ (us ++ ds) (vs ++ dvs) Q E hr I.env0 (hb s us I.kIn hl) r2 h) fun r s' hq => ?_)
  cases r with
  | error e => exact hx pins σ H s e s' I hq
  | ok fl =>
    cases fl with
    | ret u => exact I.after hq
    | next => exact False.elim hq
    | brk => exact False.elim hq
    | cont => exact False.elim hq
theorem pe_call (F : FnOk X.prog X.w X.K X.mg X.base CX k f fd ps sp) (hr : Room k X.A) (hg : Gl X x) (hm : X.mg x = some (.ref f)) (hk : PySem.W.keepIn X.K (.ref f) = true) (hb : Binds X.K fd ps ds) (hd : Vals dvs ds) (hx : Passes CX X E)
    (ha : PA X (e :: es) t) (hdb : (x == ("__debug__" : Str)) = false := by decide) (he : starEach (e :: es) X.env = (false, eval e X.env) :: starEach es X.env := by rfl) (hpl : (backTo pos (starEach es X.env)).any (·.1) = false := by rfl) :
    PE X (.Call (.Name x p) (e :: es) [] pos) (tCall sp dvs E t) := by
  intro pins s σ H Q I h
  refine wpAny_Call_Name_kw (ld_glob I hg hm ?_ hdb)
  refine PySem.W.callWith_K (h₀ := X.base) I.ok.mod.kin hk (thn (ha pos pins s σ H _ I h) fun us s1 ⟨vs, H1, I1, r, q⟩ => ⟨I1.kIn, ?_⟩) he hpl
  exact run_fn F hr hb hd hx I1 r q
end
section
variable {X : Cx} {CX : CXT} {k : Nat} {f C : Addr} {fd : FuncData} {ps ks : List Str} {sp : Sp} {E : XK} {x m : Str} {p pos apos kpos : Pos} {e o : Expr} {es : List Expr} {kws : List Keyword} {te ta : TE} {t tk : TA} {nm : Option Str}
variable {g : List Value → List Value → List Value} {gV : List V → List V → List V}
end
structure FnScope (N P : List Str) (sc : Scope) : Prop where
  kind : sc.kind = .function
  co : sc.isCoroutine = false
  gen : sc.isGenerator = false
  nd : N.Nodup
  pre : N.take P.length = P
  par : ∀ x ∈ P, sc.names.lookup x = some .local ∨ sc.names.lookup x = some .cell
  nofree : ∀ y ∈ sc.names, y.2 ≠ .free
theorem bindL_out {kindOf : Str → Option NameKind} {x : Str} : ∀ {binds : List (Str × Value)} {m : Str → Option Value}, (∀ v, (x, v) ∉ binds) → bindL kindOf binds m x = m x
  | [], _, _ => rfl
  | (n, v) :: r, m, h => by
    unfold bindL
    rw [bindL_out fun w hw => h w (List.mem_cons_of_mem _ hw)]
    split
    · have : x ≠ n := by rintro rfl; exact h v List.mem_cons_self
      simp [this]
    · rfl
theorem bindC_out {kindOf : Str → Option NameKind} {x : Str} : ∀ {binds : List (Str × Value)} {m : Str → Option Value}, (∀ v, (x, v) ∉ binds) → bindC kindOf binds m x = m x
  | [], _, _ => rfl
  | (n, v) :: r, m, h => by
    unfold bindC
    rw [bindC_out fun w hw => h w (List.mem_cons_of_mem _ hw)]
    split
    · rfl
    · have : x ≠ n := by rintro rfl; exact h v List.mem_cons_self
      simp [this]
theorem bindL_get {kindOf : Str → Option NameKind} {x : Str} {v : Value} : ∀ {P : List Str} {vs : List Value} {i : Nat} {m : Str → Option Value}, P.Nodup → P[i]? = some x → vs[i]? = some v → kindOf x = some .local →
    bindL kindOf (P.zip vs) m x = some v
  | [], _, _, _, _, h, _, _ => by simp at h
  | _ :: _, [], _, _, _, _, h, _ => by simp at h
  | p :: P, w :: vs, 0, m, nd, h1, h2, hk => by
    simp at h1 h2; subst h1; subst h2
    show bindL kindOf ((p, w) :: P.zip vs) m p = _
    unfold bindL
    rw [bindL_out fun v hv => (List.nodup_cons.mp nd).1 (List.of_mem_zip hv).1, if_pos hk]
    simp
  | p :: P, w :: vs, i + 1, m, nd, h1, h2, hk => by
    show bindL kindOf ((p, w) :: P.zip vs) m x = _
    unfold bindL
    exact bindL_get (i := i) (List.nodup_cons.mp nd).2 (by simpa using h1) (by simpa using h2) hk
theorem bindC_get {kindOf : Str → Option NameKind} {x : Str} {v : Value} : ∀ {P : List Str} {vs : List Value} {i : Nat} {m : Str → Option Value}, P.Nodup → P[i]? = some x → vs[i]? = some v → kindOf x ≠ some .local →
    bindC kindOf (P.zip vs) m x = some v
  | [], _, _, _, _, h, _, _ => by simp at h
  | _ :: _, [], _, _, _, _, h, _ => by simp at h
  | p :: P, w :: vs, 0, m, nd, h1, h2, hk => by
    simp at h1 h2; subst h1; subst h2
    show bindC kindOf ((p, w) :: P.zip vs) m p = _
    unfold bindC
    rw [bindC_out fun v hv => (List.nodup_cons.mp nd).1 (List.of_mem_zip hv).1, if_neg hk]
    simp
  | p :: P, w :: vs, i + 1, m, nd, h1, h2, hk => by
    show bindC kindOf ((p, w) :: P.zip vs) m x = _
    unfold bindC
    exact bindC_get (i := i) (List.nodup_cons.mp nd).2 (by simpa using h1) (by simpa using h2) hk
def start (N : List Str) (vs : List V) : St := vs.map some ++ List.replicate (N.length - vs.length) none
def cxOf (CX : CXT) (P : Program) (w : World) (K : PySem.W.Frag) (mg : Str → Option Value) (base : Heap) (N : List Str) (qual : Str) (scope : Scope) (f : Addr) (cd : Value) (A : Around) (outer : List Env) (s : Shared) (H : Hp) (E : XK) : Cx where
  prog := P
  w := w
  K := K
  mg := mg
  base := base
  A := A.deeper (envOfC qual scope s.heap.objs.size f cd)
  N := N
  s₀ := s
  H₀ := H
  env := envOfC qual scope s.heap.objs.size f cd
  outer := outer
  stack := envOfC qual scope s.heap.objs.size f cd :: outer
  ex := []
  calm := true
  fn := fun _ => true
  pn := []
  xe := fun e s' => wpAny (model P w) (A.deeper (envOfC qual scope s.heap.objs.size f cd)) (leaving (envOfC qual scope s.heap.objs.size f cd) e) (fun _ s'' => CX outer H s E e s'') (fun e' s'' => CX outer H s E e' s'') s'
theorem cell_has {sc : Scope} {n : Nat} {x : Str} (h : sc.names.lookup x = some .cell) : ∃ c, (cellsFrom n sc.names []).lookup x = some c := by
  have q := PySem.W.cellsFrom_some sc.names n [] (.inl h)
  exact Option.isSome_iff_exists.mp q
theorem inv_start {CX : CXT} {P : Program} {w : World} {K : PySem.W.Frag} {mg : Str → Option Value} {base : Heap} {N ps : List Str} {qual : Str} {scope : Scope} {f : Addr} {cd : Value} {A : Around} {outer : List Env} {s s1 : Shared} {H : Hp} {E : XK} {us : List Value} {vs : List V}
    (S : FnScope N ps scope) (hd : A.handled = none) (e0 : Env0 P w K mg base A outer s H) (hl : vs.length = ps.length) (r : Vals vs us)
    (x : InCallC s s.heap.objs.size (bindL (envOfC qual scope s.heap.objs.size f cd).kindOf (ps.zip us) fun _ => none) (cellsFrom (s.heap.objs.size + 1) scope.names []) (bindC (envOfC qual scope s.heap.objs.size f cd).kindOf (ps.zip us) fun _ => none) s1) :
    Inv (cxOf CX P w K mg base N qual scope f cd A outer s H E) [] (start N vs) H s1 := by
  have hpl : ps.length ≤ N.length := by have := congrArg List.length S.pre; rw [List.length_take] at this; omega
  obtain ⟨h1, tk, rfl, hk⟩ := x.done
  have noA : ∀ b : Addr, b ∉ (cxOf CX P w K mg base N qual scope f cd A outer s H E).ex := fun b z => absurd (show b ∈ ([] : List Addr) from z) (by simp)
  refine ⟨⟨e0.mod, S.kind, rfl, rfl, Nat.le_refl _, fun y z c h1 h2 => ?_, fun y hy => ?_, fun y c _ h => ?_, fun _ => hd, Around.frames_deeper e0.frames, .inr ⟨rfl, rfl⟩, fun b z => absurd z (noA b), e0.bs, e0.bsz, fun b _ _ => noA b, fun b z => absurd z (noA b), e0.funs, e0.frf⟩,
    rfl, e0.bare, Un.kept hk, ⟨_, x.toInCall.ns, fun i y v h1 h2 h3 => ?_⟩, fun y c h => ⟨_, x.cell y c h⟩, e0.hok.fresh (Nat.le_refl _), fun y c h => ?_, fun p hp => absurd (show p ∈ ([] : List (Addr × Obj)) from hp) (by simp), e0.hok.kept hk, ?_⟩
  · exact name_of_addr x.apart (PySem.mem_of_lookup h1) (PySem.mem_of_lookup h2)
  · have hy : scope.names.lookup y = some .cell ∨ scope.names.lookup y = some .free := hy
    rcases hy with hy | hy
    · exact cell_has hy
    · exact absurd rfl (S.nofree _ (PySem.mem_of_lookup hy))
  · exact Nat.le_of_lt (x.above y c (PySem.mem_of_lookup h))
  · have hi : i < vs.length := by
      unfold start at h2
      by_cases hi : i < vs.length
      · exact hi
      · rw [List.getElem?_append_right (by simpa using hi)] at h2
        rw [List.getElem?_replicate] at h2
        split at h2 <;> cases h2
    have ha : vs[i]? = some v := by
      unfold start at h2
      rw [List.getElem?_append_left (by simpa using hi), List.getElem?_map] at h2
      cases e : vs[i]? with
      | none => rw [e] at h2; cases h2
      | some a => rw [e] at h2; cases h2; rfl
    obtain ⟨u, hu, rv⟩ := r.get ha
    have hp : ps[i]? = some y := by
      rw [← S.pre, List.getElem?_take_of_lt (by omega)]; exact h1
    have ndP : ps.Nodup := by rw [← S.pre]; exact S.nd.sublist (List.take_sublist _ _)
    refine ⟨u, rv, ?_⟩
    rcases S.par y (List.mem_of_getElem? hp) with k | k
    · exact .inl ⟨k, bindL_get ndP hp hu k⟩
    · obtain ⟨c, e⟩ := cell_has (n := s.heap.objs.size + 1) k
      refine .inr ⟨.inl k, c, e, ?_⟩
      have q := x.cell y c e
      rw [bindC_get ndP hp hu (by show scope.names.lookup y ≠ _; rw [k]; decide)] at q
      exact q
  · exact e0.hok.fresh (Nat.le_of_lt (x.above y c (PySem.mem_of_lookup h)))
  · unfold start
    show _ = N.length
    rw [List.length_append, List.length_map, List.length_replicate]
    omega
theorem fn_of {CX : CXT} {P : Program} {w : World} {K : PySem.W.Frag} {mg : Str → Option Value} {base : Heap} {k : Nat} {f : Addr} {name qual : Str} {params : Arguments} {body : List Stmt} {scope : Scope} {dV kV doc pm cdv ct oc : Value} {an od : Option Addr}
    {osl : Array (Option Value)} {N ps : List Str} {sp : Sp} (lk : K.lookup f = some ⟨oc, od, .func (PySem.W.fnOf name qual params body scope dV kV doc pm an cdv ct), osl⟩) (hcd : PySem.W.codeIn K cdv qual = true) (S : FnScope N ps scope)
    (len : ∀ vs H Q E, sp vs H Q E → vs.length = ps.length)
    (hbody : ∀ (A : Around) (outer : List Env) (s : Shared) (H : Hp) (vs : List V) (Q : VK) (E : XK), Room k (A.deeper (envOfC qual scope s.heap.objs.size f cdv)) → sp vs H Q E →
      ∃ t, PSs (cxOf CX P w K mg base N qual scope f cdv A outer s H E) body t ∧ t { nx := fun _ H' => Q .non H', rt := Q } (start N vs) H) :
    FnOk P w K mg base CX (k + 1) f (PySem.W.fnOf name qual params body scope dV kV doc pm an cdv ct) ps sp := by
  refine ⟨len, fun A outer s H args us vs Q E hr e0 hb r hsp => ?_⟩
  have hl := len _ _ _ _ hsp
  have KX : K.In s.heap := e0.mod.kin.keeps fun b o e => (e0.bs b o e).1
  have lim : s.heap.NoLimit := e0.mod.nolimit.keeps fun b o e => (e0.bs b o e).1
  have hkind : ∀ y ∈ ps.zip us, scope.names.lookup y.1 = some .local ∨ (scope.names.lookup y.1 = some .cell ∧ ((cellsFrom (s.heap.objs.size + 1) scope.names []).lookup y.1).isSome = true) := fun ⟨n, v⟩ hy => by
    rcases S.par n (List.of_mem_zip hy).1 with q | q
    · exact .inl q
    · exact .inr ⟨q, PySem.W.cellsFrom_some _ _ _ (.inl q)⟩
  refine codeAny_call_function hr.depth (KX _ _ lk) rfl S.co S.gen rfl (PySem.W.codeRec_of KX hcd) (hb _ _ _ _ ?_)
  refine wpAny_newFunctionEnv_cells S.kind hkind fun env he s1 x => ?_
  subst he
  refine ⟨lim.keeps x.toInCall.keep, codeAny_func ?_⟩
  obtain ⟨t, ht, hq⟩ := hbody A outer s H vs Q E (hr.deeper _) hsp
  have I : Inv (cxOf CX P w K mg base N qual scope f cdv A outer s H E) [] (start N vs) H s1 := inv_start S hr.hd e0 hl r x
  refine wpAny_mono (ht [] s1 (start N vs) H _ I hq) (fun fl s' hs => ?_) fun e s' hs => hs
  have fin : ∀ {σ' : St} {H' : Hp} {v : V} {u : Value}, Inv (cxOf CX P w K mg base N qual scope f cdv A outer s H E) [] σ' H' s' → RelV v u → Q v H' → CE outer P w H s Q u s' :=
    fun {σ' H' v u} J rv q => ⟨v, H', J.os, J.bare, J.base, J.hok, rv, q⟩
  cases fl with
  | ret u =>
    obtain ⟨v, σ', H', J, rv, q⟩ := hs
    exact fin J rv q
  | next =>
    obtain ⟨σ', H', J, q⟩ := hs
    exact fin (v := V.non) (u := Value.none) J rfl q
  | brk =>
    obtain ⟨_, _, _, q⟩ := hs
    exact False.elim q
  | cont =>
    obtain ⟨_, _, _, q⟩ := hs
    exact False.elim q
end L2
namespace L2
open PySem PySem.Spec PyProof.Rows
section
variable {X : Cx} {x : Str} {p pos : Pos} {e : Expr} {es : List Expr} {t : TA} {id T : String} {r : List V → Hp → VK → Prop}
def tCB (r : List V → Hp → VK → Prop) (t : TA) : TE := fun σ H Q => t σ H fun vs H1 => r vs H1 Q
theorem pe_callB (hc : CallR X (.builtin id) r) (hg : Gl X x) (hm : X.mg x = none) (hv : bootBuiltins x = some (.builtin id)) (ha : PA X (e :: es) t) (hn : x ≠ "__name__" := by decide) (hdb : (x == ("__debug__" : Str)) = false := by decide)
    (he : starEach (e :: es) X.env = (false, eval e X.env) :: starEach es X.env := by rfl) (hpl : (backTo pos (starEach es X.env)).any (·.1) = false := by rfl) : PE X (.Call (.Name x p) (e :: es) [] pos) (tCB r t) := by
  intro pins s σ H Q I h
  refine wpAny_Call_Name_kw (ld_blt I hg hm hv ?_ hn hdb)
  exact PyProof.Rows.callWith_builtin1 (thn (ha pos pins s σ H _ I h) fun us s1 ⟨vs, H1, I1, r1, q1⟩ => hc pins s1 σ H1 vs us Q I1 r1 q1) he hpl
end
end L2
namespace HT
open PySem PyProof.Rows
section
open PySem.SeqAt
open PySem.AutoSeq1 (wpAny_loadPart')
open PySem.MeetsSeq PySem.MeetsSeq2 PySem.MeetsSeq3
end
section
variable {prog : Program} {w : World} {A : Around} {E : Value → Shared → Prop} {s : Shared}
theorem cat_tup {t b : Addr} {vs ws : List Value} {Q : Value → Shared → Prop} (ht : IsTup s.heap t vs.toArray) (hb : IsTup s.heap b ws.toArray) (hv : vs ≠ [])
    (h1 : ws = [] → Q (.ref t) s) (h2 : ws ≠ [] → Q (.ref s.heap.objs.size) { s with heap := s.heap.push { cls := .type "tuple", data := .seq (vs ++ ws).toArray } })
    (hsz : vs.length + ws.length ≤ sizeLine) : wpAny (model prog w) A (binaryOp .Add (.ref t) (.ref b)) Q E s := by
  obtain ⟨⟨cls, dd, data, sl⟩, ho, hc, n, hd⟩ := id ht
  obtain ⟨⟨cls2, dd2, data2, sl2⟩, ho2, hc2, n2, hd2⟩ := id hb
  simp only at hc hd hc2 hd2
  subst hc hd hc2 hd2
  have e : vs.toArray ++ ws.toArray = (vs ++ ws).toArray := by simp
  by_cases hw : ws = []
  · exact concat_meets ⟨_, ho, rfl⟩ ⟨_, ho2, rfl⟩ noFill_tuple_add seq_tuple_add PySem.F.slot_tuple_add PySem.F.entry_tuple_add (PySem.F.args_tuple_add_2 _ _)
      (tuple_addW1 t b vs.toArray ws.toArray n n2 dd dd2 sl sl2 (by simpa using hv) (by simp [hw])) ⟨ho, ho2, h1 hw⟩
  · refine concat_meets ⟨_, ho, rfl⟩ ⟨_, ho2, rfl⟩ noFill_tuple_add seq_tuple_add PySem.F.slot_tuple_add PySem.F.entry_tuple_add (PySem.F.args_tuple_add_2 _ _)
      (tuple_addW2 t b vs.toArray ws.toArray n n2 dd dd2 sl sl2 (by simpa using hv) (by simpa using hw) (by rw [List.size_toArray, List.size_toArray]; exact hsz)) ⟨ho, ho2, ?_⟩
    rw [e]
    exact h2 hw
def sIx (n d : Nat) : Option Int → Nat
  | none => d
  | some v => if v < 0 then (v + (n : Int)).toNat else min v.toNat n
end
end HT
namespace L2
open PySem PySem.Spec PyProof.Rows
abbrev TO := St → Hp → (Option Int → Hp → Prop) → Prop
def PO (X : Cx) (e : Option Expr) (t : TO) : Prop :=
  ∀ (pins : List (Addr × Obj)) (s : Shared) (σ : St) (H : Hp) (Q : Option Int → Hp → Prop), Inv X pins σ H s → t σ H Q →
    wpAny (model X.prog X.w) X.A (evalPart e X.env) (fun u s' => ∃ o H', Inv X pins σ H' s' ∧ IsPart u o ∧ Q o H') X.xe s
def tPart (t : TE) : TO := fun σ H Q => t σ H fun x H1 => ∃ i, x = .int i ∧ Q (some i) H1
section
variable {X : Cx} {e : Expr} {te : TE} {lo hi : Option Expr} {tl th : TO} {pos p2 : Pos}
theorem po_some (h : PE X e te) : PO X (some e) (tPart te) := by
  intro pins s σ H Q I hw
  rw [evalPart_some]
  refine thn (h pins s σ H _ I hw) fun u s1 ⟨x, H1, I1, r1, q1⟩ => ?_
  obtain ⟨i, rfl, q⟩ := q1
  obtain ⟨t, rfl⟩ := r1
  exact ⟨some i, H1, I1, .int i t, q⟩
def SlR (X : Cx) (r : V → Option Int → Option Int → Hp → VK → Prop) : Prop :=
  ∀ (pins : List (Addr × Obj)) (s : Shared) (σ : St) (H : Hp) (x : V) (v vl vu : Value) (lo hi : Option Int) (sl : Addr) (Q : VK), Inv X pins σ H s → RelV x v → s.heap.IsSliceOf sl vl vu .none → IsPart vl lo → IsPart vu hi → r x lo hi H Q →
    ∃ T id, typeLookup (.type T) "__getitem__" = pure (some (.builtin id)) ∧ s.TypeIs v T ∧ wpAny (model X.prog X.w) X.A (getItem v (.ref sl)) (EP X pins σ Q) X.xe s
theorem SlR.or {r r' : V → Option Int → Option Int → Hp → VK → Prop} (h : SlR X r) (h' : SlR X r') : SlR X (fun x lo hi H Q => r x lo hi H Q ∨ r' x lo hi H Q) := by
  intro pins s σ H x v vl vu lo hi sl Q I rx hs pl pu q
  rcases q with q | q
  · exact h pins s σ H x v vl vu lo hi sl Q I rx hs pl pu q
  · exact h' pins s σ H x v vl vu lo hi sl Q I rx hs pl pu q
def tSl (r : V → Option Int → Option Int → Hp → VK → Prop) (te : TE) (tl th : TO) : TE := fun σ H Q => te σ H fun x H1 => tl σ H1 fun l H2 => th σ H2 fun u H3 => r x l u H3 Q
theorem pe_slice {r : V → Option Int → Option Int → Hp → VK → Prop} (hr : SlR X r) (he : PE X e te) (hl : PO X lo tl) (hu : PO X hi th) : PE X (.Subscript e (.Slice lo hi none p2) pos) (tSl r te tl th) := by
  intro pins s σ H Q I h
  refine Subscript_ (thn (he pins s σ H _ I h) fun v s1 ⟨x, H1, I1, r1, q1⟩ => ?_)
  refine wpAny_Slice (thn (hl pins s1 σ H1 _ I1 q1) fun vl s2 ⟨l, H2, I2, pl, q2⟩ => thn (hu pins s2 σ H2 _ I2 q2) fun vu s3 ⟨u, H3, I3, pu, q3⟩ => ?_)
  rw [evalPart_none]
  refine wpAny_pure ?_
  have I4 : Inv X pins σ H3 { s3 with heap := s3.heap.push { cls := .type "slice", data := .fields #[vl, vu, .none] } } := I3.kept (t' := s3.toks) fun b ob q => Heap.get?_push_of_some _ q
  obtain ⟨T, id, hT, ht, hg⟩ := hr pins { s3 with heap := s3.heap.push { cls := .type "slice", data := .fields #[vl, vu, .none] } } σ H3 x v vl vu l u s3.heap.objs.size Q I4 r1 (Heap.IsSliceOf.new ..) pl pu q3
  show wpAny (model X.prog X.w) X.A (subscriptTail e (.Slice lo hi none p2) v (.ref s3.heap.objs.size)) (EP X pins σ Q) X.xe { s3 with heap := s3.heap.push { cls := .type "slice", data := .fields #[vl, vu, .none] } }
  exact tail_any (ops := [.ref s3.heap.objs.size, v]) ht hT hg (by with_unfolding_all rfl)
def cutV (xs : List V) (lo hi : Option Int) : List V := (xs.drop (HT.sIx xs.length 0 lo)).take (HT.sIx xs.length xs.length hi - HT.sIx xs.length 0 lo)
theorem cutV_length (xs : List V) (lo hi : Option Int) : (cutV xs lo hi).length ≤ xs.length := by
  unfold cutV
  rw [List.length_take, List.length_drop]
  omega
def rCatT (K : PySem.W.Frag) : R2 := fun x y H Q => ∃ a b xs ys, x = .ref a ∧ y = .ref b ∧ SqT K H a xs ∧ SqT K H b ys ∧ xs ≠ [] ∧ xs.length + ys.length ≤ sizeLine ∧
  (ys = [] → Q (.ref a) H) ∧ (ys ≠ [] → ∀ p, H p = none → Q (.ref p) (upd H p (.tup (xs ++ ys))))
theorem Vals.nil_iff {xs : List V} {us : List Value} (r : Vals xs us) : us = [] ↔ xs = [] := by
  cases r with
  | nil => simp
  | cons _ _ => simp
theorem op_catT : OpR X (binaryOp .Add) (rCatT X.K) := by
  intro pins s σ H x y v u Q I rx ry h
  obtain ⟨a, b, xs, ys, rfl, rfl, ha, hb, hx, hz, q1, q2⟩ := h
  cases rx
  cases ry
  obtain ⟨its, r1, p1, _⟩ := I.tuple ha
  obtain ⟨its2, r2, p2, _⟩ := I.tuple hb
  refine HT.cat_tup p1 p2 (fun z => hx (r1.nil_iff.mp z)) (fun z => ⟨.ref a, H, I, rfl, q1 (r2.nil_iff.mp z)⟩) (fun z => ?_) (by rw [← r1.length, ← r2.length]; exact hz)
  refine ⟨.ref s.heap.objs.size, _, I.laid (t' := s.toks) (o := .tup (xs ++ ys)) (fun b ob q => Heap.get?_push_of_some _ q) (Nat.le_refl _) ?_, rfl, q2 (fun w => z (r2.nil_iff.mpr w)) _ (I.hok.fresh (Nat.le_refl _))⟩
  exact ⟨by rw [List.length_append]; exact hz, _, r1.append r2, IsTupN.new _ _⟩
end
end L2
namespace L2
open PySem PySem.Spec PyProof.Rows
def ixN (n : Nat) (i : Int) : Option Nat := if 0 ≤ i then (if i < n then some i.toNat else none) else if -(n : Int) ≤ i then some (i + n).toNat else none
def atI {α : Type} (xs : List α) (i : Int) : Option α := (ixN xs.length i).bind fun j => xs[j]?
theorem ixN_seq {n : Nat} {i : Int} {j : Nat} (h : ixN n i = some j) : seqIndex? i n = some j ∧ j < n ∧ -(n : Int) ≤ i ∧ i < n := by
  unfold ixN at h
  by_cases h0 : 0 ≤ i
  · rw [if_pos h0] at h
    by_cases h1 : i < n
    · rw [if_pos h1] at h
      have e : i.toNat = j := Option.some.inj h
      exact ⟨by rw [seqIndex_of h0 h1, e], by omega, by omega, h1⟩
    · rw [if_neg h1] at h; cases h
  · rw [if_neg h0] at h
    by_cases h1 : -(n : Int) ≤ i
    · rw [if_pos h1] at h
      have e : (i + n).toNat = j := Option.some.inj h
      exact ⟨by rw [seqIndex_neg (by omega) h1, e], by omega, h1, by omega⟩
    · rw [if_neg h1] at h; cases h
theorem atI_get {α : Type} {xs : List α} {i : Int} {v : α} (h : atI xs i = some v) : ∃ j, seqIndex? i xs.length = some j ∧ xs[j]? = some v ∧ j < xs.length ∧ -(xs.length : Int) ≤ i ∧ i < xs.length := by
  unfold atI at h
  cases e : ixN xs.length i with
  | none => rw [e] at h; cases h
  | some j =>
    rw [e] at h
    obtain ⟨h1, h2, h3, h4⟩ := ixN_seq e
    exact ⟨j, h1, h, h2, h3, h4⟩
def PlainIx (b : Expr) : Prop := ∀ o i, subscripted b false o i = operate [o, i] (getItem o i)
def IxR (X : Cx) (r : R2) : Prop :=
  ∀ (value slice : Expr) (pins : List (Addr × Obj)) (s : Shared) (σ : St) (H : Hp) (x y : V) (v u : Value) (Q : VK), Inv X pins σ H s → RelV x v → RelV y u → r x y H Q →
    subscripted slice false v u = operate [v, u] (getItem v u) → wpAny (model X.prog X.w) X.A (subscriptTail value slice v u) (EP X pins σ Q) X.xe s
def MtR (X : Cx) (id : String) (r : V → List V → Hp → VK → Prop) : Prop :=
  ∀ (pins : List (Addr × Obj)) (s : Shared) (σ : St) (H : Hp) (x : V) (xs : List V) (v : Value) (us : List Value) (Q : VK), Inv X pins σ H s → RelV x v → Vals xs us → r x xs H Q →
    wpAny (model X.prog X.w) X.A (call (.builtin id) (v :: us)) (EP X pins σ Q) X.xe s
section
variable {X : Cx} {a b : Expr} {ta tb : TE} {pos : Pos}
theorem IxR.or {r r' : R2} (h : IxR X r) (h' : IxR X r') : IxR X (fun x y H Q => r x y H Q ∨ r' x y H Q) := by
  intro value slice pins s σ H x y v u Q I rx ry q hs
  rcases q with q | q
  · exact h value slice pins s σ H x y v u Q I rx ry q hs
  · exact h' value slice pins s σ H x y v u Q I rx ry q hs
theorem MtR.or {id : String} {r r' : V → List V → Hp → VK → Prop} (h : MtR X id r) (h' : MtR X id r') : MtR X id (fun x xs H Q => r x xs H Q ∨ r' x xs H Q) := by
  intro pins s σ H x xs v us Q I rx rs q
  rcases q with q | q
  · exact h pins s σ H x xs v us Q I rx rs q
  · exact h' pins s σ H x xs v us Q I rx rs q
theorem pe_ix {r : R2} (hr : IxR X r) (ha : PE X a ta) (hb : PE X b tb) (hs : PlainIx b) : PE X (.Subscript a b pos) (tOp r ta tb) := by
  intro pins s σ H Q I h
  exact Subscript_ (binT ha hb I h fun v u s2 x y H2 I2 rx ry q => hr a b pins s2 σ H2 x y v u Q I2 rx ry q (hs _ _))
def rIxL (K : PySem.W.Frag) : R2 := fun x y H Q => ∃ p xs i v, x = .ref p ∧ y = .int i ∧ SqL K H p xs ∧ atI xs i = some v ∧ Q v H
def rIxT (K : PySem.W.Frag) : R2 := fun x y H Q => ∃ p xs i v, x = .ref p ∧ y = .int i ∧ SqT K H p xs ∧ atI xs i = some v ∧ Q v H
def rIxS : R2 := fun x y H Q => ∃ z i c, x = .str z ∧ y = .int i ∧ z.length ≤ sizeLine ∧ atI z.cps.toList i = some c ∧ Q (.str ⟨#[c]⟩) H
theorem ix_list : IxR X (rIxL X.K) := by
  intro value slice pins s σ H x y v u Q I rx ry h hs
  obtain ⟨p, xs, i, z, rfl, rfl, hq, he, q⟩ := h
  cases rx
  obtain ⟨t, rfl⟩ := ry
  obtain ⟨its, r, pl, hz⟩ := I.list hq
  obtain ⟨j, h1, h2, h3, h4, h5⟩ := atI_get he
  obtain ⟨w, ew, rw'⟩ := r.get h2
  have hl := r.length
  have hn := line63
  have fin : EP X pins σ Q w s := ⟨z, H, I, rw', q⟩
  by_cases h0 : 0 ≤ i
  · have hj : i.toNat = j := by
      rw [seqIndex_of h0 h5] at h1
      exact Option.some.inj h1
    exact item_listR pl.isList h0 (by omega) (by rw [hj]; simpa using ew) fin hs
  · have hj : (i + (its.toArray.size : Int)).toNat = j := by
      rw [seqIndex_neg (by omega) h4] at h1
      rw [List.size_toArray, ← hl]
      exact Option.some.inj h1
    exact subscriptTail_builtinR (x := w) pl.isList.typeIs slot_list_getitem.lookup
      (wpAny_getItem_list_neg (Q := fun r s' => r = w ∧ EP X pins σ Q r s') pl.isList (by omega) (by rw [List.size_toArray] <;> omega) (by omega) (by rw [hj]; simpa using ew) ⟨rfl, fin⟩) hs
theorem ix_tup : IxR X (rIxT X.K) := by
  intro value slice pins s σ H x y v u Q I rx ry h hs
  obtain ⟨p, xs, i, z, rfl, rfl, hq, he, q⟩ := h
  cases rx
  obtain ⟨t, rfl⟩ := ry
  obtain ⟨its, r, pl, hz⟩ := I.tuple hq
  obtain ⟨j, h1, h2, h3, h4, h5⟩ := atI_get he
  obtain ⟨w, ew, rw'⟩ := r.get h2
  have hl := r.length
  have hn := line63
  have fin : EP X pins σ Q w s := ⟨z, H, I, rw', q⟩
  exact subscriptTail_builtinR (x := w) pl.typeIs slot_tuple_getitem.lookup
    (getItem_tuple (j := j) (Q := fun r s' => r = w ∧ EP X pins σ Q r s') pl (by omega) (by omega) (by rw [List.size_toArray, ← hl]; exact h1) (by simpa using ew) ⟨rfl, fin⟩) hs
theorem ix_str : IxR X rIxS := by
  intro value slice pins s σ H x y v u Q I rx ry h hs
  obtain ⟨z, i, c, rfl, rfl, hz, he, q⟩ := h
  obtain ⟨t, rfl⟩ := rx
  obtain ⟨t', rfl⟩ := ry
  obtain ⟨j, h1, h2, h3, h4, h5⟩ := atI_get he
  have hl : z.cps.toList.length = z.length := by simp [Str.length]
  rw [hl] at h1 h4 h5
  have hn := line63
  exact tail_any (typeIs_str s z t) slot_str_getitem.lookup (getItem_str (c := c) (by
    have e1 : decide (i < -(2 ^ 63 : Int)) = false := decide_eq_false (by omega)
    have e2 : decide (i ≥ 2 ^ 63) = false := decide_eq_false (by omega)
    rw [e1, e2, Bool.or_false]) (by rw [h1]; simpa using h2) ⟨.str ⟨#[c]⟩, H, I.tok _, ⟨_, rfl⟩, q⟩) hs
def rIx (K : PySem.W.Frag) : R2 := fun x y H Q => rIxL K x y H Q ∨ rIxT K x y H Q ∨ rIxS x y H Q
theorem ix_seq : IxR X (rIx X.K) := ix_list.or (ix_tup.or ix_str)
theorem Inv.lst {pins : List (Addr × Obj)} {σ : St} {H : Hp} {s : Shared} {p : Addr} {xs : List V} (I : Inv X pins σ H s) (h : H p = some (.lst xs)) :
    ∃ (its : List Value) (n : Nat), Vals xs its ∧ s.heap.get? p = some { cls := .type "list", data := .seq its.toArray n } ∧ xs.length ≤ sizeLine := by
  obtain ⟨z, its, n, r, e⟩ := I.hok p _ h
  exact ⟨its, n, r, e, z⟩
theorem slice_bounds (lo hi : Option Int) (n : Nat) : (sliceBounds lo hi none n).1 = ((HT.sIx n 0 lo : Nat) : Int) ∧ (sliceBounds lo hi none n).2.1 = ((HT.sIx n n hi : Nat) : Int) ∧ (sliceBounds lo hi none n).2.2 = 1 := by
  refine ⟨?_, ?_, rfl⟩
  · cases lo with
    | none => simp [sliceBounds, HT.sIx]
    | some i =>
      simp only [sliceBounds, HT.sIx, Option.getD_none, show (1 : Int) > 0 by decide, if_true]
      by_cases h : i < 0
      · simp only [h, if_true] <;> omega
      · simp only [h, if_false] <;> omega
  · cases hi with
    | none => simp [sliceBounds, HT.sIx]
    | some i =>
      simp only [sliceBounds, HT.sIx, Option.getD_none, show (1 : Int) > 0 by decide, if_true]
      by_cases h : i < 0
      · simp only [h, if_true] <;> omega
      · simp only [h, if_false] <;> omega
theorem slicePick_cut (its : List Value) (lo hi : Option Int) : slicePick its.toArray lo hi none = ((its.drop (HT.sIx its.length 0 lo)).take (HT.sIx its.length its.length hi - HT.sIx its.length 0 lo)).toArray := by
  obtain ⟨h1, h2, h3⟩ := slice_bounds lo hi its.toArray.size
  unfold slicePick
  rw [h1, h2, h3]
  simp only [sliceRange_one, pick_run, List.size_toArray] <;> rfl
def rSlL (K : PySem.W.Frag) : V → Option Int → Option Int → Hp → VK → Prop := fun x lo hi H Q => ∃ a xs, x = .ref a ∧ SqL K H a xs ∧ ∀ p, H p = none → Q (.ref p) (upd H p (.lst (cutV xs lo hi)))
theorem sl_list : SlR X (rSlL X.K) := by
  intro pins s σ H x v vl vu lo hi sl Q I rx hs pl pu h
  obtain ⟨a, xs, rfl, hx, q⟩ := h
  cases rx
  obtain ⟨its, r, ht, hz⟩ := I.list hx
  have hlen := r.length
  refine ⟨"list", _, slot_list_getitem.lookup, ht.isList.typeIs, ?_⟩
  refine wpAny_getItem_list_slice ht.isList hs pl pu .none (by simp) ?_ (by rw [List.size_toArray] <;> omega)
  rw [slicePick_cut, ← hlen]
  refine ⟨.ref s.heap.objs.size, _, I.laid (t' := s.toks) (o := .lst (cutV xs lo hi)) (fun b ob q => Heap.get?_push_of_some _ q) (Nat.le_refl _) ?_, rfl, q _ (I.hok.fresh (Nat.le_refl _))⟩
  exact ⟨Nat.le_trans (cutV_length xs lo hi) hz, _, 0, (r.drop (HT.sIx xs.length 0 lo)).take (HT.sIx xs.length xs.length hi - HT.sIx xs.length 0 lo), Heap.get?_push_size _ rfl⟩
def flatV : V → Bool
  | .non => true
  | .bl _ => true
  | .int _ => true
  | .str _ => true
  | _ => false
def eqV : V → V → Bool
  | .non, .non => true
  | .bl a, .bl b => a == b
  | .bl a, .int b => (if a then 1 else 0) == b
  | .int a, .bl b => a == (if b then 1 else 0)
  | .int a, .int b => a == b
  | .str a, .str b => a == b
  | _, _ => false
theorem eqAt_V {A : Around} {s : Shared} {y x : V} {u v : Value} (ry : RelV y u) (rx : RelV x v) (fy : flatV y = true) (fx : flatV x = true) : SeqAt.EqAt A s u v (eqV y x) := by
  cases y with
  | non =>
    cases ry
    cases x with
    | non => cases rx; exact SeqAt.EqAt.same _
    | bl b => cases rx; exact SeqAt.EqAt.none_bool b
    | int b => obtain ⟨t, rfl⟩ := rx; exact SeqAt.EqAt.none_int b t
    | str b => obtain ⟨t, rfl⟩ := rx; exact SeqAt.EqAt.none_str b t
    | _ => exact absurd (show false = true from fx) Bool.false_ne_true
  | bl a =>
    cases ry
    cases x with
    | non => cases rx; exact SeqAt.EqAt.bool_none a
    | bl b => cases rx; exact SeqAt.EqAt.bool_bool a b
    | int b => obtain ⟨t, rfl⟩ := rx; exact SeqAt.EqAt.bool_int a b t
    | str b => obtain ⟨t, rfl⟩ := rx; exact SeqAt.EqAt.bool_str a b t
    | _ => exact absurd (show false = true from fx) Bool.false_ne_true
  | int a =>
    obtain ⟨t', rfl⟩ := ry
    cases x with
    | non => cases rx; exact SeqAt.EqAt.int_none a t'
    | bl b => cases rx; exact SeqAt.EqAt.int_bool a t' b
    | int b => obtain ⟨t, rfl⟩ := rx; exact SeqAt.EqAt.int_int a t' b t
    | str b => obtain ⟨t, rfl⟩ := rx; exact SeqAt.EqAt.int_str a t' b t
    | _ => exact absurd (show false = true from fx) Bool.false_ne_true
  | str a =>
    obtain ⟨t', rfl⟩ := ry
    cases x with
    | non => cases rx; exact SeqAt.EqAt.str_none a t'
    | bl b => cases rx; exact SeqAt.EqAt.str_bool a t' b
    | int b => obtain ⟨t, rfl⟩ := rx; exact SeqAt.EqAt.str_int a t' b t
    | str b => obtain ⟨t, rfl⟩ := rx; exact SeqAt.EqAt.str_str a t' b t
    | _ => exact absurd (show false = true from fx) Bool.false_ne_true
  | _ => exact absurd (show false = true from fy) Bool.false_ne_true
theorem call_len_seq : CallR X (.builtin "len") (fun xs H Q => ∃ p ys, xs = [.ref p] ∧ (SqL X.K H p ys ∨ SqT X.K H p ys) ∧ Q (.int ys.length) H) := by
  intro pins s σ H xs us Q I r h
  obtain ⟨p, ys, rfl, hq, q⟩ := h
  obtain ⟨u, rfl, rx⟩ := vals1 r
  cases rx
  have hn := line63
  rcases hq with hq | hq
  · obtain ⟨its, r', pl, hz⟩ := I.list hq
    have hlen := r'.length
    exact Calls.call_len_list pl.isList (by simp only [List.size_toArray] <;> omega) ⟨.int ys.length, H, I.tok _, ⟨s.toks + 1, by rw [List.size_toArray, hlen]⟩, q⟩
  · obtain ⟨its, r', pl, hz⟩ := I.tuple hq
    have hlen := r'.length
    exact len_tuple pl (by simp only [List.size_toArray] <;> omega) ⟨.int ys.length, H, I.tok _, ⟨s.toks + 1, by rw [List.size_toArray, hlen]⟩, q⟩
theorem CallR.or {f : Value} {r r' : List V → Hp → VK → Prop} (h : CallR X f r) (h' : CallR X f r') : CallR X f (fun xs H Q => r xs H Q ∨ r' xs H Q) := by
  intro pins s σ H xs us Q I rs q
  rcases q with q | q
  · exact h pins s σ H xs us Q I rs q
  · exact h' pins s σ H xs us Q I rs q
def tyV (K : PySem.W.Frag) (T : String) (x : V) (H : Hp) : Prop := match x with
  | .str _ => T = "str"
  | .int _ => T = "int"
  | .ref p => (T = "list" ∧ ∃ xs, SqL K H p xs) ∨ (T = "tuple" ∧ ∃ o, K.lookup p = some o ∧ o.cls = .type "tuple" ∧ o.dict = none) ∨
      (T = "dict" ∧ ((∃ kvs, H p = some (.dK kvs)) ∨ ∃ kvs, H p = some (.dT kvs))) ∨ (T = "set" ∧ ∃ S n, H p = some (.set S n))
  | _ => False
theorem tyV_is {pins : List (Addr × Obj)} {σ : St} {H : Hp} {s : Shared} {T : String} {x : V} {v : Value} (I : Inv X pins σ H s) (r : RelV x v) (ty : tyV X.K T x H) :
    s.TypeIs v T ∧ ∀ a, v = .ref a → ∃ ob, s.heap.get? a = some ob ∧ ob.dict = none := by
  cases x with
  | str z =>
    obtain ⟨t, rfl⟩ := r
    cases (show T = "str" from ty)
    exact ⟨typeIs_str s z t, fun _ e => nomatch e⟩
  | int i =>
    obtain ⟨t, rfl⟩ := r
    cases (show T = "int" from ty)
    exact ⟨typeIs_int s i t, fun _ e => nomatch e⟩
  | ref p =>
    cases r
    rcases ty with ⟨rfl, xs, hq⟩ | ⟨rfl, o, hk, hc, hd⟩ | ⟨rfl, hk⟩ | ⟨rfl, S, n, hk⟩
    · obtain ⟨its, _, pl, _⟩ := I.list hq
      refine ⟨pl.isList.typeIs, fun a e => ?_⟩
      cases e
      obtain ⟨o, n, e, c, hd, _⟩ := pl
      exact ⟨o, e, hd⟩
    · refine ⟨⟨o, I.kIn p o hk, hc⟩, fun a e => ?_⟩
      cases e
      exact ⟨o, I.kIn _ o hk, hd⟩
    · have z : ∃ o, s.heap.get? p = some o ∧ o.ExactDict := by
        rcases hk with ⟨kvs, hk⟩ | ⟨kvs, hk⟩
        · obtain ⟨_, _, _, _, o, _, _, e, ex, _⟩ := I.hok p _ hk
          exact ⟨o, e, ex⟩
        · obtain ⟨_, _, _, _, o, _, _, e, ex, _⟩ := I.hok p _ hk
          exact ⟨o, e, ex⟩
      obtain ⟨o, e, ex⟩ := z
      refine ⟨⟨o, e, ex.1⟩, fun a e2 => ?_⟩
      cases e2
      exact ⟨o, e, ex.2.1⟩
    · obtain ⟨o, _, _, _, e, ex, _⟩ := I.hok p _ hk
      refine ⟨⟨o, e, ex.1⟩, fun a e2 => ?_⟩
      cases e2
      exact ⟨o, e, ex.2.1⟩
  | _ => exact False.elim ty
def tBM0 (K : PySem.W.Frag) (T : String) (r : V → List V → Hp → VK → Prop) (to : TE) : TE := fun σ H Q => to σ H fun x H1 => tyV K T x H1 ∧ r x [] H1 Q
def tBM (K : PySem.W.Frag) (T : String) (r : V → List V → Hp → VK → Prop) (to : TE) (t : TA) : TE := fun σ H Q => to σ H fun x H1 => tyV K T x H1 ∧ t σ H1 fun xs H2 => r x xs H2 Q
variable {o e : Expr} {es : List Expr} {to : TE} {t : TA} {name : Str} {apos cpos : Pos} {T id : String} {r : V → List V → Hp → VK → Prop}
theorem pe_bm0 (pa : PlainAttrs T) (slot : Slot T name id) (hty : typeOf (.builtin id) = pure (.type "method_descriptor")) (hm : MtR X id r) (ho : PE X o to)
    (hbase : attributeBase o name X.env (eval o X.env) = eval o X.env := by rfl) (hline : (apos.endLine == cpos.line) = true := by rfl) : PE X (.Call (.Attribute o name apos) [] [] cpos) (tBM0 X.K T r to) := by
  intro pins s σ H Q I h
  refine wpAny_Call_method0_late hbase hline (thn (ho pins s σ H _ I h) fun v s1 ⟨x, H1, I1, r1, ty, q1⟩ => ?_)
  obtain ⟨h1, h2⟩ := tyV_is I1 r1 ty
  exact ⟨T, id, pa, slot, hty, h1, h2, Calls.callWith_builtin rfl (PySem.evalArgs_none (hm pins s1 σ H1 x [] v [] Q I1 r1 .nil q1))⟩
theorem pe_bm (pa : PlainAttrs T) (slot : Slot T name id) (hty : typeOf (.builtin id) = pure (.type "method_descriptor")) (hm : MtR X id r) (ho : PE X o to) (ha : PA X (e :: es) t)
    (hbase : attributeBase o name X.env (eval o X.env) = eval o X.env := by rfl)
    (hfew : ((backTo cpos (starEach (e :: es) X.env)).all (fun x => !x.1) && (backToKw cpos (keywordEach [] X.env)).all (fun x => x.1.isSome)
      && decide ((e :: es).length + ([] : List Keyword).length + (if ([] : List Keyword).isEmpty then 0 else 1) < 30)) = true := by rfl)
    (hline : (apos.endLine == cpos.line) = true := by rfl) (hs : starEach (e :: es) X.env = (false, eval e X.env) :: starEach es X.env := by rfl) (hplain : (backTo cpos (starEach es X.env)).any (·.1) = false := by rfl) :
    PE X (.Call (.Attribute o name apos) (e :: es) [] cpos) (tBM X.K T r to t) := by
  intro pins s σ H Q I h
  refine wpAny_Call_method_late hbase hfew hline rfl (thn (ho pins s σ H _ I h) fun v s1 ⟨x, H1, I1, r1, ty, q1⟩ => ?_)
  obtain ⟨h1, h2⟩ := tyV_is I1 r1 ty
  refine ⟨T, id, pa, slot, hty, h1, h2, ?_⟩
  have hA := ha cpos pins s1 σ H1 _ I1 q1
  rw [hs] at hA ⊢
  refine Calls.callWith_builtin (by show (false || (backTo cpos (starEach es X.env)).any (·.1)) = false; rw [hplain] <;> rfl) (Calls.evalArgs_plain ?_)
  exact thn hA fun us s2 ⟨vs, H2, I2, r2, q2⟩ => hm pins s2 σ H2 x vs v us Q I2 r1 r2 q2
end
end L2
namespace L2
open PySem PySem.Spec PyProof.Rows
def MtM (X : Cx) (id : String) (r : V → List V → Hp → VK → Prop) : Prop :=
  ∀ (pins : List (Addr × Obj)) (s : Shared) (σ : St) (H : Hp) (x : V) (xs : List V) (v : Value) (us : List Value) (Q : VK), Inv X pins σ H s → RelV x v → Vals xs us → r x xs H Q →
    wpAny (model X.prog X.w) X.A (call (.builtin id) (v :: us)) (EP X pins σ Q) X.xe s
theorem Vals.one : ∀ {x : V} {us : List Value}, Vals [x] us → ∃ u, us = [u] ∧ RelV x u
  | _, _, .cons r .nil => ⟨_, rfl, r⟩
theorem Vals.two : ∀ {x y : V} {us : List Value}, Vals [x, y] us → ∃ u v, us = [u, v] ∧ RelV x u ∧ RelV y v
  | _, _, _, .cons r (.cons q .nil) => ⟨_, _, rfl, r, q⟩
theorem Vals.zero : ∀ {us : List Value}, Vals [] us → us = []
  | _, .nil => rfl
theorem Vals.dropLast {xs : List V} {us : List Value} (h : Vals xs us) : Vals xs.dropLast us.dropLast := by
  induction h with
  | nil => exact .nil
  | cons r t ih =>
    cases t with
    | nil => exact .nil
    | cons q t' => exact .cons r ih
theorem Vals.eraseIdx : ∀ {xs : List V} {us : List Value} (i : Nat), Vals xs us → Vals (xs.eraseIdx i) (us.eraseIdx i)
  | _, _, _, .nil => .nil
  | _, _, 0, .cons _ t => t
  | _, _, i + 1, .cons r t => .cons r (Vals.eraseIdx i t)
theorem Vals.reverse {xs : List V} {us : List Value} (h : Vals xs us) : Vals xs.reverse us.reverse := by
  induction h with
  | nil => exact .nil
  | cons r t ih => rw [List.reverse_cons, List.reverse_cons]; exact Vals.append ih (.cons r .nil)
theorem erase_last {α : Type} (l : List α) : l.eraseIdx (l.length - 1) = l.dropLast := by
  induction l with
  | nil => rfl
  | cons a r ih =>
    cases r with
    | nil => rfl
    | cons b r =>
      have e : (a :: b :: r).length - 1 = ((b :: r).length - 1) + 1 := by
        have h1 : (a :: b :: r).length = r.length + 2 := rfl
        have h2 : (b :: r).length = r.length + 1 := rfl
        omega
      rw [e, List.eraseIdx_cons_succ, ih]
      all_goals rfl
section
variable {X : Cx} {pins : List (Addr × Obj)} {σ : St} {H : Hp} {s : Shared} {l b : Addr} {xs ys zs : List V}
theorem Inv.lset {its its' : List Value} {n : Nat} {f : Array Value → Array Value} {t' : Nat} (I : Inv X pins σ H s) (hH : H l = some (.lst xs))
    (e : s.heap.get? l = some { cls := .type "list", data := .seq its.toArray n }) (hf : f its.toArray = its'.toArray) (hv : Vals ys its') (hz : ys.length ≤ sizeLine) :
    Inv X pins σ (upd H l (.lst ys)) { s with heap := s.heap.update l (Obj.mapSeq f), toks := t' } := by
  have q := PySem.IsL.update e f
  rw [hf] at q
  refine I.write (x := l) (e := l) (by rw [hH]; exact trivial) (.inl rfl) (fun b' u hb hu => (Heap.get?_update_other s.heap (Obj.mapSeq f) (Ne.symm hb)).trans hu) ⟨_, q⟩ ?_
  exact ⟨hz, its', _, hv, q⟩
theorem Inv.lnew {its : List Value} {t' : Nat} (I : Inv X pins σ H s) (hv : Vals ys its) (hz : ys.length ≤ sizeLine) :
    Inv X pins σ (upd H s.heap.objs.size (.lst ys)) { s with heap := s.heap.push { cls := .type "list", data := .seq its.toArray }, toks := t' } :=
  I.laid (fun _ _ q => Heap.get?_push_of_some _ q) (Nat.le_refl _) ⟨hz, its, 0, hv, Heap.get?_push_size _ rfl⟩
theorem Inv.fresh (I : Inv X pins σ H s) : H s.heap.objs.size = none := I.hok.fresh (Nat.le_refl _)
theorem Inv.lstM (I : Inv X pins σ H s) (hH : H l = some (.lst xs)) : xs.length ≤ sizeLine ∧ ∃ (its : List Value) (n : Nat), Vals xs its ∧ xs.length = its.length ∧ s.heap.get? l = some { cls := .type "list", data := .seq its.toArray n } := by
  obtain ⟨z, its, n, r, e⟩ := I.hok l _ hH
  exact ⟨z, its, n, r, r.length, e⟩
end
section
variable {X : Cx}
def rAppend : V → List V → Hp → VK → Prop := fun x vs H Q => ∃ l xs y, x = .ref l ∧ vs = [y] ∧ H l = some (.lst xs) ∧ xs.length < sizeLine ∧ Q .non (upd H l (.lst (xs ++ [y])))
theorem mt_append : MtM X "list.append" rAppend := by
  intro pins s σ H x vs v us Q I rx rv h
  obtain ⟨l, xs, y, rfl, rfl, hH, hz, q⟩ := h
  cases rx
  obtain ⟨u, rfl, ru⟩ := rv.one
  obtain ⟨z, its, n, r, hl, e⟩ := I.lstM hH
  refine call_meets F.slot_list_append ⟨_, e, rfl⟩ F.entry_list_append (F.args_list_append_2 _ _) (PySem.list_append l its.toArray n u (by rw [List.size_toArray]; omega)) ⟨e, ?_⟩
  refine ⟨.non, _, I.lset (its' := its ++ [u]) hH e (by simp) (r.append (.cons ru .nil)) ?_, rfl, q⟩
  rw [List.length_append, List.length_singleton]
  omega
def rPop : V → List V → Hp → VK → Prop := fun x vs H Q => ∃ l xs y, x = .ref l ∧ vs = [] ∧ H l = some (.lst xs) ∧ xs[xs.length - 1]? = some y ∧ Q y (upd H l (.lst xs.dropLast))
theorem mt_pop : MtM X "list.pop" rPop := by
  intro pins s σ H x vs v us Q I rx rv h
  obtain ⟨l, xs, y, rfl, rfl, hH, hy, q⟩ := h
  cases rx
  have hus := rv.zero
  subst hus
  obtain ⟨z, its, n, r, hl, e⟩ := I.lstM hH
  obtain ⟨u, hu, ru⟩ := r.get hy
  have hy' : its.toArray[its.toArray.size - 1]? = some u := by
    show its.toArray[its.length - 1]? = some u
    rw [← Array.getElem?_toList, ← hl]
    exact hu
  refine call_meets F.slot_list_pop ⟨_, e, rfl⟩ F.entry_list_pop (F.args_list_pop_1 _) (MeetsSeq.list_pop_last l its.toArray n u hy' (by rw [List.size_toArray]; omega)) ⟨e, ?_⟩
  refine ⟨y, _, I.lset (its' := its.dropLast) hH e ?_ r.dropLast ?_, ru, q⟩
  · show its.toArray.eraseIdxIfInBounds (its.toArray.size - 1) = its.dropLast.toArray
    rw [List.size_toArray, List.eraseIdxIfInBounds_toArray, erase_last]
  · rw [List.length_dropLast]
    omega
def rCat : R2 := fun x y H Q => ∃ l b xs zs, x = .ref l ∧ y = .ref b ∧ H l = some (.lst xs) ∧ H b = some (.lst zs) ∧ xs.length + zs.length ≤ sizeLine ∧ ∀ p, H p = none → Q (.ref p) (upd H p (.lst (xs ++ zs)))
theorem op_cat : OpR X (binaryOp .Add) rCat := by
  intro pins s σ H x y v u Q I rx ry h
  obtain ⟨l, b, xs, zs, rfl, rfl, hH, hB, hz, q⟩ := h
  cases rx
  cases ry
  obtain ⟨z, its, n, r, hl, e⟩ := I.lstM hH
  obtain ⟨z2, its2, n2, r2, hl2, e2⟩ := I.lstM hB
  refine PySem.P.add_list e e2 ?_ (by rw [List.size_toArray, List.size_toArray]; omega)
  have ea : its.toArray ++ its2.toArray = (its ++ its2).toArray := by simp
  rw [ea]
  exact ⟨.ref _, _, I.lnew (t' := s.toks) (r.append r2) (by rw [List.length_append]; omega), rfl, q _ I.fresh⟩
end
section
variable {prog : Program} {w : World} {A : Around} {E : Value → Shared → Prop} {s : Shared}
end
section
variable {X : Cx}
end
end L2
namespace Att
open PySem PySem.W PySem.Calls PyProof.Rows
theorem ints_of_wellAll {P : Params} {h : Heap} : ∀ (ns : List Int) (vs : List Value), WellAll P h vs (ns.map WData.int) → IntsAre vs ns := by
  intro ns
  induction ns with
  | nil =>
    intro vs w
    rw [List.map_nil] at w
    cases w
    exact .nil
  | cons n ns ih =>
    intro vs w
    rw [List.map_cons] at w
    cases w with
    | cons a b =>
      cases a
      exact .cons _ _ (ih _ b)
theorem script_of {l : OpenLaw} {n : Nat} (hn : l.most = some n) {P : Params} {h : Heap} {args : List WData} {vals : List Value}
    (hpre : l.row.toRowW.claim.pre args = true) (hwl : WellAll P h vals args) :
    ∃ a vs ns, vals = [Value.ref a] ∧ args = [WData.list (ns.map WData.int)] ∧ h.get? a = some { cls := .type "list", data := .seq vs.toArray } ∧ IntsAre vs ns ∧ ns.length ≤ n := by
  have hsh : WShape.hasAll [] args [.list .int] = true := (pre_splitW hpre).1
  have hc : l.pre.holds [] { args := args } = true := (pre_splitW hpre).2
  obtain ⟨d, r, rfl, h1, h2⟩ := hasAllW_cons hsh
  obtain rfl := hasAllW_nil h2
  obtain ⟨xs, rfl, h3⟩ := hasW_list h1
  obtain ⟨ns, rfl⟩ := items_int h3
  have hlen : ns.length ≤ n := by
    unfold OpenLaw.pre at hc
    have h4 : (WTm.not (.lt (.lit (.int (n : Int))) (.len (.arg 0)))).holds [] { args := [.list (ns.map .int)] } = true := by
      have h4 := (holds_andW hc).1
      rw [hn] at h4
      exact h4
    have h5 := condW_of h4 (w_not (w_lt w_lit (w_len_list (w_arg rfl))))
    rw [List.length_map] at h5
    refine Nat.le_of_not_lt fun q => ?_
    have q' : (n : Int) < ((ns.length : Nat) : Int) := by omega
    first
      | (rw [decide_eq_true q'] at h5; exact absurd h5 (by decide))
      | (simp at h5; omega)
  cases hwl with
  | cons w1 w2 =>
    cases w2
    cases w1 with
    | list ho hall => exact ⟨_, _, ns, rfl, rfl, ho, ints_of_wellAll ns _ hall, hlen⟩
theorem post_true (l : OpenLaw) (args : List WData) : l.row.toRowW.claim.post args (.bool true) args = true :=
  postW_of (r := l.row.toRowW) (X := (true == true))
    (show WShape.has [] (.bool true) .bool = true by first | rfl | decide | simp [WShape.has, WShape.arms, WShape.armsAll])
    (show (WTm.eq .res (.lit (.bool true))).value [] { args := args, res := some (.bool true), after := args } = some (.bool (true == true)) from w_eq_bool (w_res rfl) w_lit) rfl
theorem attach_call {l : OpenLaw} {n : Nat} {q : Program} {loose : List Str} {XP : (Str → Option Value) → Heap → Prop} {YP : World → Heap → Prop} {d : DefRec}
    (hn : l.most = some n) (hdf : d.params.defaults = [])
    (call : ∀ (w : World) (s₀ s₁ : Shared) (mg mb : Str → Option Value) (fa : Addr) (o : Obj) (pm cd doc : Value) (a : Addr) (vs : List Value) (ns : List Int),
      Ground q loose [] XP w s₀ mg mb s₁.heap → YP w s₁.heap →
      s₁.heap.get? fa = some o → o.data = .func (docDef d.name d.params d.body d.scope pm cd doc) → s₁.heap.CodeRec cd d.name → mg d.name = some (.ref fa) →
      s₁.heap.get? a = some { cls := .type "list", data := .seq vs.toArray } → IntsAre vs ns → ns.length ≤ n → s₁.gens = #[] →
      codeAny (model l.prog w) callerA (.call (.ref fa) ⟨[.ref a], []⟩) (fun r s' => r = .ok (.ret (.bool true)) ∧ OldK s₁.heap s'.heap ∧ s'.os = s₁.os ∧ AllBare s'.gens) s₁) :
    WalkO q loose XP YP l.row.toRowW d [] (fun f vs => PySem.call f vs) := by
  intro w s₀ s₁ mg mb G Y fa o pm cd doc dV kV ho hd hcd hD hmg hg args vals as hpre hlay hrd hwl hlo
  obtain rfl : dV = .none := Dflts.none hD hdf
  obtain rfl : kV = .none := Dflts.noKw hD
  obtain ⟨a, vs, ns, rfl, rfl, hobj, hints, hlen⟩ := script_of hn hpre hwl
  refine enter_call (codeAny_mono (call w s₀ s₁ mg mb fa o pm cd doc a vs ns G Y ho (fd_plain hd) hcd hmg hobj hints hlen hg) fun r s' hq => ?_)
  obtain ⟨rfl, h2, h3, h4⟩ := hq
  exact ⟨.inl ⟨.bool true, .bool true, [], rfl, fun _ => rfl, .bool true, post_true l _, fun _ => ⟨List.Pairwise.nil, fun _ hm => (nomatch hm)⟩⟩, h2, h3, h4⟩
section
variable {prog : Program} {w : World} {A : Around} {E : Value → Shared → Prop} {s : Shared} {K : Frag}
def ledger (h : Heap) (L d : Addr) : List (Addr × Obj) := (List.range h.objs.size).filterMap fun a => if a = L ∨ a = d then none else (h.get? a).map fun o => (a, o)
end
end Att
namespace L2
open PySem PySem.Spec PyProof.Rows
theorem vals_ints : ∀ {vs : List Value} {ns : List Int}, IntsAre vs ns → Vals (ns.map V.int) vs
  | _, _, .nil => .nil
  | _, _, .cons n t h => .cons ⟨t, rfl⟩ (vals_ints h)
def Only (H : Hp) : Prop := ∀ b, H b = none ∨ ∃ o xs, H b = some (.frz o (.lst xs))
theorem law_call {P : Program} {w : World} {K : PySem.W.Frag} {mg mb : Str → Option Value} {CX : CXT} {k : Nat} {fa a : Addr} {fd : FuncData} {x : Str} {sp : Sp} {s₁ : Shared} {vs : List Value} {ns : List Int}
    (KX : K.In s₁.heap) (hns : s₁.heap.Ns mainGlobals mg) (hb : s₁.heap.Ns builtinsNs mb) (hbb : ∀ x : Str, x ≠ "__name__" → mb x = bootBuiltins x) (hlim : s₁.heap.NoLimit) (hg : s₁.gens = #[])
    (ha : s₁.heap.get? a = some { cls := .type "list", data := .seq vs.toArray }) (hi : IntsAre vs ns) (hl : ns.length ≤ sizeLine) (hr : Room k callerA)
    (F : ∀ base : Heap, K.In base → base.Ns mainGlobals mg → FnOk P w K mg base CX k fa fd [x] sp) (hbind : ∀ (s : Shared) (u : Value), BindsTo s fd ⟨[u], []⟩ [(x, u)])
    (hsp : ∀ H : Hp, Only H → SqL K H a (ns.map V.int) → sp [.ref a] H (fun v _ => v = .bl true) fun _ _ _ => False)
    (hCX : ∀ H e s', CX [] H s₁ (fun _ _ _ => False) e s' → False) :
    codeAny (model P w) callerA (.call (.ref fa) ⟨[.ref a], []⟩) (fun r s' => r = .ok (.ret (.bool true)) ∧ OldK s₁.heap s'.heap ∧ s'.os = s₁.os ∧ AllBare s'.gens) s₁ := by
  have rv := vals_ints hi
  have lenV := hi.length
  have core : ∀ H : Hp, Only H → SqL K H a (ns.map V.int) → HOk P w H s₁.heap → (∀ b, H b ≠ none → b = a) → (H a ≠ none → K.lookup a = none) →
      codeAny (model P w) callerA (.call (.ref fa) ⟨[.ref a], []⟩) (fun r s' => r = .ok (.ret (.bool true)) ∧ OldK s₁.heap s'.heap ∧ s'.os = s₁.os ∧ AllBare s'.gens) s₁ := by
    intro H hO hS hok hA hK
    have base_of : ∀ {b : Addr} {o : Obj}, s₁.heap.get? b = some o → H b = none → (hidT s₁.heap H).get? b = some o := fun e n => hidT_get e n
    have noA : ∀ {b : Addr} {o : Obj} {es : Array DictEntry} {ep : Nat}, s₁.heap.get? b = some o → o.data = .dict es ep → H b = none := fun {b o es ep} e d => by
      cases q : H b with
      | none => rfl
      | some u =>
        have e' : b = a := hA b (by rw [q]; simp)
        subst e'
        rw [ha] at e; cases e
        have d' : Data.seq vs.toArray _ = Data.dict es ep := d
        cases d'
    have nsK : ∀ {b : Addr} {m : Str → Option Value}, s₁.heap.Ns b m → (hidT s₁.heap H).Ns b m := fun {b m} ⟨o, es, ep, e, d, r⟩ => ⟨o, es, ep, base_of e (noA e d), d, r⟩
    have hKb : K.In (hidT s₁.heap H) := fun b o e => base_of (KX b o e) (by
      cases q : H b with
      | none => rfl
      | some u =>
        have e' : b = a := hA b (by rw [q]; simp)
        subst e'
        rw [hK (by rw [q]; simp)] at e; cases e)
    have hM : Mod K mg (hidT s₁.heap H) := ⟨hKb, nsK hns, ⟨mb, nsK hb, hbb⟩, let ⟨mc, h1, h2⟩ := hlim; ⟨mc, nsK h1, h2⟩⟩
    have e0 : Env0 P w K mg (hidT s₁.heap H) callerA [] s₁ H := ⟨rfl, hM, fun b o e => of_hidT e, Nat.le_of_eq (hidT_size _ _), trivial, fun b hb => absurd (show b ∈ ([] : List Addr) from hb) (by simp), hok, .of_eq hg⟩
    refine codeAny_mono ((F _ hKb (nsK hns)).run callerA [] s₁ H ⟨[.ref a], []⟩ [.ref a] [.ref a] _ _ hr e0 (hbind s₁ (.ref a)) (.cons rfl .nil) (hsp H hO hS)) fun r s' h => ?_
    cases r with
    | error e => exact (hCX H e s' h).elim
    | ok fl =>
      cases fl with
      | next => exact False.elim h
      | brk => exact False.elim h
      | cont => exact False.elim h
      | ret u =>
        obtain ⟨v, H', os, bare, un, hok', r', q⟩ := h
        have q' : v = .bl true := q
        subst q'
        obtain rfl : u = Value.bool true := r'
        refine ⟨rfl, OldK.of_keep fun b o e => ?_, os, bare⟩
        cases q : H b with
        | none => exact un.keep b o e q (by intro z; exact absurd (show b ∈ ([] : List Addr) from z) (by simp)) (by simp)
        | some u =>
          rcases hO b with z | ⟨ob, xs, z⟩
          · rw [q] at z; cases z
          · have z2 := un.frzs b ob _ z
            obtain ⟨e1, _⟩ := hok b _ z
            obtain ⟨e2, _⟩ := hok' b _ z2
            rw [e] at e1; cases e1
            exact e2
  cases hk : K.lookup a with
  | some o =>
    have e := KX a o hk
    rw [ha] at e
    cases e
    refine core (fun _ => none) (fun _ => .inl rfl) (.inr ⟨_, vs.toArray, _, hk, rfl, rfl, rfl, by rw [List.size_toArray, lenV]; exact hl, by simpa using rv⟩) (fun b u z => by have z' : (none : Option HO) = some u := z; cases z') (fun b z => absurd rfl z) fun z => absurd rfl z
  | none =>
    refine core (fun b => if b = a then some (.frz { cls := .type "list", data := .seq vs.toArray } (.lst (ns.map V.int))) else none) (fun b => ?_) (.inl (.inr ⟨{ cls := .type "list", data := .seq vs.toArray }, if_pos rfl⟩)) (fun b u z => ?_) (fun b z => ?_) fun _ => hk
    · by_cases hb : b = a
      · exact .inr ⟨_, _, if_pos hb⟩
      · exact .inl (if_neg hb)
    · by_cases hb : b = a
      · have z' := (if_pos hb).symm.trans z
        cases z'
        subst hb
        exact ⟨ha, by rw [List.length_map]; exact hl, vs, _, rv, ha⟩
      · have z' := (if_neg hb).symm.trans z
        cases z'
    · by_cases hb : b = a
      · exact hb
      · exact absurd (if_neg hb) z
end L2
namespace L2
open PySem PySem.Spec PyProof.Rows
theorem walk_of {l : PySem.W.OpenLaw} {n k : Nat} {q : Program} {loose : List Str} {XP : (Str → Option Value) → Heap → Prop} {YP : World → Heap → Prop} {d : DefRec} {K : Params → PySem.W.Frag} {CX : World → CXT} {sp : World → Sp} {x : Str}
    (hn : l.most = some n) (hn2 : n ≤ sizeLine) (hdf : d.params.defaults = []) (hr : Room k callerA)
    (hY : ∀ (w : World) (h : Heap), YP w h → (K w.params).In h)
    (F : ∀ (w : World) (mg : Str → Option Value) (fa : Addr) (h : Heap), (K w.params).In h → h.Ns mainGlobals mg → mg d.name = some (.ref fa) →
      ∃ fd : FuncData, (∀ (s : Shared) (u : Value), BindsTo s fd ⟨[u], []⟩ [(x, u)]) ∧
        ∀ base : Heap, (K w.params).In base → base.Ns mainGlobals mg → FnOk l.prog w (K w.params) mg base (CX w) k fa fd [x] (sp w))
    (hsp : ∀ (w : World) (H : Hp) (a : Addr) (ns : List Int), ns.length ≤ n → Only H → SqL (K w.params) H a (ns.map V.int) → sp w [.ref a] H (fun v _ => v = .bl true) fun _ _ _ => False)
    (hCX : ∀ (w : World) (H : Hp) (s : Shared) (e : Value) (s' : Shared), CX w [] H s (fun _ _ _ => False) e s' → False) :
    PySem.W.WalkO q loose XP YP l.row.toRowW d [] (fun f vs => PySem.call f vs) := by
  refine Att.attach_call hn hdf fun w s₀ s₁ mg mb fa o pm cd doc a vs ns G Y ho hd hcd hmg hobj hints hlen hg => ?_
  have KX := hY w _ Y
  obtain ⟨fd, hb, hF⟩ := F w mg fa _ KX G.T.g hmg
  exact law_call KX G.T.g G.T.b G.T.builtins G.T.nolimit hg hobj hints (Nat.le_trans hlen hn2) hr hF hb (fun H hO hS => hsp w H a ns hlen hO hS) fun H e s' => hCX w H s₁ e s'
end L2
namespace L2
open PySem PySem.Spec PyProof.Rows
def inClass (s : Stmt) (j : Nat) : Stmt := match s with
  | .ClassDef _ _ _ body _ _ _ _ _ _ _ => body.getD j (.Pass ⟨0, 0, 0, 0⟩)
  | _ => .Pass ⟨0, 0, 0, 0⟩
def defArgs (s : Stmt) : Arguments := match s with
  | .FunctionDef _ a _ _ _ _ _ _ _ _ => a
  | _ => { posonlyargs := [], args := [], vararg := none, kwonlyargs := [], kw_defaults := [], kwarg := none, defaults := [] }
def defBody (s : Stmt) : List Stmt := match s with
  | .FunctionDef _ _ b _ _ _ _ _ _ _ => b
  | _ => []
def defScope (s : Stmt) : Scope := match s with
  | .FunctionDef _ _ _ _ _ _ sc _ _ _ => sc
  | _ => { kind := .function, names := [], isGenerator := false, isCoroutine := false }
abbrev CX0 : CXT := fun _ _ _ _ _ _ => False
abbrev E0 : XK := fun _ _ _ => False
theorem pass0 {X : Cx} : Passes CX0 X E0 := fun _ _ _ _ _ _ _ h => h.elim
structure Fun (K : PySem.W.Frag) (x qual : Str) (st : Stmt) (f : Addr) (fd : FuncData) : Prop where
  ex : ∃ (oc : Value) (od : Option Addr) (kV doc pm : Value) (an : Option Addr) (cdv ct : Value) (osl : Array (Option Value)),
    fd = PySem.W.fnOf x qual (defArgs st) (defBody st) (defScope st) .none kV doc pm an cdv ct ∧ K.lookup f = some ⟨oc, od, .func fd, osl⟩ ∧ PySem.W.codeIn K cdv qual = true
  kp : PySem.W.keepIn K (.ref f) = true
section
variable {P : Program} {w : World} {K : PySem.W.Frag} {mg : Str → Option Value} {base : Heap}
theorem Fun.ok {x qual : Str} {st : Stmt} {f : Addr} {fd : FuncData} {N ps : List Str} {k : Nat} {sp : Sp} (F : Fun K x qual st f fd) (S : FnScope N ps (defScope st)) (len : ∀ vs H Q E, sp vs H Q E → vs.length = ps.length)
    (hbody : ∀ (cdv : Value) (A : Around) (outer : List Env) (s : Shared) (H : Hp) (vs : List V) (Q : VK) (E : XK), Room k (A.deeper (envOfC qual (defScope st) s.heap.objs.size f cdv)) → sp vs H Q E →
      ∃ t, PSs (cxOf CX0 P w K mg base N qual (defScope st) f cdv A outer s H E).nox (defBody st) t ∧ t { nx := fun _ H' => Q .non H', rt := Q } (start N vs) H) : FnOk P w K mg base CX0 (k + 1) f fd ps sp := by
  obtain ⟨oc, od, kV, doc, pm, an, cdv, ct, osl, rfl, lk, hcd⟩ := F.ex
  refine fn_of lk hcd S len fun A outer s H vs Q E hr hsp => ?_
  obtain ⟨t, h, q⟩ := hbody cdv A outer s H vs Q E hr hsp
  exact ⟨t, h.nox, q⟩
theorem Fun.binds {x qual : Str} {st : Stmt} {f : Addr} {fd : FuncData} {ps : List Str} (F : Fun K x qual st f fd)
    (h : ∀ (kV doc pm : Value) (an : Option Addr) (cdv ct : Value) (us : List Value), us.length = ps.length → bindArgs (PySem.W.fnOf x qual (defArgs st) (defBody st) (defScope st) .none kV doc pm an cdv ct) ⟨us, []⟩ = pure (ps.zip us)) : Binds K fd ps [] := by
  obtain ⟨oc, od, kV, doc, pm, an, cdv, ct, osl, rfl, lk, hcd⟩ := F.ex
  exact .all (h kV doc pm an cdv ct)
theorem fun_mk {x qual : Str} {st : Stmt} {f : Addr} {oc : Value} {od an : Option Addr} {osl : Array (Option Value)} {kV doc pm cdv ct : Value} (l : K.lookup f = some ⟨oc, od, .func (PySem.W.fnOf x qual (defArgs st) (defBody st) (defScope st) .none kV doc pm an cdv ct), osl⟩)
    (c : PySem.W.codeIn K cdv qual = true) (k : PySem.W.keepIn K (.ref f) = true) : Fun K x qual st f (PySem.W.fnOf x qual (defArgs st) (defBody st) (defScope st) .none kV doc pm an cdv ct) := ⟨⟨oc, od, kV, doc, pm, an, cdv, ct, osl, rfl, l, c⟩, k⟩
end
theorem hu_of {A : Around} {k : Nat} (hr : Room k A) : A.units + 1 < cLine := Nat.lt_of_le_of_lt (Nat.add_le_add_left (by decide : 1 ≤ 64) _) hr.units
theorem small1000 {n : Nat} (h : n ≤ 1000) : n < sizeLine := Nat.lt_of_le_of_lt h (by decide)
section
variable {X : Cx}
theorem pv (i : Nat) {x : Str} {pos : Pos} (hN : X.N[i]? = some x := by rfl) (hv : Vis X.env.scope x := by first | exact Or.inl rfl | exact Or.inr (Or.inl rfl) | exact Or.inr (Or.inr rfl)) (hd : (x == ("__debug__" : Str)) = false := by decide)
    (hcd : (x == ("__classdict__" : Str)) = false := by decide) : PE X (.Name x pos) (tVar i) := pe_var hN hv hd hcd
end
theorem ite2 {c A B : Prop} [Decidable c] (h1 : c → A) (h2 : ¬ c → B) : if c then A else B := by
  by_cases h : c
  · rw [if_pos h]
    exact h1 h
  · rw [if_neg h]
    exact h2 h
def Same (H H' : Hp) : Prop := ∀ b o, H b = some o → H' b = some o
theorem Same.refl (H : Hp) : Same H H := fun _ _ h => h
theorem Same.trans {H H1 H2 : Hp} (a : Same H H1) (b : Same H1 H2) : Same H H2 := fun c o h => b c o (a c o h)
theorem Same.free {H H' : Hp} (e : Same H H') {l : Addr} (h : H' l = Option.none) : H l = Option.none := by
  cases q : H l with
  | none => rfl
  | some o =>
    rw [e l o q] at h
    cases h
theorem Same.seq {K : PySem.W.Frag} {H H' : Hp} {a : Addr} {xs : List V} (e : Same H H') (h : SqL K H a xs) : SqL K H' a xs := by
  rcases h with (h | ⟨o, h⟩) | h
  · exact .inl (.inl (e _ _ h))
  · exact .inl (.inr ⟨o, e _ _ h⟩)
  · exact .inr h
end L2
namespace L2
open PySem PySem.Spec PyProof.Rows
section
variable {κ : Type} [DecidableEq κ]
def valV (kvs : List (κ × V)) (k : κ) : Option V := (kvs.find? fun kv => decide (kv.1 = k)).map (·.2)
def putK (kvs : List (κ × V)) (k : κ) (v : V) : List (κ × V) :=
  if (kvs.any fun kv => decide (kv.1 = k)) = true then kvs.map (fun kv => if kv.1 = k then (kv.1, v) else kv) else kvs ++ [(k, v)]
def dropK (kvs : List (κ × V)) (k : κ) : List (κ × V) := kvs.filter fun kv => decide (kv.1 ≠ k)
theorem valV_pos {p : κ × V} {r : List (κ × V)} {k : κ} (e : p.1 = k) : valV (p :: r) k = some p.2 := by simp [valV, List.find?_cons, e]
theorem valV_neg {p : κ × V} {r : List (κ × V)} {k : κ} (e : ¬ p.1 = k) : valV (p :: r) k = valV r k := by simp [valV, List.find?_cons, e]
theorem valV_any (k : κ) : ∀ kvs : List (κ × V), (kvs.any fun kv => decide (kv.1 = k)) = (valV kvs k).isSome
  | [] => rfl
  | p :: r => by
    rw [List.any_cons]
    by_cases e : p.1 = k
    · simp only [valV_pos e, decide_eq_true e, Bool.true_or, Option.isSome_some]
    · rw [valV_neg e, decide_eq_false e, Bool.false_or]; exact valV_any k r
theorem valV_map (k j : κ) (y : V) : ∀ kvs : List (κ × V), valV (kvs.map fun kv => if kv.1 = k then (kv.1, y) else kv) j = (valV kvs j).map fun x => if j = k then y else x
  | [] => rfl
  | p :: r => by
    have ih := valV_map k j y r
    rw [List.map_cons]
    by_cases h : p.1 = k
    · rw [if_pos h]
      by_cases e : p.1 = j
      · rw [valV_pos (p := (p.1, y)) e, valV_pos e, Option.map_some, if_pos (e.symm.trans h)]
      · rw [valV_neg (p := (p.1, y)) e, valV_neg e, ih]
    · rw [if_neg h]
      by_cases e : p.1 = j
      · rw [valV_pos (p := p) e, valV_pos e, Option.map_some, if_neg (fun z => h (e.trans z))]
      · rw [valV_neg (p := p) e, valV_neg e, ih]
theorem valV_snoc (k j : κ) (y : V) : ∀ kvs : List (κ × V), valV kvs k = none → valV (kvs ++ [(k, y)]) j = if j = k then some y else valV kvs j
  | [], _ => by
    by_cases e : k = j
    · rw [if_pos e.symm]; exact valV_pos (p := (k, y)) e
    · rw [if_neg (fun z => e z.symm)]; exact valV_neg (p := (k, y)) e
  | p :: r, hn => by
    rw [List.cons_append]
    have hk : ¬ p.1 = k := fun z => by rw [valV_pos z] at hn; cases hn
    rw [valV_neg hk] at hn
    have ih := valV_snoc k j y r hn
    by_cases e : p.1 = j
    · rw [valV_pos e, valV_pos e, if_neg (fun z => hk (e.trans z))]
    · rw [valV_neg e, valV_neg e, ih]
theorem valV_put (kvs : List (κ × V)) (k j : κ) (y : V) : valV (putK kvs k y) j = if j = k then some y else valV kvs j := by
  unfold putK
  by_cases a : (kvs.any fun kv => decide (kv.1 = k)) = true
  · rw [if_pos a, valV_map]
    rw [valV_any] at a
    by_cases e : j = k
    · obtain ⟨x, hx⟩ := Option.isSome_iff_exists.mp a
      rw [if_pos e, e, hx, Option.map_some, if_pos rfl]
    · rw [if_neg e]
      cases valV kvs j with
      | none => rfl
      | some x => rw [Option.map_some, if_neg e]
  · rw [if_neg a]
    refine valV_snoc k j y kvs ?_
    rw [valV_any] at a
    cases q : valV kvs k with
    | none => rfl
    | some x => rw [q] at a; exact (a rfl).elim
theorem length_putK (kvs : List (κ × V)) (k : κ) (v : V) : (putK kvs k v).length ≤ kvs.length + 1 := by
  unfold putK
  split
  · rw [List.length_map]; omega
  · rw [List.length_append, List.length_cons, List.length_nil]; omega
theorem RelO.isSome_eq {o : Option V} {u : Option Value} (r : RelO o u) : o.isSome = u.isSome := by
  cases o with
  | none => cases u with
    | none => rfl
    | some _ => exact (show False from r).elim
  | some _ => cases u with
    | none => exact (show False from r).elim
    | some _ => rfl
theorem RelO.getD {o : Option V} {u : Option Value} {d : V} {d' : Value} (r : RelO o u) (rd : RelV d d') : RelV (o.getD d) (u.getD d') := by
  cases o with
  | none => cases u with
    | none => exact rd
    | some _ => exact (show False from r).elim
  | some _ => cases u with
    | none => exact (show False from r).elim
    | some _ => exact r
theorem KV.val {kvs : List (κ × V)} {vs : List (κ × Value)} (r : KV kvs vs) (k : κ) : RelO (valV kvs k) (valueAt vs k) := by
  unfold KV at r
  induction r with
  | nil => exact True.intro
  | @cons p q ps qs h t ih =>
    obtain ⟨h1, h2⟩ := h
    by_cases e : p.1 = k
    · have e' : q.1 = k := h1.symm.trans e
      have b : valueAt (q :: qs) k = some q.2 := by simp [valueAt, List.find?_cons, e']
      rw [valV_pos e, b]; exact h2
    · have e' : ¬ q.1 = k := fun z => e (h1.trans z)
      have b : valueAt (q :: qs) k = valueAt qs k := by simp [valueAt, List.find?_cons, e']
      rw [valV_neg e, b]; exact ih
theorem KV.any {kvs : List (κ × V)} {vs : List (κ × Value)} (r : KV kvs vs) (k : κ) : (kvs.any fun kv => decide (kv.1 = k)) = vs.any fun kv => decide (kv.1 = k) := by
  unfold KV at r
  induction r with
  | nil => rfl
  | cons h t ih => rw [List.any_cons, List.any_cons, ih, h.1]
theorem KV.repl {kvs : List (κ × V)} {vs : List (κ × Value)} (r : KV kvs vs) (k : κ) {y : V} {u : Value} (ry : RelV y u) :
    KV (kvs.map fun kv => if kv.1 = k then (kv.1, y) else kv) (vs.map fun kv => if kv.1 = k then (kv.1, u) else kv) := by
  unfold KV at r ⊢
  induction r with
  | nil => exact .nil
  | @cons p q ps qs h t ih =>
    rw [List.map_cons, List.map_cons]
    refine .cons ?_ ih
    obtain ⟨h1, h2⟩ := h
    by_cases e : p.1 = k
    · rw [if_pos e, if_pos (h1.symm.trans e)]; exact ⟨h1, ry⟩
    · rw [if_neg e, if_neg (fun z => e (h1.trans z))]; exact ⟨h1, h2⟩
theorem KV.put {kvs : List (κ × V)} {vs : List (κ × Value)} (r : KV kvs vs) (k : κ) {y : V} {u : Value} (ry : RelV y u) : KV (putK kvs k y) (stored vs k u) := by
  unfold putK stored
  rw [r.any k]
  by_cases e : (vs.any fun kv => decide (kv.1 = k)) = true
  · rw [if_pos e, if_pos e]; exact r.repl k ry
  · rw [if_neg e, if_neg e]; exact Paired.snoc r ⟨rfl, ry⟩
theorem KV.drop {kvs : List (κ × V)} {vs : List (κ × Value)} (r : KV kvs vs) (k : κ) : KV (dropK kvs k) (without vs k) := by
  unfold KV at r ⊢
  unfold dropK without
  induction r with
  | nil => exact .nil
  | @cons p q ps qs h t ih =>
    obtain ⟨h1, h2⟩ := h
    rw [List.filter_cons, List.filter_cons]
    by_cases e : p.1 = k
    · have a : ¬ decide (p.1 ≠ k) = true := by simp [e]
      have b : ¬ decide (q.1 ≠ k) = true := by simp [h1.symm.trans e]
      rw [if_neg a, if_neg b]; exact ih
    · have e' : ¬ q.1 = k := fun z => e (h1.trans z)
      have a : decide (p.1 ≠ k) = true := by simp [e]
      have b : decide (q.1 ≠ k) = true := by simp [e']
      rw [if_pos a, if_pos b]; exact .cons ⟨h1, h2⟩ ih
theorem KV.keys {kvs : List (κ × V)} {vs : List (κ × Value)} (r : KV kvs vs) : kvs.map (·.1) = vs.map (·.1) := by
  unfold KV at r
  induction r with
  | nil => rfl
  | cons h t ih => rw [List.map_cons, List.map_cons, ih, h.1]
theorem KV.length {kvs : List (κ × V)} {vs : List (κ × Value)} (r : KV kvs vs) : kvs.length = vs.length := Paired.length r
end
theorem kV_is {P : Program} {w : World} {k : Key} {u : Value} (r : RelV (kV k) u) : (mixKind P w).is k u = true := by
  cases k with
  | inl i => obtain ⟨t, e⟩ := (show ∃ t, u = Value.int i t from r); subst e; exact mixKind_int P w i t
  | inr x => obtain ⟨t, e⟩ := (show ∃ t, u = Value.str x t from r); subst e; exact mixKind_str P w x t
theorem items_are {P : Program} {w : World} : ∀ {ks : List Key} {us : List Value}, Vals (ks.map kV) us → ItemsAre (mixKind P w) ks us
  | [], _, r => by rw [List.map_nil] at r; cases r; exact .nil
  | k :: ks, _, r => by
    rw [List.map_cons] at r
    cases r with
    | cons h t => exact .cons (kV_is h) (items_are t)
abbrev KT (H : Hp) : List (List Key × V) → List (List Key × Addr × Value) → Prop := Paired fun p q => p.1 = q.1 ∧ H q.2.1 = some (.tup (p.1.map kV)) ∧ RelV p.2 q.2.2
theorem KT.val {H : Hp} {kvs : List (List Key × V)} {xs : List (List Key × Addr × Value)} (r : KT H kvs xs) (k : List Key) : RelO (valV kvs k) ((atKey xs k).map (·.2)) := by
  induction r with
  | nil => exact True.intro
  | @cons p q ps qs h t ih =>
    obtain ⟨h1, _, h2⟩ := h
    by_cases e : p.1 = k
    · have e' : q.1 = k := h1.symm.trans e
      have b : atKey (q :: qs) k = some q.2 := by simp [atKey, List.find?_cons, e']
      rw [valV_pos e, b]; exact h2
    · have e' : ¬ q.1 = k := fun z => e (h1.trans z)
      have b : atKey (q :: qs) k = atKey qs k := by simp [atKey, List.find?_cons, e']
      rw [valV_neg e, b]; exact ih
theorem KT.repl {H : Hp} {kvs : List (List Key × V)} {xs : List (List Key × Addr × Value)} (r : KT H kvs xs) (k : List Key) {y : V} {u : Value} (ry : RelV y u) :
    KT H (kvs.map fun kv => if kv.1 = k then (kv.1, y) else kv) (xs.map (putAt k u)) := by
  induction r with
  | nil => exact .nil
  | @cons p q ps qs h t ih =>
    rw [List.map_cons, List.map_cons]
    refine .cons ?_ ih
    obtain ⟨h1, h2, h3⟩ := h
    unfold putAt
    by_cases e : p.1 = k
    · rw [if_pos e, if_pos (h1.symm.trans e)]; exact ⟨h1, h2, ry⟩
    · rw [if_neg e, if_neg (fun z => e (h1.trans z))]; exact ⟨h1, h2, h3⟩
theorem KT.put {H : Hp} {kvs : List (List Key × V)} {xs : List (List Key × Addr × Value)} (r : KT H kvs xs) (k : List Key) {b : Addr} {y : V} {u : Value} (hb : H b = some (.tup (k.map kV))) (ry : RelV y u) :
    KT H (putK kvs k y) (storedH xs k b u) := by
  have e : (kvs.any fun kv => decide (kv.1 = k)) = (atKey xs k).isSome := by
    rw [valV_any, (r.val k).isSome_eq, Option.isSome_map]
  unfold putK storedH
  rw [e]
  by_cases q : (atKey xs k).isSome = true
  · rw [if_pos q, if_pos q]; exact r.repl k ry
  · rw [if_neg q, if_neg q]; exact Paired.snoc r ⟨rfl, hb, ry⟩
theorem KT.keeps {H H' : Hp} {kvs : List (List Key × V)} {xs : List (List Key × Addr × Value)} (r : KT H kvs xs) (ht : ∀ b ys, H b = some (.tup ys) → H' b = some (.tup ys)) : KT H' kvs xs :=
  Paired.mapP r fun _ _ z => ⟨z.1, ht _ _ z.2.1, z.2.2⟩
section
variable {P : Program} {w : World} {H : Hp} {h : Heap} {a : Addr}
theorem rd_of {u : HO} (ok : HOk P w H h) (e : Rd H a u) : ObjOk P w H h a u := e.ok ok
theorem dk_rd {kvs : List (Key × V)} (ok : HOk P w H h) (e : Rd H a (.dK kvs)) : kvs.length ≤ sizeLine ∧ (a == sysModules) = false ∧ ∃ vs, KV kvs vs ∧ h.DictOf (mixKind P w) a vs :=
  show ObjOk P w H h a (.dK kvs) from rd_of ok e
theorem dk_of {kvs : List (Key × V)} (ok : HOk P w H h) (e : H a = some (.dK kvs)) : kvs.length ≤ sizeLine ∧ (a == sysModules) = false ∧ ∃ vs, KV kvs vs ∧ h.DictOf (mixKind P w) a vs := dk_rd ok (.inl e)
theorem key_of {ks : List Key} (ok : HOk P w H h) (e : H a = some (.tup (ks.map kV))) : (tupleKind (mixKind P w)).is h ks a := by
  obtain ⟨_, its, r, ⟨o, h1, h2, n, h3⟩, _⟩ := (show ObjOk P w H h a (.tup (ks.map kV)) from ok a _ e)
  exact ⟨o, its.toArray, n, h1, h2, h3, by simpa using items_are r⟩
theorem dt_rd {kvs : List (List Key × V)} (ok : HOk P w H h) (e : Rd H a (.dT kvs)) : kvs.length ≤ sizeLine ∧ (a == sysModules) = false ∧
    ∃ xs, KT H kvs xs ∧ h.DictOfH (tupleKind (mixKind P w)) a xs := by
  obtain ⟨z, y, xs, r, o, es, ep, h1, h2, h3, h4, h5⟩ := (show ObjOk P w H h a (.dT kvs) from rd_of ok e)
  refine ⟨z, y, xs, r, o, es, ep, h1, h2, h3, h4, fun x hx => ?_, h5⟩
  have all : ∀ {l : List (List Key × V)} {m : List (List Key × Addr × Value)}, KT H l m → ∀ x ∈ m, (tupleKind (mixKind P w)).is h x.1 x.2.1 := by
    intro l m q
    induction q with
    | nil => intro x hx; exact nomatch hx
    | @cons p q ps qs hq t ih =>
      intro x hx
      rcases List.mem_cons.mp hx with e | hx
      · subst e
        exact key_of ok (by rw [← hq.1]; exact hq.2.1)
      · exact ih x hx
  exact all r x hx
theorem dt_of {kvs : List (List Key × V)} (ok : HOk P w H h) (e : H a = some (.dT kvs)) : kvs.length ≤ sizeLine ∧ (a == sysModules) = false ∧
    ∃ xs, KT H kvs xs ∧ h.DictOfH (tupleKind (mixKind P w)) a xs := dt_rd ok (.inl e)
end
def DGet (H : Hp) (a : Addr) (y : V) (r : Option V) : Prop :=
  (∃ kvs k, Rd H a (.dK kvs) ∧ y = kV k ∧ r = valV kvs k) ∨ ∃ kvs k b, Rd H a (.dT kvs) ∧ y = .ref b ∧ H b = some (.tup (k.map kV)) ∧ r = valV kvs k
def DPut (H : Hp) (a : Addr) (y v : V) (H' : Hp) : Prop :=
  (∃ kvs k, H a = some (.dK kvs) ∧ y = kV k ∧ kvs.length < sizeLine ∧ H' = upd H a (.dK (putK kvs k v))) ∨
  ∃ kvs k b, H a = some (.dT kvs) ∧ y = .ref b ∧ H b = some (.tup (k.map kV)) ∧ kvs.length < sizeLine ∧ H' = upd H a (.dT (putK kvs k v))
theorem DGet.k {H : Hp} {a : Addr} {kvs : List (Key × V)} {k : Key} (e : H a = some (.dK kvs)) : DGet H a (kV k) (valV kvs k) := .inl ⟨kvs, k, .inl e, rfl, rfl⟩
theorem DGet.t {H : Hp} {a b : Addr} {kvs : List (List Key × V)} {k : List Key} (e : H a = some (.dT kvs)) (eb : H b = some (.tup (k.map kV))) : DGet H a (.ref b) (valV kvs k) := .inr ⟨kvs, k, b, .inl e, rfl, eb, rfl⟩
theorem DPut.k {H : Hp} {a : Addr} {kvs : List (Key × V)} {k : Key} {v : V} (e : H a = some (.dK kvs)) (hl : kvs.length < sizeLine) : DPut H a (kV k) v (upd H a (.dK (putK kvs k v))) := .inl ⟨kvs, k, e, rfl, hl, rfl⟩
theorem DPut.t {H : Hp} {a b : Addr} {kvs : List (List Key × V)} {k : List Key} {v : V} (e : H a = some (.dT kvs)) (eb : H b = some (.tup (k.map kV))) (hl : kvs.length < sizeLine) :
    DPut H a (.ref b) v (upd H a (.dT (putK kvs k v))) := .inr ⟨kvs, k, b, e, rfl, eb, hl, rfl⟩
section
variable {X : Cx} {pins : List (Addr × Obj)} {σ : St} {H : Hp} {s : Shared} {a : Addr} {y v : V} {u r : Value} {o : Option V} {A : Around} {E : Value → Shared → Prop}
theorem Inv.big (I : Inv X pins σ H s) : sysModules < s.heap.objs.size := by
  have h : mainGlobals < s.heap.objs.size := (I.mod.glob.keeps I.bk).lt
  exact Nat.lt_trans (by decide) h
theorem d_getItem {Q : Value → Shared → Prop} (hu : A.units + 1 < cLine) (I : Inv X pins σ H s) (g : DGet H a y (some v)) (ry : RelV y u) (h : ∀ w' s', Inv X pins σ H s' → RelV v w' → Q w' s') :
    wpAny (model X.prog X.w) A (getItem (.ref a) u) Q E s := by
  rcases g with ⟨kvs, k, e, ey, l⟩ | ⟨kvs, k, b, e, ey, eb, l⟩
  · subst ey
    obtain ⟨z, hd, vs, rel, dd⟩ := dk_rd I.hok e
    obtain ⟨w', hw, rw'⟩ := RelO.some_of (v := v) (o := valueAt vs k) (by rw [l]; exact rel.val k)
    exact wpAny_getItem_of (kV_is ry) dd.mapOf hw (h w' _ (I.tok _) rw')
  · subst ey
    cases (show u = Value.ref b from ry)
    obtain ⟨z, hd, xs, rel, dd⟩ := dt_rd I.hok e
    obtain ⟨w', hw, rw'⟩ := RelO.some_of (v := v) (o := (atKey xs k).map (·.2)) (by rw [l]; exact rel.val k)
    obtain ⟨p, hp, hp2⟩ := Option.map_eq_some_iff.mp hw
    refine wpAny_getItem_heap (tupleKind_room_in1 hu) (key_of I.hok eb) dd hp ?_
    rw [hp2]
    exact h w' _ (I.tok _) rw'
theorem d_write {h' : Heap} {t' : Nat} {ob : HO} (I : Inv X pins σ H s) (mu : Mut (H a)) (hs : Heap.SameBut a s.heap h') (he : ∃ q, h'.get? a = some q) (new : ObjOk X.prog X.w (upd H a ob) h' a ob) :
    Inv X pins σ (upd H a ob) { s with heap := h', toks := t' } :=
  I.write (x := a) (e := a) mu (.inl rfl) (fun b q hb z => (hs.2 b hb).trans z) he new
theorem dk_new {P : Program} {w : World} {H' : Hp} {h' : Heap} {kvs : List (Key × V)} {vs : List (Key × Value)} (z : kvs.length ≤ sizeLine) (hd : (a == sysModules) = false) (rel : KV kvs vs) (dd : h'.DictOf (mixKind P w) a vs) :
    ObjOk P w H' h' a (.dK kvs) := ⟨z, hd, vs, rel, dd⟩
theorem d_setItem {H' : Hp} {Q : Unit → Shared → Prop} (hu : A.units + 1 < cLine) (I : Inv X pins σ H s) (g : DPut H a y v H') (ry : RelV y u) (rv : RelV v r) (h : ∀ s', Inv X pins σ H' s' → Q () s') :
    wpAny (model X.prog X.w) A (setItem (.ref a) u r) Q E s := by
  rcases g with ⟨kvs, k, e, ey, l, eH⟩ | ⟨kvs, k, b, e, ey, eb, l, eH⟩
  · subst ey eH
    obtain ⟨z, hd, vs, rel, dd⟩ := dk_of I.hok e
    have hz : vs.length ≤ sizeLine := by rw [← rel.length]; exact z
    have hl : (putK kvs k v).length ≤ sizeLine := by have := length_putK kvs k v; omega
    refine wpAny_setItem_pairs (hsz := hz) (kV_is ry) dd fun h' dd' hs => h _ ?_
    have he : ∃ q, h'.get? a = some q := let ⟨q, _, _, hq, _⟩ := dd'; ⟨q, hq⟩
    exact d_write I (by rw [e]; exact True.intro) hs he (dk_new hl hd (rel.put k rv) dd')
  · subst ey eH
    cases (show u = Value.ref b from ry)
    obtain ⟨z, hd, xs, rel, dd⟩ := dt_of I.hok e
    have hz : xs.length ≤ sizeLine := by rw [← Paired.length rel]; exact z
    have hl : (putK kvs k v).length ≤ sizeLine := by have := length_putK kvs k v; omega
    refine wpAny_setItem_heap (hsz := hz) (tupleKind_room_in1 hu) (key_of I.hok eb) dd fun h' dd' hs => h _ ?_
    obtain ⟨q, es, ep, hq, h2, h3, h4, _, h5⟩ := dd'
    refine d_write I (by rw [e]; exact True.intro) hs ⟨q, hq⟩ ⟨hl, hd, _, (rel.put k eb rv).keeps fun c ys ec => ?_, q, es, ep, hq, h2, h3, h4, h5⟩
    rw [upd_ne (ne_of ec e (fun z => nomatch z))]
    exact ec
end
section
variable {X : Cx} {pins : List (Addr × Obj)} {σ : St} {H : Hp} {s : Shared} {a : Addr} {kvs : List (Key × V)} {k : Key} {u : Value} {A : Around} {E : Value → Shared → Prop}
end
def NoSl (i : Expr) : Prop := ∀ ov iv, subscripted i false ov iv = operate [ov, iv] (getItem ov iv)
theorem subD_of {prog : Program} {w : World} {A : Around} {E : Value → Shared → Prop} {s : Shared} {env : Env} {value slice : Expr} {pos : Pos} {T id : String} {Q : Value → Shared → Prop}
    (hl : typeLookup (.type T) "__getitem__" = pure (some (.builtin id))) (hs : NoSl slice)
    (h : wpAny (model prog w) A (eval value env) (fun o s₁ => wpAny (model prog w) A (eval slice env) (fun i s₂ => s₂.TypeIs o T ∧ wpAny (model prog w) A (getItem o i) Q E s₂) E s₁) E s) :
    wpAny (model prog w) A (eval (.Subscript value slice pos) env) Q E s := by
  refine Subscript_ (wpAny_mono h (fun o s₁ h₁ => wpAny_mono h₁ (fun i s₂ h₂ => ?_) fun _ _ x => x) fun _ _ x => x)
  obtain ⟨hT, h₂⟩ := h₂
  unfold subscriptTail
  refine wpAny_bind ?_
  rw [getitemInPython_of_ne hT.not_modules]
  refine wpAny_bind (wpAny_specialOf hT hl ?_)
  have fin : wpAny (model prog w) A (subscripted slice false o i) (fun r s₃ => wpAny (model prog w) A (letTemporaryGo value o r >>= fun _ => pure r) Q E s₃) E s₂ := by
    rw [hs o i]
    exact wpAny_operating (wpAny_mono h₂ (fun r s₃ h₃ => wpAny_bind (wpAny_letTemporaryGo (wpAny_pure h₃))) fun _ _ x => x)
  first
    | exact wpAny_pure (wpAny_bind fin)
    | exact wpAny_bind (wpAny_pure (wpAny_bind fin))
    | exact wpAny_bind fin
theorem dict_typeIs {X : Cx} {pins : List (Addr × Obj)} {σ : St} {H : Hp} {s : Shared} {a : Addr} {y : V} {o : Option V} (I : Inv X pins σ H s) (g : DGet H a y o) : s.TypeIs (.ref a) "dict" := by
  rcases g with ⟨kvs, k, e, _, _⟩ | ⟨kvs, k, b, e, _, _, _⟩
  · obtain ⟨_, _, vs, _, dd⟩ := dk_rd I.hok e
    exact dd.typeIs
  · obtain ⟨_, _, xs, _, dd⟩ := dt_rd I.hok e
    exact dd.typeIs
def tDGet (td ty : TE) : TE := fun σ H Q => td σ H fun x H1 => ty σ H1 fun y H2 => ∃ a v, x = .ref a ∧ DGet H2 a y (some v) ∧ Q v H2
def sDPut (td ty tv : TE) : TS := fun D σ H => tv σ H fun v H1 => td σ H1 fun x H2 => ty σ H2 fun y H3 => ∃ a H4, x = .ref a ∧ DPut H3 a y v H4 ∧ D.nx σ H4
section
variable {X : Cx} {o i e value : Expr} {pos pos' tpos : Pos} {td ty tv : TE}
theorem pe_dget (hu : X.A.units + 1 < cLine) (ho : PE X o td) (hi : PE X i ty) (hs : NoSl i) : PE X (.Subscript o i pos) (tDGet td ty) := by
  intro pins s σ H Q I h
  refine subD_of PySem.F.slot_dict_getitem.lookup hs (thn (ho pins s σ H _ I h) fun u s1 ⟨x, H1, I1, rx, q1⟩ => thn (hi pins s1 σ H1 _ I1 q1) fun iv s2 ⟨y, H2, I2, ry, a, v, ex, g, q2⟩ => ?_)
  subst ex
  obtain rfl : u = Value.ref a := rx
  exact ⟨dict_typeIs I2 g, d_getItem hu I2 g ry fun w' s3 I3 rw' => ⟨v, H2, I3, rw', q2⟩⟩
theorem ps_dput (hu : X.A.units + 1 < cLine) (ho : PE X o td) (hi : PE X i ty) (hv : PE X value tv) (hs : swapsWith value (some (.Subscript o i pos')) pos.line X.env = pure false) :
    PS X (.Assign [.Subscript o i pos'] value pos) (sDPut td ty tv) := by
  intro pins s σ H D I h
  refine wpAny_Assign_Subscript (thn (hv pins s σ H _ I h) fun r s1 ⟨v, H1, I1, rv, q1⟩ => thn (ho pins s1 σ H1 _ I1 q1) fun u s2 ⟨x, H2, I2, rx, q2⟩ => thn (hi pins s2 σ H2 _ I2 q2) fun iv s3 ⟨y, H3, I3, ry, a, H4, ex, g, q3⟩ => ?_) hs
  subst ex
  obtain rfl : u = Value.ref a := rx
  exact d_setItem hu I3 g ry rv fun s4 I4 => ⟨σ, H4, I4, q3⟩
end
theorem dk_empty {P : Program} {w : World} {H : Hp} (h : Heap) (hb : sysModules < h.objs.size) : ObjOk P w H (h.push { cls := .type "dict", data := .dict #[] }) h.objs.size (.dK []) :=
  ⟨Nat.zero_le _, beq_eq_false_iff_ne.mpr (Ne.symm (Nat.ne_of_lt hb)), [], .nil, Heap.DictOf.new h⟩
section
variable {X : Cx} {pos : Pos}
end
def tPairs : List (TE × TE) → St → Hp → (List (V × V) → Hp → Prop) → Prop
  | [], _, H, Q => Q [] H
  | (tk, tv) :: r, σ, H, Q => tk σ H fun x H1 => tv σ H1 fun y H2 => tPairs r σ H2 fun ps H3 => Q ((x, y) :: ps) H3
abbrev VV : List (V × V) → List (Value × Value) → Prop := Paired fun p q => RelV p.1 q.1 ∧ RelV p.2 q.2
def PPs (X : Cx) (pos : Pos) (keys : List (Option Expr)) (values : List Expr) (trs : List (TE × TE)) : Prop :=
  ∀ (pins : List (Addr × Obj)) (s : Shared) (σ : St) (H : Hp) (Q : List (V × V) → Hp → Prop), Inv X pins σ H s → tPairs trs σ H Q →
    wpAny (model X.prog X.w) X.A (evalPairs (pairTrees keys values X.env pos)) (fun vs s' => ∃ ps H', Inv X pins σ H' s' ∧ VV ps vs ∧ Q ps H') X.xe s
theorem pps_nil {X : Cx} {pos : Pos} : PPs X pos [] [] [] := fun pins s σ H Q I h => pairTrees_nil_walk ⟨[], H, I, .nil, h⟩
theorem pps_cons {X : Cx} {pos : Pos} {k v : Expr} {ks : List (Option Expr)} {vs : List Expr} {tk tv : TE} {trs : List (TE × TE)} (hk : PE X k tk) (hv : PE X v tv) (hr : PPs X pos ks vs trs) :
    PPs X pos (some k :: ks) (v :: vs) ((tk, tv) :: trs) := fun pins s σ H Q I h =>
  pairTrees_cons_walk (thn (hk pins s σ H _ I h) fun u s1 ⟨x, H1, I1, rx, q1⟩ => thn (hv pins s1 σ H1 _ I1 q1) fun w2 s2 ⟨y, H2, I2, ry, q2⟩ =>
    thn (hr pins s2 σ H2 _ I2 q2) fun ws s3 ⟨ps, H3, I3, rel, q3⟩ => ⟨(x, y) :: ps, H3, I3, .cons ⟨rx, ry⟩ rel, q3⟩)
def mergeK (kvs more : List (Key × V)) : List (Key × V) := more.foldl (fun acc kv => putK acc kv.1 kv.2) kvs
theorem KV.merge : ∀ {more : List (Key × V)} {rs : List (Key × Value)} {kvs : List (Key × V)} {vs : List (Key × Value)}, KV more rs → KV kvs vs → KV (mergeK kvs more) (merged vs rs) := by
  intro more rs kvs vs r
  unfold KV at r
  induction r generalizing kvs vs with
  | nil => intro q; exact q
  | @cons p q ps qs h t ih =>
    intro r0
    have e : KV (putK kvs p.1 p.2) (stored vs q.1 q.2) := by
      have := r0.put p.1 h.2
      rw [← h.1]; exact this
    exact ih e
theorem length_mergeK : ∀ (more kvs : List (Key × V)), (mergeK kvs more).length ≤ kvs.length + more.length
  | [], kvs => by show kvs.length ≤ kvs.length + 0; omega
  | p :: r, kvs => by
    have h1 := length_mergeK r (putK kvs p.1 p.2)
    have h2 := length_putK kvs p.1 p.2
    show (mergeK (putK kvs p.1 p.2) r).length ≤ _
    rw [List.length_cons]; omega
theorem carries_of {P : Program} {w : World} : ∀ {kvs : List (Key × V)} {ws : List (Value × Value)}, VV (kvs.map fun kv => (kV kv.1, kv.2)) ws → ∃ rs, Carries (mixKind P w) ws rs ∧ KV kvs rs
  | [], _, r => by rw [List.map_nil] at r; cases r; exact ⟨[], True.intro, .nil⟩
  | p :: kvs, _, r => by
    rw [List.map_cons] at r
    cases r with
    | @cons a b as bs h t =>
      obtain ⟨rs, c, q⟩ := carries_of (P := P) (w := w) t
      obtain ⟨b1, b2⟩ := b
      exact ⟨(p.1, b2) :: rs, ⟨kV_is h.1, rfl, c⟩, .cons ⟨rfl, h.2⟩ q⟩
def tDisp (trs : List (TE × TE)) : TE := fun σ H Q => ∀ p, H p = none → tPairs trs σ (upd H p (.dK [])) fun ps H2 => H2 p = some (.dK []) ∧ ∃ kvs : List (Key × V), ps = kvs.map (fun kv => (kV kv.1, kv.2)) ∧ kvs.length ≤ 15 ∧ Q (.ref p) (upd H2 p (.dK (mergeK [] kvs)))
theorem pe_disp {X : Cx} {pos : Pos} {keys : List (Option Expr)} {values : List Expr} {trs : List (TE × TE)} (h : PPs X pos keys values trs) (hall : keys.all (·.isSome) = true) (hl : keys.length = values.length) (h0 : keys ≠ [])
    (h15 : keys.length ≤ 15) : PE X (.Dict keys values pos) (tDisp trs) := by
  intro pins s σ H Q I q
  have hn := I.hok.fresh (Nat.le_refl s.heap.objs.size)
  have I1 := I.laid (a := s.heap.objs.size) (o := .dK []) (h' := s.heap.push { cls := .type "dict", data := .dict #[] }) (t' := s.toks) (fun _ _ q => Heap.get?_push_of_some _ q) (Nat.le_refl _) (dk_empty s.heap I.big)
  refine wpAny_Dict_walk (knd := mixKind X.prog X.w) hall hl h0 h15 (thn (h pins _ σ _ _ I1 (q _ hn)) fun ws s2 ⟨ps, H2, I2, rel, e, kvs, ep, lk, q2⟩ => ?_)
  subst ep
  obtain ⟨rs, c, rk⟩ := carries_of (P := X.prog) (w := X.w) rel
  obtain ⟨z, hd, vs0, r0, dd⟩ := dk_of I2.hok e
  cases r0
  refine ⟨rs, c, dd, fun h' dd' hs => ⟨.ref s.heap.objs.size, _, ?_, rfl, q2⟩⟩
  have hz : (mergeK [] kvs).length ≤ sizeLine := by
    have h1 := length_mergeK kvs []
    rw [List.length_nil] at h1
    rw [sizeLine_eq]; omega
  have he : ∃ q, h'.get? s.heap.objs.size = some q := let ⟨q, _, _, hq, _⟩ := dd'; ⟨q, hq⟩
  exact d_write I2 (by rw [e]; exact True.intro) hs he (dk_new hz hd (rk.merge .nil) dd')
section
variable {X : Cx} {pins : List (Addr × Obj)} {σ : St} {H : Hp} {s : Shared} {a : Addr} {y d : V} {u r : Value} {o : Option V} {A : Around} {E : Value → Shared → Prop}
end
section
variable {X : Cx} {o e f : Expr} {apos cpos : Pos} {td ty tx : TE}
end
section
variable {X : Cx} {pins : List (Addr × Obj)} {σ : St} {H : Hp} {s : Shared} {a : Addr} {kvs : List (Key × V)} {A : Around} {E : Value → Shared → Prop}
end
section
variable {X : Cx} {pins : List (Addr × Obj)} {σ : St} {H : Hp} {s : Shared} {a : Addr} {y : V} {u : Value} {A : Around} {E : Value → Shared → Prop}
end
end L2
namespace L2
open PySem PySem.Spec PyProof.Rows
section
variable {X : Cx}
end
section
variable {κ : Type} [DecidableEq κ]
end
end L2
set_option maxHeartbeats 4000000
namespace L2
open PySem PySem.Spec PyProof.Rows
theorem lt_sz {h : Heap} {a : Nat} {o : Obj} (e : h.get? a = some o) : @LT.lt Nat _ a h.objs.size := Heap.lt_size e
theorem cell_lt {h : Heap} {a : Nat} {v : Option Value} (e : h.IsCell a v) : @LT.lt Nat _ a h.objs.size := e.lt
theorem ne_lt {a b : Nat} (h : a < b) : @Ne Addr a b := Nat.ne_of_lt h
theorem ne_gt {a b : Nat} (h : b < a) : @Ne Addr a b := Nat.ne_of_gt h
theorem closure_aux {env : Env} {body : Str × NameKind → List (Str × Addr) → Sem (ForInStep (List (Str × Addr)))}
    (hb : ∀ n k c, body (n, k) c = if (k == NameKind.free) = true then (cellOf env n >>= fun a => pure (.yield ((n, a) :: c))) else pure (.yield c)) :
    ∀ (l : List (Str × NameKind)) (cs : List (Str × Addr)), (∀ p ∈ l, p.2 = NameKind.free → ∃ c, env.cells.lookup p.1 = some c) →
      ∃ cl, forIn l cs body = pure cl ∧ (∀ x c, cl.lookup x = some c → env.cells.lookup x = some c ∨ cs.lookup x = some c) ∧ (∀ x, (x, NameKind.free) ∈ l → ∃ c, cl.lookup x = some c) ∧ ∀ x c, cs.lookup x = some c → ∃ c', cl.lookup x = some c'
  | [], cs, _ => ⟨cs, rfl, fun _ _ h => .inr h, fun _ h => (nomatch h), fun _ c h => ⟨c, h⟩⟩
  | (n, k) :: r, cs, h => by
    have hr : ∀ p ∈ r, p.2 = NameKind.free → ∃ c, env.cells.lookup p.1 = some c := fun p hp => h p (List.mem_cons_of_mem _ hp)
    rw [List.forIn_cons, hb]
    by_cases hk : (k == NameKind.free) = true
    · rw [if_pos hk]
      have hk' : k = .free := by simpa using hk
      obtain ⟨c, hc⟩ := h (n, k) List.mem_cons_self hk'
      have e1 : cellOf env n = pure c := by unfold cellOf; rw [hc]
      rw [e1]
      obtain ⟨cl, e, h1, h2, h3⟩ := closure_aux hb r ((n, c) :: cs) hr
      refine ⟨cl, e, fun x c' hx => ?_, fun x hx => ?_, fun x c' hx => ?_⟩
      · rcases h1 x c' hx with z | z
        · exact .inl z
        · by_cases e2 : (x == n) = true
          · have e3 : x = n := by simpa using e2
            subst e3
            rw [List.lookup_cons, e2] at z
            cases z
            exact .inl hc
          · rw [List.lookup_cons, Bool.eq_false_iff.mpr e2] at z
            exact .inr z
      · rcases List.mem_cons.mp hx with z | z
        · have e2 : x = n := congrArg Prod.fst z
          exact h3 x c (by rw [List.lookup_cons, e2, beq_self_eq_true])
        · exact h2 x z
      · by_cases e2 : (x == n) = true
        · exact h3 x c (by rw [List.lookup_cons, e2])
        · exact h3 x c' (by rw [List.lookup_cons, Bool.eq_false_iff.mpr e2]; exact hx)
    · rw [if_neg hk]
      obtain ⟨cl, e, h1, h2, h3⟩ := closure_aux hb r cs hr
      refine ⟨cl, e, h1, fun x hx => ?_, h3⟩
      rcases List.mem_cons.mp hx with z | z
      · cases z
        exact absurd rfl hk
      · exact h2 x z
theorem closure_of {scope : Scope} {env : Env} (h : ∀ p ∈ scope.names, p.2 = NameKind.free → ∃ c, env.cells.lookup p.1 = some c) :
    ∃ cl : List (Str × Addr), closureFor scope env = pure cl ∧ (∀ x c, cl.lookup x = some c → env.cells.lookup x = some c) ∧ ∀ x, (x, NameKind.free) ∈ scope.names → ∃ c, cl.lookup x = some c := by
  obtain ⟨cl, e, h1, h2, _⟩ := closure_aux (env := env) (body := fun x c => if (x.2 == NameKind.free) = true then (cellOf env x.1 >>= fun a => pure (.yield ((x.1, a) :: c))) else pure (.yield c)) (fun _ _ _ => rfl) scope.names [] h
  refine ⟨cl, ?_, fun x c hx => (h1 x c hx).elim id fun z => by simp at z, h2⟩
  have e2 : closureFor scope env = (forIn scope.names ([] : List (Str × Addr)) (fun x c => if (x.2 == NameKind.free) = true then (cellOf env x.1 >>= fun a => pure (.yield ((x.1, a) :: c))) else pure (.yield c)) >>= fun r => pure r) := by
    simp only [closureFor]
  rw [e2, e]
  rfl
theorem relabel_cases {env : Env} : ∀ {names : List (Str × NameKind)} {x : Str} {k : NameKind},
    (names.map fun (n, k) => if (k == NameKind.free && env.scope.kind == .function && env.kindOf n == some .cell) then (n, NameKind.cell) else (n, k)).lookup x = some k →
      names.lookup x = some k ∨ (names.lookup x = some .free ∧ k = .cell)
  | [], _, _, h => by simp at h
  | (n, k0) :: r, x, k, h => by
    have ih := @relabel_cases env r x k
    replace h : List.lookup x ((if (k0 == NameKind.free && env.scope.kind == .function && env.kindOf n == some .cell) = true then (n, NameKind.cell) else (n, k0)) :: (r.map fun (n, k) => if (k == NameKind.free && env.scope.kind == .function && env.kindOf n == some .cell) then (n, NameKind.cell) else (n, k))) = some k := h
    cases hx : x == n with
    | true =>
      by_cases hc : (k0 == NameKind.free && env.scope.kind == .function && env.kindOf n == some .cell) = true
      · rw [if_pos hc] at h
        simp only [List.lookup_cons, hx] at h
        cases h
        have : k0 = .free := by
          simp only [Bool.and_eq_true] at hc
          simpa using hc.1.1
        subst this
        exact .inr ⟨by simp only [List.lookup_cons, hx], rfl⟩
      · rw [if_neg hc] at h
        simp only [List.lookup_cons, hx] at h
        exact .inl (by simp only [List.lookup_cons, hx]; exact h)
    | false =>
      have h' : (r.map fun (n, k) => if (k == NameKind.free && env.scope.kind == .function && env.kindOf n == some .cell) then (n, NameKind.cell) else (n, k)).lookup x = some k := by
        by_cases hc : (k0 == NameKind.free && env.scope.kind == .function && env.kindOf n == some .cell) = true
        · rw [if_pos hc] at h
          simpa only [List.lookup_cons, hx] using h
        · rw [if_neg hc] at h
          simpa only [List.lookup_cons, hx] using h
      rcases ih h' with z | z
      · exact .inl (by simp only [List.lookup_cons, hx]; exact z)
      · exact .inr (by simp only [List.lookup_cons, hx]; exact z)
theorem relabel_free {env : Env} : ∀ {names : List (Str × NameKind)} {x : Str}, names.lookup x = some .free →
    (names.map fun (n, k) => if (k == NameKind.free && env.scope.kind == .function && env.kindOf n == some .cell) then (n, NameKind.cell) else (n, k)).lookup x = some .free ∨
    (names.map fun (n, k) => if (k == NameKind.free && env.scope.kind == .function && env.kindOf n == some .cell) then (n, NameKind.cell) else (n, k)).lookup x = some .cell
  | [], _, h => by simp at h
  | (n, k0) :: r, x, h => by
    have ih := @relabel_free env r x
    show List.lookup x ((if (k0 == NameKind.free && env.scope.kind == .function && env.kindOf n == some .cell) = true then (n, NameKind.cell) else (n, k0)) :: _) = _ ∨ List.lookup x ((if (k0 == NameKind.free && env.scope.kind == .function && env.kindOf n == some .cell) = true then (n, NameKind.cell) else (n, k0)) :: _) = _
    cases hx : x == n with
    | true =>
      simp only [List.lookup_cons, hx] at h
      cases h
      by_cases hc : (NameKind.free == NameKind.free && env.scope.kind == .function && env.kindOf n == some .cell) = true
      · rw [if_pos hc]; simp only [List.lookup_cons, hx]; exact .inr trivial
      · rw [if_neg hc]; simp only [List.lookup_cons, hx]; exact .inl trivial
    | false =>
      simp only [List.lookup_cons, hx] at h
      by_cases hc : (k0 == NameKind.free && env.scope.kind == .function && env.kindOf n == some .cell) = true
      · rw [if_pos hc]; simp only [List.lookup_cons, hx]; exact ih h
      · rw [if_neg hc]; simp only [List.lookup_cons, hx]; exact ih h
inductive Caps (X : Cx) (sc : Scope) : List Str → List (Option Nat) → Prop
  | nil : Caps X sc [] []
  | own {x : Str} {N : List Str} {c : List (Option Nat)} : sc.names.lookup x = some .local → Caps X sc N c → Caps X sc (x :: N) (none :: c)
  | got {x : Str} {i : Nat} {N : List Str} {c : List (Option Nat)} : X.N[i]? = some x → sc.names.lookup x = some .free → (X.env.kindOf x = some .cell ∨ X.env.kindOf x = some .free) → Caps X sc N c → Caps X sc (x :: N) (some i :: c)
def capt (c : List (Option Nat)) (σ : St) : St := c.map fun o => o.bind fun (i : Nat) => (σ[i]?).join
theorem Caps.len {X : Cx} {sc : Scope} {N : List Str} {c : List (Option Nat)} {σ : St} (h : Caps X sc N c) : (capt c σ).length = N.length := by
  unfold capt
  rw [List.length_map]
  induction h with
  | nil => rfl
  | own _ _ ih => simp [ih]
  | got _ _ _ _ ih => simp [ih]
theorem Caps.at {X : Cx} {sc : Scope} {N : List Str} {c : List (Option Nat)} {σ : St} (h : Caps X sc N c) : ∀ {j : Nat} {x : Str} {v : V}, N[j]? = some x → (capt c σ)[j]? = some (some v) →
    ∃ i : Nat, X.N[i]? = some x ∧ σ[i]? = some (some v) ∧ sc.names.lookup x = some .free ∧ (X.env.kindOf x = some .cell ∨ X.env.kindOf x = some .free) := by
  induction h with
  | nil => intro j x v h1; simp at h1
  | own _ _ ih =>
    intro j x v h1 h2
    cases j with
    | zero => simp [capt] at h2
    | succ j => exact ih (by simpa using h1) (by simpa [capt] using h2)
  | @got y i N c g1 g2 g3 _ ih =>
    intro j x v h1 h2
    cases j with
    | zero =>
      have e : y = x := by simpa using h1
      subst e
      refine ⟨i, g1, ?_, g2, g3⟩
      have h2' : (σ[i]?).join = some v := by simpa [capt] using h2
      cases q : σ[i]? with
      | none => rw [q] at h2'; cases h2'
      | some o =>
        rw [q] at h2'
        have : o = some v := h2'
        rw [this]
    | succ j => exact ih (by simpa using h1) (by simpa [capt] using h2)
def blk (X : Cx) (N' : List Str) (sc : Scope) (cl : List (Str × Addr)) (C : Addr) (s₂ : Shared) (H₂ : Hp) (fp : List Addr) : Cx :=
  { X with N := N', s₀ := s₂, H₀ := H₂, env := compEnvC sc cl C X.env, outer := X.stack, ex := fp, fn := fun _ => false, pn := [], xe := fun _ _ => False }
def PTs (X : Cx) (ifs : List Expr) (t : TT) : Prop :=
  ∀ (pins : List (Addr × Obj)) (s : Shared) (σ : St) (H : Hp) (Q : Bool → Hp → Prop), Inv X pins σ H s → t σ H Q →
    wpAny (model X.prog X.w) X.A (forIn ifs true fun c r => if r = true then do let ok ← isTrue c X.env (eval c X.env); pure (ForInStep.yield ok) else pure (ForInStep.yield r)) (TP X pins σ Q) X.xe s
def tTst0 : TT := fun _ H Q => Q true H
theorem pts_nil {X : Cx} : PTs X [] tTst0 := fun _ _ _ H _ I h => wpAny_tests_nil ⟨H, I, h⟩
theorem pts_one {X : Cx} {c : Expr} {t : TT} (h : PT X c t) : PTs X [c] t := fun pins s σ H Q I q => wpAny_tests_one (h pins s σ H Q I q)
def CompG (g : TG) (tst : TT) (te : TE) (σ0 : St) (Q : VK) (J : It) (H1 : Hp) : Prop :=
  ∃ W : Nat → Nat → List V → St → Hp → Prop, (∃ m, W 0 m [] σ0 H1) ∧ ∀ i m ys σ' H', W i m ys σ' H' →
    (J.stop i H' ∧ ys.length ≤ sizeLine ∧ ∀ D, H' D = none → Q (.ref D) (upd H' D (.lst ys))) ∨
    (J.go i H' ∧ ys.length < sizeLine ∧ ∃ N : List V → St → Hp → Prop, (∀ ys2 σ2 H2, N ys2 σ2 H2 → ∃ m', m' < m ∧ W (i + 1) m' ys2 σ2 H2) ∧ ∀ x H2, J.yld i H' x H2 → g x σ' H2 fun σ2 H3 => tst σ2 H3 fun b H4 =>
      if b = true then te σ2 H4 fun y H5 => N (ys ++ [y]) σ2 H5 else N ys σ2 H4)
def tComp (cap : List (Option Nat)) (wi : TI) (g : TG) (tst : TT) (te : TE) : TE := fun σ H Q => wi σ H (CompG g tst te (capt cap σ) Q)
theorem comp_loop {prog : Program} {w : World} {A : Around} {R : Result → Shared → Prop} {s : Shared} {elt target iter : Expr} {ifs : List Expr} {scope : Scope} {pos : Pos} {it acc : Value} {env : Env} (I : Nat → Shared → Prop)
    (turn : ∀ n s, I n s → wpAny (model prog w) A (pyNext it) (fun r s₁ => match r with
      | none => R (.ok .next) s₁
      | some v => wpAny (model prog w) A (letOwnedTupleGo target it v) (fun _ s₁' => wpAny (model prog w) A (assign target env v) (fun _ s₂ =>
          wpAny (model prog w) A (forIn ifs true fun c r => if r = true then do let ok ← isTrue c env (eval c env); pure (ForInStep.yield ok) else pure (ForInStep.yield r)) (fun ok s₃ =>
            if ok = true then wpAny (model prog w) A (eval elt env) (fun x s₄ =>
              wpAny (model prog w) A (call (.builtin "list.append") [acc, x]) (fun _ s₅ => ∃ m, m < n ∧ I m s₅) (fun _ _ => False) s₄) (fun _ _ => False) s₃
            else ∃ m, m < n ∧ I m s₃) (fun _ _ => False) s₂) (fun _ _ => False) s₁') (fun _ _ => False) s₁) (fun _ _ => False) s)
    (n : Nat) (h : I n s) :
    codeAny (model prog w) A (.compLoop (.ListComp elt [⟨target, iter, ifs, 0⟩] scope pos) 0 it acc env) R s := by
  refine codeAny_loop rfl I (fun n s hI => ?_) n h
  show wpAny _ A ((compTurn (.ListComp elt [⟨target, iter, ifs, 0⟩] scope pos) 0 it acc env).onRaise (fun x => do noteFrame x env; theTreesLotGoes x)) _ _ s
  refine wpAny_noted ?_
  rw [compTurn_list]
  refine wpAny_bind (wpAny_standAt (wpAny_bind (wpAny_mono (turn n s hI) (fun r s₁ h₁ => ?_) fun _ _ h' => h'.elim)))
  cases r with
  | none => exact wpAny_pure h₁
  | some v =>
    refine wpAny_bind (wpAny_mono h₁ (fun _ s₁' h₁' => ?_) fun _ _ h' => h'.elim)
    refine wpAny_bind (wpAny_mono h₁' (fun _ s₂ h₂ => wpAny_bind (wpAny_mono h₂ (fun ok s₃ h₃ => ?_) fun _ _ h' => h'.elim)) fun _ _ h' => h'.elim)
    cases ok with
    | false => exact wpAny_pure ⟨rfl, h₃⟩
    | true =>
      exact wpAny_bind (wpAny_bind (wpAny_mono h₃ (fun x s₄ h₄ => wpAny_bind (wpAny_mono h₄ (fun _ s₅ h₅ => wpAny_pure (wpAny_pure ⟨rfl, h₅⟩)) fun _ _ h' => h'.elim)) fun _ _ h' => h'.elim))
theorem comp_run {X : Cx} {pins : List (Addr × Obj)} {σ : St} {H : Hp} {s : Shared} {Q : VK} {tg iter elt : Expr} {ifs : List Expr} {sc : Scope} {p pos : Pos} {N' : List Str} {cap : List (Option Nat)} {wi : TI} {g : TG} {tst : TT} {te : TE} {use : Option (Value → Sem Unit)} {Q' : Value → Shared → Prop}
    (hc : X.calm = true) (hi : PI X tg iter wi) (hkind : sc.kind = .function) (hcell : ∀ y ∈ sc.names, y.2 ≠ .cell) (hnames : ∀ y ∈ sc.names, y.2 = .local → sc.names.lookup y.1 = some .local)
    (hfree : ∀ y ∈ sc.names, y.2 = .free → X.env.kindOf y.1 = some .cell ∨ X.env.kindOf y.1 = some .free) (hcap : Caps X sc N' cap)
    (hb : ∀ cl C s₂ H₂ fp, PG (blk X N' sc cl C s₂ H₂ fp) tg g ∧ PTs (blk X N' sc cl C s₂ H₂ fp) ifs tst ∧ PE (blk X N' sc cl C s₂ H₂ fp) elt te)
    (I : Inv X pins σ H s) (h : tComp cap wi g tst te σ H Q)
    (fin : ∀ D C m H' s', Inv X pins σ H' s' → FpOk X pins H' C → s'.heap.Ns C m → Q (.ref D) H' → compPost (model X.prog X.w) X.A X.xe use Q' (.ref D) C (.ok .next) s')
    (hs : ∀ x, foldedSetIterable iter X.env x = pure x) :
    wpAny (model X.prog X.w) X.A (comprehension (.ListComp elt [⟨tg, iter, ifs, 0⟩] sc pos) sc X.env p (newList []) false (eval iter X.env) use) Q' X.xe s := by
  obtain ⟨cl, hclos, hcl1, hcl2⟩ := closure_of (scope := sc) (env := X.env) fun q hq e => I.ok.has q.1 (hfree q hq e)
  refine wpAny_comprehension_free rfl hs hclos hkind hnames (thn (hi pins s σ H _ I h) fun v s1 h1 => thn h1 fun itv s2 h2 => ?_)
  obtain ⟨it, fp, tn, J, H2, e, I2, T, st2, f2, W, ⟨m0, w0⟩, turn⟩ := h2
  subst e
  refine wpAny_newObj_type (wpAny_newFunctionEnv hcell (by intro y hy; simp at hy) (fun h₁ hns₁ hsb₁ => ?_) hkind)
  dsimp only at hns₁ hsb₁ ⊢
  generalize hHP : s2.heap.push { cls := .type "list", dict := none, data := .seq ([] : List Value).toArray } = HP at hns₁ hsb₁ ⊢
  have hC : HP.objs.size = s2.heap.objs.size + 1 := by rw [← hHP, Heap.size_push]
  obtain ⟨D, hDn⟩ : ∃ D : Nat, s2.heap.objs.size = D := ⟨_, rfl⟩
  obtain ⟨C, hCn⟩ : ∃ C : Nat, HP.objs.size = C := ⟨_, rfl⟩
  rw [hDn] at hC
  rw [hCn] at hC hns₁ hsb₁ ⊢
  rw [hDn]
  have hDC : @Ne Addr D C := ne_lt (by omega)
  have old : ∀ b o, s2.heap.get? b = some o → h₁.get? b = some o := fun b o e =>
    hsb₁.extBut b o (ne_lt (by have := lt_sz e; omega)) (Heap.get?_push_of_some _ (hHP ▸ Heap.get?_push_of_some _ e))
  have hacc : h₁.get? D = some { cls := .type "list", data := .seq ([] : List Value).toArray 0 } :=
    hsb₁.extBut _ _ hDC (Heap.get?_push_of_some _ (by rw [← hHP, ← hDn]; exact Heap.get?_push_size _ rfl))
  have okB : (blk X N' sc cl C s2 H2 fp).Ok := by
    refine ⟨I.ok.mod, hkind, I.ok.glob, I.ok.blt, (by show s2.heap.objs.size ≤ C; omega), fun x y c h1 h2 => I.ok.inj x y c (hcl1 x c h1) (hcl1 y c h2), fun x hx => ?_, fun x c hx => (nomatch hx), I.ok.hd, I.ok.frames, .inl rfl, fun b hb => ?_,
      fun b o e => I2.bs b o e, Nat.le_trans I2.ok.bsz I2.sz, fun b o e hb => ?_, fun b hb => ?_, I2.stack, I2.stkFree⟩
    · have hx' : sc.names.lookup x = some .free := by
        rcases hx with hx | hx
        · rcases relabel_cases hx with z | z
          · exact absurd rfl (hcell _ (PySem.mem_of_lookup z))
          · exact z.1
        · rcases relabel_cases hx with z | z
          · exact z
          · exact z.1
      exact hcl2 x (PySem.mem_of_lookup hx')
    · obtain ⟨o, ho, _⟩ := T.obj _ _ st2 b hb
      refine ⟨?_, fun x c e => (f2 b hb).2.2.2.2.1 x c (hcl1 x c e)⟩
      show @Ne Addr b C
      have := lt_sz ho
      exact ne_lt (by omega)
    · obtain ⟨_, _, _, z, _⟩ := f2 b hb
      rcases z with z | z
      · exact I2.ok.noex b o e z
      · have := lt_sz (show X.base.get? b = some o from e)
        have := I2.ok.bsz
        omega
    · intro hb'
      rcases List.mem_cons.mp (I2.stkSub b hb') with z | z
      · exact (f2 b hb).2.1 z
      · exact (f2 b hb).2.2.1 z
  have nD : H2 D = none := I2.hok.fresh (by rw [hDn]; exact Nat.le_refl _)
  have hb0 := hb cl C s2 H2 fp
  generalize hXB : blk X N' sc cl C s2 H2 fp = XB at okB hb0
  have eP : XB.prog = X.prog := by rw [← hXB]; rfl
  have eW : XB.w = X.w := by rw [← hXB]; rfl
  have eK : XB.K = X.K := by rw [← hXB]; rfl
  have eA : XB.A = X.A := by rw [← hXB]; rfl
  have eE : XB.env = compEnvC sc cl C X.env := by rw [← hXB]; rfl
  have eX : XB.xe = fun _ _ => False := by rw [← hXB]; rfl
  have eFs : XB.fs = frs X.stack := by rw [← hXB]; rfl
  have eEx : XB.ex = fp := by rw [← hXB]; rfl
  have eS : XB.s₀ = s2 := by rw [← hXB]; rfl
  have eH : XB.H₀ = H2 := by rw [← hXB]; rfl
  have ePn : XB.pn = [] := by rw [← hXB]; rfl
  have eCa : XB.calm = true := by rw [← hXB]; exact hc
  have eN : XB.N = N' := by rw [← hXB]; rfl
  have eL : XB.env.locals = C := by rw [eE]; rfl
  have eCl : XB.env.cells = cl := by rw [eE]; rfl
  have celt : ∀ (x : Str) (c : Nat), cl.lookup x = some c → c < D := fun x c e => by
    obtain ⟨v, z⟩ := I2.cell x c (hcl1 x c e)
    have := cell_lt z
    omega
  have nfs : ∀ (b : Nat), D ≤ b → b ∉ XB.fs := fun b hb z => by
    rw [eFs] at z
    obtain ⟨_, o, ho, _⟩ := I2.stack.mem z
    have := lt_sz ho
    omega
  have fpD : ∀ (b : Nat), b ∈ fp → b < D := fun b hb => by
    obtain ⟨o, ho, _⟩ := T.obj _ _ st2 b hb
    have := lt_sz ho
    omega
  have loop : ∀ s3 : Shared, s3 = { s2 with heap := h₁, toks := s2.toks + ([] : List (Str × Value)).length } →
      codeAny (model X.prog X.w) X.A (.compLoop (.ListComp elt [⟨tg, iter, ifs, 0⟩] sc pos) 0 (.ref it) (.ref D) (compEnvC sc cl C X.env)) (compPost (model X.prog X.w) X.A X.xe use Q' (.ref D) C) s3 := by
    rintro s3 rfl
    refine comp_loop (fun n s' => ∃ i ys σ' H' its k, Inv XB [] σ' H' s' ∧ tn i s'.heap ∧ (∀ b ∈ fp, H' b = none) ∧ H' D = none ∧ s'.heap.get? D = some { cls := .type "list", data := .seq (its : List Value).toArray k } ∧ Vals ys its ∧ W i n ys σ' H') ?_ m0
      ⟨0, [], capt cap σ, H2, [], 0, ?_, T.keep _ _ _ st2 fun b hb o e => old b o e, fun b hb => (f2 b hb).1, nD, hacc, .nil, w0⟩
    · rintro n s4 ⟨i, ys, σ4, H4, its, k, I4, st4, fr4, d4, o4, v4, w4⟩
      have fpk : ∀ {H' : Hp} {pl : List (Addr × Obj)}, (∀ b ∈ fp, H' b = none) → (∀ q ∈ pl, q.1 ∉ fp) → ∀ b ∈ fp, FpOk XB pl H' b := fun {H' pl} hn hpl b hb => by
        refine ⟨hn b hb, ?_, ?_, .inl (by rw [eEx]; exact hb), fun x c e => ?_, fun q hq => ?_⟩
        · rw [eL]; have := fpD b hb; exact ne_lt (by omega)
        · rw [eFs]
          intro z
          rcases List.mem_cons.mp (I2.stkSub b z) with z | z
          · exact (f2 b hb).2.1 z
          · exact (f2 b hb).2.2.1 z
        · rw [eCl] at e
          exact (f2 b hb).2.2.2.2.1 x c (hcl1 x c e)
        · rw [ePn] at hq
          intro z
          exact hpl q (by simpa using hq) (z ▸ hb)
      have pD : ∀ q ∈ [(D, ({ cls := .type "list", data := .seq its.toArray k } : Obj))], q.1 ∉ fp := fun q hq => by
        have e : q = _ := List.mem_singleton.mp hq
        subst e
        intro z
        have := fpD _ z
        omega
      have I4' : Inv XB [(D, { cls := .type "list", data := .seq its.toArray k })] σ4 H4 s4 := I4.pins_of fun q hq => by
        have e : q = _ := List.mem_singleton.mp hq
        subst e
        refine ⟨o4, d4, ?_, nfs _ (Nat.le_refl _), fun v => by simp⟩
        rw [eL]
        exact hDC
      have I4'' := I4'
      rw [← eA, ← eP, ← eW]
      rcases turn i n ys σ4 H4 w4 with ⟨stop, hz, qn⟩ | ⟨go, hz, N, hN, step⟩
      · rw [← eP, ← eW, ← eK] at T
        refine wpAny_mono (T.done XB rfl rfl rfl eCa i _ s4 σ4 H4 (fun _ _ => False) I4' (fpk fr4 pD) st4 stop) (fun r s5 ⟨hr, I5⟩ => ?_) fun _ _ z => z
        subst hr
        rw [eP, eW, eA]
        obtain ⟨o5, n5, _⟩ := I5.pin (D, { cls := .type "list", data := .seq its.toArray k }) (List.mem_append_right _ (List.mem_singleton.mpr rfl))
        have u5 : Un (frs X.stack) fp H2 H4 s2.heap s5.heap := by
          have z := I5.base
          rw [eFs, eEx, eH, eS] at z
          exact z
        have lt2 : ∀ b o, s2.heap.get? b = some o → @Ne Addr b D := fun b o e => ne_lt (by have := lt_sz e; omega)
        have ne5 : ∀ b u, H4 b = some u → b ≠ D := fun b u e z => by rw [z, d4] at e; cases e
        have hk5 : HOk X.prog X.w H4 s5.heap := by
          have z := I5.hok
          rw [eP, eW] at z
          exact z
        have fin' := fin D C
        obtain ⟨mC, hNs, _⟩ := id I5.loc
        rw [eL] at hNs
        have IX : Inv X pins σ (upd H4 D (.lst ys)) s5 := by
          refine I2.call' (s' := s5) (ch := fp) ?_ ⟨u5.keep, u5.slot, fun b o e n hx => ?_, u5.there, fun b xs e => ?_, fun b o u e => ?_, fun b ps e => ?_⟩ ?_ I5.bare fun b hb => ⟨(f2 b hb).2.2.2.1, (f2 b hb).2.1, (f2 b hb).2.2.2.2.1, (f2 b hb).2.2.2.2.2⟩
          · have z := I5.os
            rw [eS] at z
            exact z
          · rw [upd_ne (lt2 b o e)]; exact u5.free b o e n hx
          · have z := u5.tups b xs e
            rw [upd_ne (ne5 b _ z)]; exact z
          · have z := u5.frzs b o u e
            rw [upd_ne (ne5 b _ z)]; exact z
          · obtain ⟨more, z⟩ := u5.tbls b ps e
            exact ⟨more, by rw [upd_ne (ne5 b _ z)]; exact z⟩
          · intro a o e
            by_cases ha : a = D
            · subst ha
              rw [upd_same] at e
              cases e
              exact ⟨hz, its, k, v4, o5⟩
            · rw [upd_ne ha] at e
              exact (hk5 a o e).stay (fun _ _ _ q => q) (fun b q => by rw [upd_ne (ne5 b _ q)]; exact q) fun b xs q => by rw [upd_ne (ne5 b _ q)]; exact q
        refine fin' mC _ s5 IX ?_ hNs (qn D d4)
        have hCN : H4 C = none := by
          have z := I5.free
          rw [eL] at z
          exact z
        refine ⟨by rw [upd_ne (Ne.symm hDC)]; exact hCN, ?_, ?_, .inr ?_, fun x c e => ?_, fun q hq => ?_⟩
        · have : @LT.lt Nat _ X.env.locals s2.heap.objs.size := I2.lt
          exact ne_gt (by omega)
        · exact I2.nofs (by rw [hDn]; omega)
        · have := I2.sz; omega
        · obtain ⟨v, z⟩ := I2.cell x c e
          have := cell_lt z
          exact ne_lt (by omega)
        · have := lt_sz (I2.pin q hq).1
          exact ne_lt (by omega)
      · have T' := T
        rw [← eP, ← eW, ← eK] at T'
        refine wpAny_mono (T'.item XB rfl rfl rfl eCa i _ s4 σ4 H4 (fun _ _ => False) I4' (fpk fr4 pD) st4 go) (fun r s5 ⟨u, hr, h5⟩ => ?_) fun _ _ z => z
        subst hr
        refine thn h5 fun _ s6 ⟨x, H6, I6, r6, y6, st6, fr6⟩ => ?_
        have I6' := I6.pinned (fpk fr6 pD) (T.obj _ _ st6)
        obtain ⟨hg0, ht0, he0⟩ := hb0
        rw [← eE]
        have hgo := hg0 _ s6 σ4 H6 x u _ I6' r6 (step x H6 y6)
        rw [eX] at hgo
        refine thn hgo fun _ s7 ⟨σ7, H7, I7, q7⟩ => ?_
        have hto := ht0 _ s7 σ7 H7 _ I7 q7
        rw [eX] at hto
        refine thn hto fun b s8 ⟨H8, I8, q8⟩ => ?_
        have back : ∀ {σ9 : St} {H9 : Hp} {s9 : Shared}, Inv XB ([(D, { cls := .type "list", data := .seq its.toArray k })] ++ pinsAt fp s6.heap) σ9 H9 s9 → tn (i + 1) s9.heap ∧ (∀ b ∈ fp, H9 b = none) ∧ H9 D = none ∧ s9.heap.get? D = some { cls := .type "list", data := .seq its.toArray k } := fun {σ9 H9 s9} I9 => by
          have z := I9.pin (D, { cls := .type "list", data := .seq its.toArray k }) (List.mem_append_right _ (List.mem_append_left _ (List.mem_singleton.mpr rfl)))
          refine ⟨T.keep _ _ _ st6 fun b hb o e => (I9.pin (b, o) (List.mem_append_right _ (List.mem_append_right _ (mem_pinsAt hb e)))).1, fun b hb => ?_, z.2.1, z.1⟩
          obtain ⟨o, e, _⟩ := T.obj _ _ st6 b hb
          exact (I9.pin (b, o) (List.mem_append_right _ (List.mem_append_right _ (mem_pinsAt hb e)))).2.1
        cases b with
        | false =>
          rw [if_neg Bool.false_ne_true] at q8 ⊢
          obtain ⟨m', hm, w8⟩ := hN _ _ _ q8
          obtain ⟨t1, t2, t3, t4⟩ := back I8
          exact ⟨m', hm, i + 1, ys, σ7, H8, its, k, I8.pins_of (fun q hq => nomatch hq), t1, t2, t3, t4, v4, w8⟩
        | true =>
          rw [if_pos rfl] at q8 ⊢
          have heo := he0 _ s8 σ7 H8 _ I8 q8
          rw [eX] at heo
          refine thn heo fun yv s9 ⟨y, H9, I9, r9, n9⟩ => ?_
          obtain ⟨m', hm, w9⟩ := hN _ _ _ n9
          obtain ⟨t1, t2, t3, t4⟩ := back I9
          have hsz : its.toArray.size ≤ sizeLine := by
            have e := v4.length
            have e2 : its.toArray.size = its.length := by simp
            omega
          refine append_at (hsz := hsz) t4 fun h' hs' hD' => ?_
          · refine ⟨m', hm, i + 1, ys ++ [y], σ7, H9, its ++ [yv], k + 1, ?_, T.keep _ _ _ t1 fun b hb o e => hs'.extBut b o (ne_lt (fpD b hb)) e, t2, t3, ?_, v4.append (.cons r9 .nil), w9⟩
            · refine (I9.pins_of (pins' := []) (fun q hq => nomatch hq)).turned (t' := s9.toks) (it := D) (fun b o hb e => hs'.extBut b o hb e) t3 ?_ (.inr ?_) (fun x c e => ?_) fun q hq => ?_
              · rw [eL]; exact hDC
              · rw [eS]; omega
              · rw [eCl] at e
                exact ne_lt (celt x c e)
              · rw [ePn] at hq
                exact nomatch hq
            · rw [hD']
              simp
    ·
      refine ⟨okB, by rw [eS], I2.bare, by rw [eFs, eEx, eH, eS]; exact Un.kept old, ⟨_, by rw [eL]; exact hns₁, fun j x v h1 h2 h3 => ?_⟩, fun x c e => ?_, ?_, fun x c e => ?_, fun q hq => ?_, by rw [eP, eW]; exact I2.hok.kept old, by rw [eN]; exact hcap.len⟩
      · rw [eN] at h1
        obtain ⟨i, g1, g2, g3, g4⟩ := hcap.at h1 h2
        obtain ⟨m, hn, hl⟩ := I2.loc
        have hv : Vis X.env.scope x := by
          rcases g4 with z | z
          · exact .inr (.inl z)
          · exact .inr (.inr z)
        obtain ⟨u, r, l⟩ := hl i x v g1 g2 hv
        refine ⟨u, r, .inr ⟨?_, ?_⟩⟩
        · rw [eE]
          exact (relabel_free g3).symm
        · rcases l with ⟨hk, _⟩ | ⟨_, c, e, z⟩
          · rcases g4 with y | y
            · rw [y] at hk; cases hk
            · rw [y] at hk; cases hk
          · obtain ⟨c', e'⟩ := hcl2 x (PySem.mem_of_lookup g3)
            have := hcl1 x c' e'
            rw [e] at this
            cases this
            obtain ⟨o, ho, hd⟩ := z
            exact ⟨c, by rw [eCl]; exact e', o, old c o ho, hd⟩
      · rw [eCl] at e
        obtain ⟨v, o, ho, hd⟩ := I2.cell x c (hcl1 x c e)
        exact ⟨v, o, old c o ho, hd⟩
      · rw [eL]
        exact I2.hok.fresh (by rw [hDn]; omega)
      · rw [eCl] at e
        exact I2.freeC x c (hcl1 x c e)
      · rw [ePn] at hq
        exact nomatch hq
  exact codeAny_compStart_list (loop _ rfl) (T.self X.A 0 _ _ _ (T.keep _ _ _ st2 fun b hb o e => old b o e) (loop _ rfl))
theorem free_of {X : Cx} {sc : Scope} (h : (sc.names.all fun y => y.2 != .free || (X.env.kindOf y.1 == some .cell || X.env.kindOf y.1 == some .free)) = true) :
    ∀ y ∈ sc.names, y.2 = .free → X.env.kindOf y.1 = some .cell ∨ X.env.kindOf y.1 = some .free := fun y hy e => by
  have z := List.all_eq_true.mp h y hy
  rw [e] at z
  simpa using z
theorem pe_comp {X : Cx} {tg iter elt : Expr} {ifs : List Expr} {sc : Scope} {pos : Pos} {N' : List Str} {cap : List (Option Nat)} {wi : TI} {g : TG} {tst : TT} {te : TE}
    (hc : X.calm = true) (hi : PI X tg iter wi) (hcap : Caps X sc N' cap)
    (hb : ∀ cl C s₂ H₂ fp, PG (blk X N' sc cl C s₂ H₂ fp) tg g ∧ PTs (blk X N' sc cl C s₂ H₂ fp) ifs tst ∧ PE (blk X N' sc cl C s₂ H₂ fp) elt te)
    (hkind : sc.kind = .function := by rfl) (hcell : ∀ y ∈ sc.names, y.2 ≠ .cell := by decide) (hnames : ∀ y ∈ sc.names, y.2 = .local → sc.names.lookup y.1 = some .local := by decide)
    (hfree : (sc.names.all fun y => y.2 != .free || (X.env.kindOf y.1 == some .cell || X.env.kindOf y.1 == some .free)) = true := by rfl)
    (hs : ∀ x, foldedSetIterable iter X.env x = pure x := by intro _; rfl) : PE X (.ListComp elt [⟨tg, iter, ifs, 0⟩] sc pos) (tComp cap wi g tst te) := by
  intro pins s σ H Q I h
  rw [eval_ListComp]
  refine comp_run (use := none) hc hi hkind hcell hnames (free_of hfree) hcap hb I h (fun D C m H' s' I' f' hn q => ?_) hs
  refine ⟨m, hn, fun h' hs' => ⟨.ref D, H', ?_, rfl, q⟩⟩
  exact I'.turned (t' := s'.toks) (it := C) (fun b o hb e => hs'.extBut b o hb e) f'.1 f'.2.1.symm.symm f'.2.2.2.1 f'.2.2.2.2.1 f'.2.2.2.2.2
theorem ps_comp {X : Cx} {i : Nat} {y : Str} {tg iter elt : Expr} {ifs : List Expr} {sc : Scope} {pos spos py : Pos} {N' : List Str} {cap : List (Option Nat)} {wi : TI} {g : TG} {tst : TT} {te : TE}
    (hN : X.N.Nodup) (hi' : X.N[i]? = some y) (hy : Loc X.env.scope y)
    (hc : X.calm = true) (hi : PI X tg iter wi) (hcap : Caps X sc N' cap)
    (hb : ∀ cl C s₂ H₂ fp, PG (blk X N' sc cl C s₂ H₂ fp) tg g ∧ PTs (blk X N' sc cl C s₂ H₂ fp) ifs tst ∧ PE (blk X N' sc cl C s₂ H₂ fp) elt te)
    (hsw : swapsWith (.ListComp elt [⟨tg, iter, ifs, 0⟩] sc pos) (some (.Name y py)) spos.line X.env = pure true := by rfl)
    (hf : X.fn y = true ∨ X.env.scope.names.lookup y = some .local := by first | exact .inl rfl | exact .inr rfl | assumption)
    (hkind : sc.kind = .function := by rfl) (hcell : ∀ y ∈ sc.names, y.2 ≠ .cell := by decide) (hnames : ∀ y ∈ sc.names, y.2 = .local → sc.names.lookup y.1 = some .local := by decide)
    (hfree : (sc.names.all fun y => y.2 != .free || (X.env.kindOf y.1 == some .cell || X.env.kindOf y.1 == some .free)) = true := by rfl)
    (hs : ∀ x, foldedSetIterable iter X.env x = pure x := by intro _; rfl) : PS X (.Assign [.Name y py] (.ListComp elt [⟨tg, iter, ifs, 0⟩] sc pos) spos) (tAsg (tComp cap wi g tst te) (gName i)) := by
  intro pins s σ H Dn I h
  rw [exec_Assign_Name_used _ _ _ _ hsw]
  refine wpAny_bind (wpAny_standAt (wpAny_bind ?_))
  show wpAny _ X.A (do let _ ← comprehension (.ListComp elt [⟨tg, iter, ifs, 0⟩] sc pos) sc X.env _ (newList []) false (eval iter X.env) (some (assign (.Name y py) X.env))) _ _ s
  refine wpAny_bind (wpAny_mono (comp_run (use := some (assign (.Name y py) X.env)) (Q := fun x H1 => Dn.nx (σ.set i (some x)) H1) (Q' := fun _ s' => SP X pins Dn .next s') hc hi hkind hcell hnames (free_of hfree) hcap hb I h (fun D C m H' s' I' f' hn q => ?_) hs)
    (fun _ s' hq => wpAny_pure (wpAny_pure hq)) fun _ _ e => e)
  obtain ⟨o, es, ep, ho, hd, hr⟩ := id hn
  have I2 := I'.pinned (fp := [C]) (fun b hb => by rw [List.mem_singleton.mp hb]; exact f') fun b hb => by
    rw [List.mem_singleton.mp hb]
    exact ⟨o, ho, fun v => by rw [hd]; simp⟩
  refine wpAny_assign_Name (store_ok I2 hN hi' hy (v := .ref D) rfl (fun s2 I3 => ?_) hf)
  have z := (I3.pin (C, o) (List.mem_append_right _ (List.mem_append_right _ (mem_pinsAt (List.mem_singleton.mpr rfl) ho)))).1
  refine ⟨m, ⟨o, es, ep, z, hd, hr⟩, fun h' hs' => ⟨_, H', ?_, q⟩⟩
  exact I3.unpinned.turned (t' := s2.toks) (it := C) (fun b o hb e => hs'.extBut b o hb e) f'.1 f'.2.1 f'.2.2.2.1 f'.2.2.2.2.1 f'.2.2.2.2.2
end L2
namespace L2
open PySem PySem.Spec PyProof.Rows
section
variable {X : Cx}
theorem comp_list {K : PySem.W.Frag} {a : Addr} {xs : List V} {g : TG} {tst : TT} {te : TE} {σ : St} {H : Hp} {Q : VK} (Pv : Nat → List V → St → Hp → Prop) (h0 : Pv 0 [] σ H)
    (hl : ∀ i ys σ H, i ≤ xs.length → Pv i ys σ H → SqL K H a xs ∧ ys.length < sizeLine)
    (hs : ∀ i x ys σ H, xs[i]? = some x → Pv i ys σ H → g x σ H fun σ2 H3 => tst σ2 H3 fun b H4 => if b = true then te σ2 H4 fun y H5 => Pv (i + 1) (ys ++ [y]) σ2 H5 else Pv (i + 1) ys σ2 H4)
    (hd : ∀ ys σ H, Pv xs.length ys σ H → ∀ D, H D = none → Q (.ref D) (upd H D (.lst ys))) :
    CompG g tst te σ Q (Itl K a) H := by
  refine ⟨fun i m ys σ H => m = xs.length - i ∧ i ≤ xs.length ∧ Pv i ys σ H, ⟨xs.length, by simp, Nat.zero_le _, h0⟩, ?_⟩
  rintro i m ys σ H ⟨rfl, hi, p⟩
  obtain ⟨q, hz⟩ := hl i ys σ H hi p
  by_cases hlt : i < xs.length
  · refine .inr ⟨⟨xs, xs[i], q, by simp [hlt]⟩, hz, Pv (i + 1), fun ys' σ' H' p' => ⟨xs.length - (i + 1), by omega, rfl, hlt, p'⟩, fun x H' y => ?_⟩
    obtain ⟨e, y⟩ := y
    subst e
    exact hs i x ys σ _ (y xs q) p
  · have e : i = xs.length := by omega
    subst e
    exact .inl ⟨⟨xs, q, Nat.le_refl _⟩, Nat.le_of_lt hz, hd ys σ H p⟩
theorem strsAre_of {ys : List Str} : ∀ {us : List Value}, Vals (ys.map V.str) us → StrsAre us ys := by
  induction ys with
  | nil => intro us r; rw [List.map_nil] at r; cases r; exact .nil
  | cons n ns ih =>
    intro us r
    rw [List.map_cons] at r
    cases r with
    | cons r1 r2 =>
      obtain ⟨t, e⟩ := r1
      subst e
      exact .cons n t (ih r2)
def rJoin (K : PySem.W.Frag) : V → List V → Hp → VK → Prop := fun x xs H Q => ∃ sep l ys, x = .str sep ∧ xs = [.ref l] ∧ SqL K H l (ys.map V.str) ∧ (ys.map (·.length)).sum + ys.length * sep.length ≤ 16777216 ∧ Q (.str (Txt.join sep ys)) H
theorem mt_join : MtR X "str.join" (rJoin X.K) := by
  intro pins s σ H x xs v us Q I rx rs h
  obtain ⟨sep, l, ys, rfl, rfl, hl, hw, q⟩ := h
  obtain ⟨t, rfl⟩ := rx
  obtain ⟨u, rfl, ru⟩ := Vals.one rs
  cases ru
  obtain ⟨its, r, pl, hz⟩ := I.list hl
  exact join_list pl.isList (by simpa using strsAre_of r) hw fun t' k => ⟨.str _, H, I.tok k, ⟨_, rfl⟩, q⟩
theorem vals_bl {bs : List Bool} : ∀ {us : List Value} {i : Nat} {v : Value}, Vals (bs.map V.bl) us → us[i]? = some v → ∃ b, bs[i]? = some b ∧ v = .bool b := by
  induction bs with
  | nil => intro us i v r h; rw [List.map_nil] at r; cases r; simp at h
  | cons b bs ih =>
    intro us i v r h
    rw [List.map_cons] at r
    cases r with
    | cons r1 r2 =>
      cases i with
      | zero =>
        simp only [List.getElem?_cons_zero, Option.some.injEq] at h
        subst h
        exact ⟨b, by simp, r1⟩
      | succ i =>
        obtain ⟨c, h1, h2⟩ := ih r2 (by simpa using h)
        exact ⟨c, by simpa using h1, h2⟩
theorem all_range (bs : List Bool) : (List.range bs.length).all (fun i => bs.getD i false) = bs.all id := by
  have e : (List.range bs.length).map (fun i => bs.getD i false) = bs := by
    apply List.ext_getElem
    · simp
    · intro i h1 h2
      simp at h1
      simp [h1]
  conv => rhs; rw [← e]
  rw [List.all_map]
  rfl
theorem call_all (hc : X.calm = true) : CallR X (.builtin "all") (fun xs H Q => ∃ (l : Addr) (bs : List Bool), xs = [.ref l] ∧ SqL X.K H l (bs.map V.bl) ∧ Q (.bl (bs.all id)) H) := by
  intro pins s σ H xs us Q I r h
  obtain ⟨l, bs, rfl, hl, q⟩ := h
  obtain ⟨u, rfl, ru⟩ := vals1 r
  cases ru
  obtain ⟨its, rv, pl, hz⟩ := I.list hl
  have hlt : l < s.heap.objs.size := by obtain ⟨_, e, _⟩ := pl.isList; exact Heap.lt_size e
  have hlen : its.toArray.size = bs.length := by
    have e := rv.length
    rw [List.length_map] at e
    simp [e]
  refine call_all_walk (wpAny_pyIter_list pl.isList ?_)
  refine ⟨s.heap.objs.size, [s.heap.objs.size, l], [s.heap.objs.size], its.toArray.size, _, _, fun i => bs.getD i false, rfl, Walks.list (show X.A.in1.handled = none from I.ok.hd hc) s.heap.objs.size l (Nat.ne_of_lt hlt) its.toArray, ⟨⟨_, Heap.get?_push_size _ rfl, rfl, rfl⟩, pl.isList.push _⟩, ?_, fun h' tk hk => ?_⟩
  · intro i v s' Q' E' hP hq
    obtain ⟨b, h1, rfl⟩ := vals_bl rv (by simpa using hP)
    have e : bs.getD i false = b := by simp [List.getD, h1]
    exact wpAny_truthy_bool (e ▸ hq)
  · refine ⟨.bl _, H, I.kept (t' := tk) (h' := h') fun b o e => hk b o (by simpa using Nat.ne_of_lt (Heap.lt_size e)) (Heap.get?_push_of_some _ e), rfl, ?_⟩
    rw [hlen, all_range]
    exact q
end
section
variable {prog : Program} {w : World} {A : Around} {E : Value → Shared → Prop} {s : Shared}
theorem nolen_lri : typeLookup (.type "list_reverseiterator") "__len__" = pure none := by rw [typeLookup_type, builtinLookup_eq_fast]; kernel_rfl
theorem hint_lri : typeLookup (.type "list_reverseiterator") "__length_hint__" = pure (some (.builtin "list_reverseiterator.__length_hint__")) := by rw [typeLookup_type, builtinLookup_eq_fast]; kernel_rfl
theorem extend_lri {R : Result → Shared → Prop} {I : Addr} {fp wr : List Addr} {n : Nat} {P : Nat → Value → Prop} {St : Nat → Heap → Prop} (W : Walks prog w A.in1 I fp wr n P St) (hT : ∀ i (s : Shared), St i s.heap → s.TypeIs (.ref I) "list_reverseiterator") (S : Addr) (res : Value) (c₀ : Nat) (hst : St 0 s.heap) (hSf : S ∉ fp) (hI : I ∈ fp)
    (hS : s.heap.get? S = some { cls := .type "list", data := .seq #[] c₀ })
    (hR : ∀ s' acc' c', Moved (S :: wr) (fun g g' => g' = g) s s' → s'.heap.get? S = some { cls := .type "list", dict := none, data := .seq acc' c', slots := #[] } → ItemsOf P acc' n → R (.ok (.ret res)) s') (hn : n ≤ sizeLine) :
    wpAny (model prog w) A.in1 (Builtin.List.listExtendWith (.ref S) (.ref I) res)
      (fun fin s' => match fin with | .done f => R (.ok f) s' | .again c' => c'.quiet = true ∧ codeAny (model prog w) A c' R s') (fun e s' => R (.error e) s') s := by
  have hSI : S ≠ I := fun e => hSf (e ▸ hI)
  have h1 : Builtin.List.listSameRef (.ref S) (.ref I) = false := by simp [Builtin.List.listSameRef, hSI]
  unfold Builtin.List.listExtendWith
  refine wpAny_bind (wpAny_typeOf (hT 0 _ hst) ?_)
  rw [if_neg (by rw [h1]; decide)]
  refine wpAny_bind (W.self 0 _ _ _ hst ?_)
  refine wpAny_bind (wpAny_holding ?_)
  unfold Builtin.List.listLengthHint
  refine wpAny_bind (wpAny_specialOf (hT 0 _ hst) nolen_lri ?_)
  show wpAny _ A.in1 (specialOf (Value.ref I) (Str.ofString "__length_hint__") >>= _) _ _ _
  refine wpAny_bind (wpAny_specialOf (hT 0 _ hst) hint_lri ?_)
  generalize hid : ("list_reverseiterator.__length_hint__" : String) = id0
  wp_delta
  rw [show splitId id0 = some ("list_reverseiterator", "__length_hint__") from by subst hid; decide +kernel]
  subst hid
  refine wpAny_bind (wpAny_isInstance (b := true) (hT 0 _ hst) (by rw [isSubtype_type]; kernel_rfl) ?_)
  refine wpAny_pure ?_
  rw [if_neg (by decide)]
  exact wpAny_pure ⟨plainId_quiet F.plain_extend_loop _, codeAny_extend_loopS W.toS hn _ hSf _ n 0 _ _ _ rfl (Nat.zero_le _) hst hS (ItemsOf.nil P) fun s' acc' c' hm hS' hacc => hR s' acc' c' hm hS' hacc⟩
theorem init_lri {R : Result → Shared → Prop} {I : Addr} {fp wr : List Addr} {n : Nat} {P : Nat → Value → Prop} {St : Nat → Heap → Prop} (W : Walks prog w A.in1 I fp wr n P St) (hT : ∀ i (s : Shared), St i s.heap → s.TypeIs (.ref I) "list_reverseiterator") (S : Addr) (hst : St 0 s.heap) (hSf : S ∉ fp) (hI : I ∈ fp)
    (hS : s.heap.get? S = some { cls := .type "list", data := .seq #[] })
    (hR : ∀ s' acc' c', Moved (S :: wr) (fun g g' => g' = g) s s' → s'.heap.get? S = some { cls := .type "list", dict := none, data := .seq acc' c', slots := #[] } → ItemsOf P acc' n → R (.ok (.ret .none)) s') (hn : n ≤ sizeLine) :
    wpAny (model prog w) A.in1 (Builtin.«list.__init__» ⟨[.ref S, .ref I], []⟩)
      (fun fin s' => match fin with | .done f => R (.ok f) s' | .again c' => c'.quiet = true ∧ codeAny (model prog w) A c' R s') (fun e s' => R (.error e) s') s := by
  show wpAny _ A.in1 (do let old ← Builtin.List.listItems (.ref S); Builtin.List.listUpdate (.ref S) (fun _ => #[]); letGo old.toList.reverse; Builtin.List.listExtendWith (.ref S) (.ref I) .none) _ _ s
  refine wpAny_bind ?_
  unfold Builtin.List.listItems
  refine wpAny_bind (wpAny_seqItems hS rfl (wpAny_pure ?_))
  show wpAny _ A.in1 (updateSeq S (fun _ => #[]) >>= fun _ => letGo (#[] : Array Value).toList.reverse >>= fun _ => Builtin.List.listExtendWith (.ref S) (.ref I) .none) _ _ s
  refine wpAny_bind (wpAny_updateSeq hS rfl ?_)
  have hS₂ := Heap.get?_update_self (Obj.mapSeq (fun _ => (#[] : Array Value))) hS rfl
  have oth : ∀ b o, b ≠ S → s.heap.get? b = some o → (s.heap.update S (Obj.mapSeq (fun _ => (#[] : Array Value)))).get? b = some o :=
    fun b o hb e => (Heap.get?_update_other _ _ (Ne.symm hb)).trans e
  refine wpAny_bind (wpAny_letGo ?_)
  refine extend_lri (hn := hn) W hT S .none _ (W.frame 0 s.heap _ hst fun b hb o e => oth b o (fun h => hSf (h ▸ hb)) e) hSf hI hS₂ fun s' acc' c' hm hS' hacc => ?_
  exact hR s' acc' c' (Moved.trans (fun _ _ _ h1 h2 => h2.trans h1) ((Moved.refl (wr := S :: wr) (G := fun g g' => g' = g) (fun _ => rfl)).then_heap (Nat.le_refl _) fun b o hb e => oth b o (fun h => hb (by rw [h]; exact List.mem_cons_self)) e) hm) hS' hacc
theorem call_list_lri {Q : Value → Shared → Prop} {I : Addr} {fp wr : List Addr} {n : Nat} {P : Nat → Value → Prop} {St : Nat → Heap → Prop} (W : Walks prog w A.in1.in1 I fp wr n P St) (hT : ∀ i (s : Shared), St i s.heap → s.TypeIs (.ref I) "list_reverseiterator") (hst : St 0 s.heap) (hfp : ∀ b ∈ fp, b < s.heap.objs.size) (hI : I ∈ fp)
    (hQ : ∀ s' acc' c', Moved (s.heap.objs.size :: wr) (fun g g' => g' = g) { s with heap := s.heap.push { cls := .type "list", data := .seq #[] } } s' →
      s'.heap.get? s.heap.objs.size = some { cls := .type "list", dict := none, data := .seq acc' c', slots := #[] } → ItemsOf P acc' n → Q (.ref s.heap.objs.size) s') (hn : n ≤ sizeLine) :
    wpAny (model prog w) A (call (.type "list") [.ref I]) Q E s := by
  have hSf : s.heap.objs.size ∉ fp := fun hm => Nat.lt_irrefl _ (hfp _ hm)
  refine callType_codes (Q₁ := fun obj s₁ => obj = .ref s.heap.objs.size ∧ s₁ = { s with heap := s.heap.push { cls := .type "list", data := .seq #[] } }) F.called_list (F.typeCall_list_1 _) F.entry_list_init
    (code_list_new _ ⟨rfl, rfl⟩) fun obj s₁ h₁ => ?_
  obtain ⟨rfl, rfl⟩ := h₁
  have hS : (s.heap.push { cls := .type "list", data := .seq #[] }).get? s.heap.objs.size = some { cls := .type "list", data := .seq #[] } := Heap.get?_push_size _ rfl
  refine ⟨⟨_, hS, rfl⟩, F.args_list_init_2 _ _, init_lri (hn := hn) W hT _ (W.frame 0 s.heap _ hst fun b _ o e => Heap.get?_push_of_some _ e) hSf hI hS fun s' acc' c' hm hS' hacc => ?_⟩
  exact ⟨rfl, hQ s' acc' c' hm hS' hacc⟩
end
def tListRev (K : PySem.W.Frag) (te : TE) : TE := fun σ H Q => te σ H fun x H1 => ∃ l ys, x = .ref l ∧ SqL K H1 l ys ∧ ∀ q, H1 q = none → Q (.ref q) (upd H1 q (.lst ys.reverse))
theorem vals_rev {its : Array Value} {acc : Array Value} {ys : List V} (r : Vals ys its.toList) (h : ItemsOf (fun i v => its[its.size - 1 - i]? = some v) acc its.size) : Vals ys.reverse acc.toList := by
  have e : acc.toList = its.toList.reverse := by
    apply List.ext_getElem?
    intro i
    by_cases hi : i < its.size
    · have h1 : i < acc.size := by rw [h.1]; exact hi
      have h2 := h.2 i acc[i] (by simp [h1])
      rw [List.getElem?_reverse (by simpa using hi)]
      simp only [Array.length_toList, Array.getElem?_toList]
      rw [h2]
      simp [h1]
    · have h1 : ¬ i < acc.size := by rw [h.1]; exact hi
      rw [List.getElem?_eq_none (by simpa using h1), List.getElem?_eq_none (by simpa using hi)]
  rw [e]
  exact Vals.reverse r
theorem pe_listrev {X : Cx} {e : Expr} {te : TE} {p1 p2 pos2 pos : Pos} (hc : X.calm = true) (hg1 : Gl X "list") (hm1 : X.mg "list" = none) (hg2 : Gl X "reversed") (hm2 : X.mg "reversed" = none) (he : PE X e te)
    (hs1 : starEach [e] X.env = [(false, eval e X.env)] := by rfl) (hs2 : starEach [.Call (.Name "reversed" p2) [e] [] pos2] X.env = [(false, eval (.Call (.Name "reversed" p2) [e] [] pos2) X.env)] := by rfl) :
    PE X (.Call (.Name "list" p1) [.Call (.Name "reversed" p2) [e] [] pos2] [] pos) (tListRev X.K te) := by
  intro pins s σ H Q I h
  refine wpAny_Call_Name_kw (ld_blt I hg1 hm1 boot_list ?_)
  refine PyProof.Rows.callWith_type1 ?_ hs2 rfl
  rw [hs2]
  show wpAny _ _ (spliced ((false, eval (.Call (.Name "reversed" p2) [e] [] pos2) X.env) :: backTo pos (starEach [] X.env))) _ _ s
  refine Calls.spliced_cons ?_
  refine wpAny_Call_Name_kw (ld_blt I hg2 hm2 boot_reversed ?_)
  refine PyProof.Rows.callWith_type1 ?_ hs1 rfl
  rw [hs1]
  show wpAny _ _ (spliced ((false, eval e X.env) :: backTo pos2 (starEach [] X.env))) _ _ s
  refine Calls.spliced_cons (thn (he pins s σ H _ I h) fun u s1 ⟨x, H1, I1, r1, l, ys, ex, hl, q⟩ => ?_)
  subst ex
  cases r1
  refine Calls.spliced_nil ?_
  obtain ⟨its, rv, pl, hz⟩ := I1.list hl
  have hlt : l < s1.heap.objs.size := by obtain ⟨_, e, _⟩ := pl.isList; exact Heap.lt_size e
  refine call_reversed_list pl.isList (Calls.spliced_nil ?_)
  have W := Walks.listRev (prog := X.prog) (w := X.w) (A := X.A.in1.in1) (show X.A.in1.in1.handled = none from I.ok.hd hc) s1.heap.objs.size l (Nat.ne_of_lt hlt) its.toArray
  refine call_list_lri (s := { s1 with heap := s1.heap.push (revObj l ((its.toArray.size : Int) - 1)) }) W (fun i s' st => st.2.1.typeIs) ⟨Nat.zero_le _, ⟨_, Heap.get?_push_size _ rfl, rfl, by simp [revObj]⟩, pl.isList.push _⟩ (fun b hb => ?_) (by simp) (fun s' acc' c' hm hS' hacc => ?_) ?_
  · show b < (s1.heap.push _).objs.size
    rw [Heap.size_push]
    rcases List.mem_cons.mp hb with z | z
    · rw [z]; exact Nat.lt_succ_self _
    · rw [List.mem_singleton.mp z]; exact Nat.lt_succ_of_lt hlt
  · rw [Moved.eq_with hm]
    have kp : ∀ b o, s1.heap.get? b = some o → s'.heap.get? b = some o := fun b o e => hm.heap b o (fun z => by
      have hb : @LT.lt Nat _ b s1.heap.objs.size := Heap.lt_size e
      rcases List.mem_cons.mp z with z | z
      · rw [z] at hb
        simp only [Heap.size_push] at hb
        omega
      · rw [List.mem_singleton.mp z] at hb
        omega) (Heap.get?_push_of_some _ (Heap.get?_push_of_some _ e))
    have hv : Vals ys.reverse acc'.toList := vals_rev (its := its.toArray) (by simpa using rv) hacc
    have hf : H1 ((s1.heap.push (revObj l ((its.toArray.size : Int) - 1))).objs.size) = none := I1.hok.fresh (by rw [Heap.size_push]; omega)
    refine ⟨.ref _, _, I1.laid (t' := s'.toks) (h' := s'.heap) (o := .lst ys.reverse) kp (by rw [Heap.size_push]; omega) ⟨by rw [List.length_reverse]; exact hz, acc'.toList, c', hv, by simpa using hS'⟩, rfl, q _ hf⟩
  · have e := rv.length
    rw [List.size_toArray]
    omega
end L2
namespace L2
open PySem PySem.Spec PyProof.Rows
section
variable {X : Cx}
theorem pe_globR {x : Str} {y : Addr} {pos : Pos} (hg : Gl X x) (hm : X.mg x = some (.ref y)) (hd : (x == ("__debug__" : Str)) = false := by decide) : PE X (.Name x pos) (tC (.ref y)) := pe_glob hg hm rfl hd
def CDivB (_ j : Int) : Prop := 0 < j ∧ j < 18446744073709551616
theorem op_fdivB : OpR X (binaryOp .FloorDiv) (rI CDivB fun i j => .int (i / j)) := opI fun i j _ _ _ _ _ hc q => by
  obtain ⟨h1, h2⟩ := hc
  have e : i.fdiv j = i / j := Int.fdiv_eq_ediv_of_nonneg _ (by omega)
  refine floordiv_int (by omega) (by rw [e]; exact q) (.inl (PyProof.noPylong_of_log2 ?_))
  have h3 : j.natAbs < 2 ^ 64 := by omega
  have h4 : j.natAbs ≠ 0 := by omega
  exact Nat.lt_trans ((Nat.log2_lt h4).mpr h3) (by decide)
end
def dk (s n : Int) (l : Addr) : List (Key × V) := [(.inr "seed", .int s), (.inr "number", .int n), (.inr "left", .ref l)]
theorem dk_seed {s n : Int} {l : Addr} : valV (dk s n l) (.inr "seed" : Key) = some (.int s) := by kernel_rfl
theorem dk_number {s n : Int} {l : Addr} : valV (dk s n l) (.inr "number" : Key) = some (.int n) := by kernel_rfl
theorem dk_left {s n : Int} {l : Addr} : valV (dk s n l) (.inr "left" : Key) = some (.ref l) := by kernel_rfl
theorem put_number {s n m : Int} {l : Addr} : putK (dk s n l) (.inr "number" : Key) (.int m) = dk s m l := by kernel_rfl
theorem put_seed {s n m : Int} {l : Addr} : putK (dk s n l) (.inr "seed" : Key) (.int m) = dk m n l := by kernel_rfl
structure DealS (H : Hp) (d l : Addr) (s n : Int) (ls : List Int) : Prop where
  hd : H d = some (.dK (dk s n l))
  hl : H l = some (.lst (ls.map V.int))
  s0 : 0 ≤ s
  s1 : s < 2147483647
  n0 : 0 ≤ n
  l0 : ∀ x ∈ ls, 0 ≤ x
def Deal (H : Hp) (d l : Addr) : Prop := ∃ s n ls, DealS H d l s n ls
def Kp (d l : Addr) (H H' : Hp) : Prop := ∀ b o, H b = some o → b ≠ d → b ≠ l → H' b = some o
theorem Kp.refl {d l : Addr} {H : Hp} : Kp d l H H := fun _ _ h _ _ => h
theorem Kp.trans {d l : Addr} {H H1 H2 : Hp} (a : Kp d l H H1) (b : Kp d l H1 H2) : Kp d l H H2 := fun c o h h1 h2 => b c o (a c o h h1 h2) h1 h2
theorem DealS.ne {H : Hp} {d l : Addr} {s n : Int} {ls : List Int} (D : DealS H d l s n ls) : d ≠ l := ne_of D.hd D.hl (by intro z; cases z)
theorem DealS.num {H : Hp} {d l : Addr} {s n m : Int} {ls : List Int} (D : DealS H d l s n ls) (h : 0 ≤ m) : DealS (upd H d (.dK (putK (dk s n l) (.inr "number" : Key) (.int m)))) d l s m ls :=
  ⟨by rw [upd_same, put_number], by rw [upd_ne D.ne.symm]; exact D.hl, D.s0, D.s1, h, D.l0⟩
theorem DealS.seed {H : Hp} {d l : Addr} {s n m : Int} {ls : List Int} (D : DealS H d l s n ls) (h : 0 ≤ m) (h2 : m < 2147483647) : DealS (upd H d (.dK (putK (dk s n l) (.inr "seed" : Key) (.int m)))) d l m n ls :=
  ⟨by rw [upd_same, put_seed], by rw [upd_ne D.ne.symm]; exact D.hl, h, h2, D.n0, D.l0⟩
theorem DealS.list {H : Hp} {d l : Addr} {s n : Int} {ls ls' : List Int} (D : DealS H d l s n ls) (h : ∀ x ∈ ls', 0 ≤ x) : DealS (upd H l (.lst (ls'.map V.int))) d l s n ls' :=
  ⟨by rw [upd_ne D.ne]; exact D.hd, upd_same, D.s0, D.s1, D.n0, h⟩
theorem Kp.updd {d l : Addr} {H H1 : Hp} {o : HO} (a : Kp d l H H1) : Kp d l H (upd H1 d o) := fun c u h h1 h2 => by rw [upd_ne h1]; exact a c u h h1 h2
theorem Kp.updl {d l : Addr} {H H1 : Hp} {o : HO} (a : Kp d l H H1) : Kp d l H (upd H1 l o) := fun c u h h1 h2 => by rw [upd_ne h2]; exact a c u h h1 h2
theorem Kp.new {d l p : Addr} {H H1 : Hp} {o : HO} (a : Kp d l H H1) (hp : H1 p = none) : Kp d l H (upd H1 p o) := fun c u h h1 h2 => by
  have z := a c u h h1 h2
  rw [upd_ne (ne_of_none z hp)]; exact z
theorem Same.new {p : Addr} {H H1 : Hp} {o : HO} (a : Same H H1) (hp : H1 p = none) : Same H (upd H1 p o) := fun c u h => by
  have z := a c u h
  rw [upd_ne (ne_of_none z hp)]; exact z
theorem Deal.new {d l p : Addr} {H : Hp} {o : HO} (D : Deal H d l) (hp : H p = none) : Deal (upd H p o) d l := by
  obtain ⟨s, n, ls, D⟩ := D
  exact ⟨s, n, ls, by rw [upd_ne (ne_of_none D.hd hp)]; exact D.hd, by rw [upd_ne (ne_of_none D.hl hp)]; exact D.hl, D.s0, D.s1, D.n0, D.l0⟩
theorem Deal.same {d l : Addr} {H H' : Hp} (D : Deal H d l) (h : Same H H') : Deal H' d l := by
  obtain ⟨s, n, ls, D⟩ := D
  exact ⟨s, n, ls, h _ _ D.hd, h _ _ D.hl, D.s0, D.s1, D.n0, D.l0⟩
def spDraw : Sp := fun vs H Q _ => ∃ (d l : Addr) (m : Int), vs = [.ref d, .int m] ∧ Deal H d l ∧ 0 < m ∧ m < 18446744073709551616 ∧
  ∀ (r : Int) (H' : Hp), 0 ≤ r → r < m → Deal H' d l → Kp d l H H' → Q (.int r) H'
def spDeal (K : PySem.W.Frag) : Sp := fun vs H Q _ => ∃ (a : Addr) (ns : List Int) (b : Int), vs = [.ref a, .int b] ∧ SqL K H a (ns.map V.int) ∧ ns.length ≤ 63 ∧ 0 ≤ b ∧ b ≤ 63 ∧
  ∀ (d l : Addr) (H' : Hp), H d = none → H l = none → Deal H' d l → Same H H' → Q (.ref d) H'
end L2
namespace L2
open PySem PySem.Spec PyProof.Rows
theorem while_inv {c : TT} {tb : TS} {D : Ends} {σ : St} {H : Hp} (I : Nat → St → Hp → Prop) {m : Nat} (h0 : I m σ H) (hend : ∀ m σ H, I m σ H → D.nx σ H)
    (hs : ∀ m σ H, I m σ H → D.nx σ H → c σ H fun b H1 => if b = true then ∃ N : St → Hp → Prop, (∀ σ' H', N σ' H' → ∃ m', m' < m ∧ I m' σ' H') ∧ tb { D with nx := N, ct := N, bk := D.nx } σ H1 else D.nx σ H1) : tWhile c tb D σ H :=
  ⟨I, ⟨m, h0⟩, fun m σ H h => hs m σ H h (hend m σ H h)⟩
theorem DealS.gseed {H : Hp} {d l : Addr} {s n : Int} {ls : List Int} (D : DealS H d l s n ls) : DGet H d (.str "seed") (some (.int s)) := by
  have z := DGet.k (k := (Sum.inr "seed" : Key)) D.hd
  rw [dk_seed] at z
  exact z
theorem DealS.gnum {H : Hp} {d l : Addr} {s n : Int} {ls : List Int} (D : DealS H d l s n ls) : DGet H d (.str "number") (some (.int n)) := by
  have z := DGet.k (k := (Sum.inr "number" : Key)) D.hd
  rw [dk_number] at z
  exact z
theorem DealS.gleft {H : Hp} {d l : Addr} {s n : Int} {ls : List Int} (D : DealS H d l s n ls) : DGet H d (.str "left") (some (.ref l)) := by
  have z := DGet.k (k := (Sum.inr "left" : Key)) D.hd
  rw [dk_left] at z
  exact z
theorem DealS.pnum {H : Hp} {d l : Addr} {s n m : Int} {ls : List Int} (D : DealS H d l s n ls) : DPut H d (.str "number") (.int m) (upd H d (.dK (putK (dk s n l) (.inr "number" : Key) (.int m)))) :=
  DPut.k (k := (Sum.inr "number" : Key)) D.hd (small1000 (by show 3 ≤ 1000; decide))
theorem DealS.pseed {H : Hp} {d l : Addr} {s n m : Int} {ls : List Int} (D : DealS H d l s n ls) : DPut H d (.str "seed") (.int m) (upd H d (.dK (putK (dk s n l) (.inr "seed" : Key) (.int m)))) :=
  DPut.k (k := (Sum.inr "seed" : Key)) D.hd (small1000 (by show 3 ≤ 1000; decide))
theorem mod_lt {x m : Int} (h : 0 < m) : 0 ≤ x % m ∧ x % m < m := ⟨Int.emod_nonneg _ (by omega), Int.emod_lt_of_pos _ h⟩
end L2
namespace L2
theorem cut_ints (ns : List Int) (lo hi : Option Int) : ∃ cs : List Int, cutV (ns.map V.int) lo hi = cs.map V.int ∧ cs.length ≤ ns.length := by
  refine ⟨(ns.drop (HT.sIx ns.length 0 lo)).take (HT.sIx ns.length ns.length hi - HT.sIx ns.length 0 lo), ?_, ?_⟩
  · unfold cutV
    rw [List.length_map, ← List.map_drop, ← List.map_take]
  · rw [List.length_take, List.length_drop]
    omega
theorem int_at {ns : List Int} {i : Nat} {x : V} (h : (ns.map V.int)[i]? = some x) : ∃ z, x = .int z := by
  rw [List.getElem?_map] at h
  cases e : ns[i]? with
  | none => rw [e] at h; cases h
  | some z => rw [e] at h; exact ⟨z, (Option.some.inj h).symm⟩
theorem int_mem {ns : List Int} {i : Nat} {x : V} (h : (ns.map V.int)[i]? = some x) : ∃ z, x = .int z ∧ z ∈ ns := by
  rw [List.getElem?_map] at h
  cases e : ns[i]? with
  | none => rw [e] at h; cases h
  | some z => rw [e] at h; exact ⟨z, (Option.some.inj h).symm, List.mem_of_getElem? e⟩
end L2
namespace L2
open PySem
theorem Deal.fresh {H : Hp} {d l p : Addr} (D : Deal H d l) (h : H p = none) : p ≠ d ∧ p ≠ l := by
  obtain ⟨s, n, ls, D⟩ := D
  exact ⟨(ne_of_none D.hd h).symm, (ne_of_none D.hl h).symm⟩
theorem atI_lt {α : Type} {xs : List α} {i : Int} (h0 : 0 ≤ i) (h1 : i < xs.length) : ∃ v, atI xs i = some v ∧ v ∈ xs := by
  obtain ⟨n, rfl⟩ : ∃ n : Nat, i = n := ⟨i.toNat, by omega⟩
  have h2 : n < xs.length := by omega
  refine ⟨xs[n], ?_, List.getElem_mem h2⟩
  unfold atI ixN
  rw [if_pos h0, if_pos h1]
  simp [h2]
end L2
namespace L2
end L2
namespace L2
open PySem PySem.Spec PyProof.Rows
def StrsIn (B : Nat) (xs : List V) : Prop := ∀ x ∈ xs, ∃ z : Str, x = .str z ∧ z.length ≤ B
theorem StrsIn.append {B : Nat} {xs ys : List V} (h : StrsIn B xs) (h2 : StrsIn B ys) : StrsIn B (xs ++ ys) := fun x hx => (List.mem_append.mp hx).elim (h x) (h2 x)
theorem StrsIn.cons {B : Nat} {z : Str} {xs : List V} (h : z.length ≤ B) (h2 : StrsIn B xs) : StrsIn B (.str z :: xs) := fun x hx => (List.mem_cons.mp hx).elim (fun e => ⟨z, e, h⟩) (h2 x)
theorem StrsIn.nil {B : Nat} : StrsIn B [] := fun _ h => nomatch h
theorem StrsIn.at {B : Nat} {xs : List V} {i : Int} (h : StrsIn B xs) (h0 : 0 ≤ i) (h1 : i < xs.length) : ∃ z, atI xs i = some (.str z) ∧ z.length ≤ B := by
  obtain ⟨v, e, hm⟩ := atI_lt h0 h1
  obtain ⟨z, rfl, hz⟩ := h v hm
  exact ⟨z, e, hz⟩
end L2
namespace L2
theorem gn_tst0 {i : Nat} {x : V} {σ : St} {H : Hp} {A B : St → Hp → Prop} (h : A (σ.set i (some x)) H) : gName i x σ H fun σ2 H3 => tTst0 σ2 H3 fun b H4 => if b = true then A σ2 H4 else B σ2 H4 := by
  show if true = true then A (σ.set i (some x)) H else B (σ.set i (some x)) H
  rw [if_pos rfl]
  exact h
end L2
namespace L2
end L2
namespace L2
open PySem PySem.Spec PyProof.Rows
section
variable {X : Cx}
end
end L2
namespace L2
open PySem
def lett (n : Nat) : Nat := 97 + n % 26
end L2
namespace L2
open PySem
end L2
namespace L2
open PySem PySem.Spec PyProof.Rows
inductive Tr where
  | s (x : Str) | i (n : Int) | b (v : Bool) | n | t (xs : List Tr)
mutual
inductive Rep (H : Hp) : V → Tr → Prop where
  | s (x : Str) : Rep H (.str x) (.s x)
  | i (n : Int) : Rep H (.int n) (.i n)
  | b (v : Bool) : Rep H (.bl v) (.b v)
  | n : Rep H .non .n
  | t {a : Addr} {vs : List V} {ts : List Tr} : H a = some (.tup vs) → Reps H vs ts → Rep H (.ref a) (.t ts)
inductive Reps (H : Hp) : List V → List Tr → Prop where
  | nil : Reps H [] []
  | cons {v : V} {x : Tr} {vs : List V} {ts : List Tr} : Rep H v x → Reps H vs ts → Reps H (v :: vs) (x :: ts)
end
def TupKeep (H H' : Hp) : Prop := ∀ a vs, H a = some (.tup vs) → H' a = some (.tup vs)
theorem TupKeep.refl {H : Hp} : TupKeep H H := fun _ _ h => h
theorem TupKeep.trans {H H1 H2 : Hp} (a : TupKeep H H1) (b : TupKeep H1 H2) : TupKeep H H2 := fun c vs h => b c vs (a c vs h)
theorem Same.tk {H H' : Hp} (h : Same H H') : TupKeep H H' := fun a vs e => h a _ e
theorem Kp.tk {H H' : Hp} {d l : Addr} (h : Kp d l H H') (D : Deal H d l) : TupKeep H H' := fun a vs e => by
  obtain ⟨s, n, ls, D⟩ := D
  exact h a _ e (ne_of e D.hd (by intro z; cases z)) (ne_of e D.hl (by intro z; cases z))
theorem TupKeep.new {H H1 : Hp} {p : Addr} {o : HO} (h : TupKeep H H1) (hp : H1 p = none) : TupKeep H (upd H1 p o) := fun a vs e => by
  have z := h a vs e
  rw [upd_ne (ne_of_none z hp)]; exact z
theorem TupKeep.put {H H1 : Hp} {p : Addr} {o u : HO} (h : TupKeep H H1) (hp : H1 p = some u) (hu : ∀ vs, u ≠ .tup vs) : TupKeep H (upd H1 p o) := fun a vs e => by
  have z := h a vs e
  rw [upd_ne (ne_of z hp (hu vs).symm)]; exact z
mutual
theorem Rep.mono {H H' : Hp} (k : TupKeep H H') : ∀ {v : V} {t : Tr}, Rep H v t → Rep H' v t
  | _, _, .s x => .s x
  | _, _, .i n => .i n
  | _, _, .b v => .b v
  | _, _, .n => .n
  | _, _, .t h r => .t (k _ _ h) (Reps.mono k r)
theorem Reps.mono {H H' : Hp} (k : TupKeep H H') : ∀ {vs : List V} {ts : List Tr}, Reps H vs ts → Reps H' vs ts
  | _, _, .nil => .nil
  | _, _, .cons h r => .cons (Rep.mono k h) (Reps.mono k r)
end
theorem Rep.tup {H : Hp} {v : V} {ts : List Tr} (h : Rep H v (.t ts)) : ∃ a vs, v = .ref a ∧ H a = some (.tup vs) ∧ Reps H vs ts := by
  cases h with
  | t h r => exact ⟨_, _, rfl, h, r⟩
theorem Rep.str {H : Hp} {v : V} {x : Str} (h : Rep H v (.s x)) : v = .str x := by cases h; rfl
theorem Reps.length {H : Hp} : ∀ {vs : List V} {ts : List Tr}, Reps H vs ts → vs.length = ts.length
  | _, _, .nil => rfl
  | _, _, .cons _ r => by simp [Reps.length r]
theorem Reps.get {H : Hp} : ∀ {vs : List V} {ts : List Tr} {i : Nat} {v : V}, Reps H vs ts → vs[i]? = some v → ∃ t, ts[i]? = some t ∧ Rep H v t
  | _, _, _, _, .nil, h => by simp at h
  | _, _, 0, _, .cons h r, e => by
    simp at e
    subst e
    exact ⟨_, by simp, h⟩
  | _, _, i + 1, v, .cons h r, e => by
    obtain ⟨t, h1, h2⟩ := Reps.get (i := i) (v := v) r (by simpa using e)
    exact ⟨t, by simpa using h1, h2⟩
theorem Reps.one {H : Hp} {vs : List V} {x : Tr} (h : Reps H vs [x]) : ∃ v, vs = [v] ∧ Rep H v x := by
  cases h with
  | cons h r => cases r; exact ⟨_, rfl, h⟩
theorem Reps.two {H : Hp} {vs : List V} {x y : Tr} (h : Reps H vs [x, y]) : ∃ v w, vs = [v, w] ∧ Rep H v x ∧ Rep H w y := by
  cases h with
  | cons h r =>
    obtain ⟨w, rfl, hw⟩ := r.one
    exact ⟨_, w, rfl, h, hw⟩
theorem Reps.append {H : Hp} : ∀ {vs ws : List V} {ts us : List Tr}, Reps H vs ts → Reps H ws us → Reps H (vs ++ ws) (ts ++ us)
  | _, _, _, _, .nil, h => h
  | _, _, _, _, .cons h r, h2 => .cons h (Reps.append r h2)
theorem Reps.strs {H : Hp} : ∀ (xs : List Str), Reps H (xs.map V.str) (xs.map Tr.s)
  | [] => .nil
  | x :: r => .cons (.s x) (Reps.strs r)
abbrev Mk1 := Str × List Str
abbrev Kd := Str × List Mk1
def mkOf (ks : List Kd) (k : Str) : List Mk1 := match ks.find? (fun x => decide (x.1 = k)) with
  | some x => x.2
  | none => []
end L2
namespace L2
open PySem PySem.Spec PyProof.Rows
section
variable {prog : Program} {w : World} {A : Around} {E : Value → Shared → Prop} {s : Shared}
theorem next_tup_item {it t : Addr} {i : Nat} {items : Array Value} {x : Value} {Q : Value → Shared → Prop} (hit : s.heap.IsTupleIter it t i) (ht : s.heap.IsTuple t items) (hx : items[i]? = some x)
    (hQ : ∀ h', h'.IsTupleIter it t (i + 1) → Heap.SameBut it s.heap h' → Q x { s with heap := h' }) : wpAny (model prog w) A (Builtin.SmallTypes.nextOf (.ref it)) Q E s := by
  obtain ⟨o, ho, hc, hd⟩ := id hit
  obtain ⟨ol, hol, _, nl, hdl⟩ := ht
  unfold Builtin.SmallTypes.nextOf
  refine wpAny_bind (wpAny_callSpecial?_slot (name := Str.ofString "__next__") hit.typeIs F.slot_tuple_iterator_next
    (wpAny_call_entry F.slot_tuple_iterator_next hit.typeIs F.entry_tuple_iterator_next ?_ (F.args_tuple_iterator_next_1 _)))
  show wpAny _ _ (field (.ref it) 0 >>= _) _ _ s
  refine wpAny_bind (wpAny_field ho hd (x := .ref t) rfl ?_)
  show wpAny _ _ (if (Value.ref t == Value.none) = true then _ else _) _ _ s
  rw [if_neg (show ¬ ((Value.ref t == Value.none) = true) from Bool.false_ne_true)]
  show wpAny _ _ (field (.ref it) 1 >>= _) _ _ s
  refine wpAny_bind (wpAny_field ho hd (x := .int i 0) rfl ?_)
  show wpAny _ _ (seqItems? (.ref t) >>= _) _ _ s
  refine wpAny_bind (wpAny_seqItems hol hdl ?_)
  simp only [Int.toNat_natCast, hx]
  refine wpAny_bind (wpAny_setField ho hd (by simp) (wpAny_pure ⟨x, rfl, wpAny_pure (hQ _ ?_ (Heap.SameBut.update ..))⟩))
  exact ⟨_, Heap.get?_update_self _ ho (Obj.isFreed_of_fields (Obj.data_mapFields hd _)), (Obj.cls_mapFields ..).trans hc, by
    rw [Obj.data_mapFields hd]; simp [rawInt]⟩
theorem next_tup_end {it t : Addr} {i : Nat} {items : Array Value} {Q : Value → Shared → Prop} (hh : A.handled = none) (hit : s.heap.IsTupleIter it t i) (ht : s.heap.IsTuple t items) (hx : items[i]? = none)
    (hE : ∀ h' e, Heap.ExtBut it s.heap h' → (∃ o, h'.get? e = some o ∧ o.cls = .type "StopIteration") → E (.ref e) { s with heap := h' }) : wpAny (model prog w) A (Builtin.SmallTypes.nextOf (.ref it)) Q E s := by
  obtain ⟨o, ho, hc, hd⟩ := id hit
  obtain ⟨ol, hol, _, nl, hdl⟩ := ht
  unfold Builtin.SmallTypes.nextOf
  refine wpAny_bind (wpAny_callSpecial?_slot (name := Str.ofString "__next__") hit.typeIs F.slot_tuple_iterator_next
    (wpAny_call_entry F.slot_tuple_iterator_next hit.typeIs F.entry_tuple_iterator_next ?_ (F.args_tuple_iterator_next_1 _)))
  show wpAny _ _ (field (.ref it) 0 >>= _) _ _ s
  refine wpAny_bind (wpAny_field ho hd (x := .ref t) rfl ?_)
  show wpAny _ _ (if (Value.ref t == Value.none) = true then _ else _) _ _ s
  rw [if_neg (show ¬ ((Value.ref t == Value.none) = true) from Bool.false_ne_true)]
  show wpAny _ _ (field (.ref it) 1 >>= _) _ _ s
  refine wpAny_bind (wpAny_field ho hd (x := .int i 0) rfl ?_)
  show wpAny _ _ (seqItems? (.ref t) >>= _) _ _ s
  refine wpAny_bind (wpAny_seqItems hol hdl ?_)
  simp only [Int.toNat_natCast, hx]
  refine wpAny_bind (wpAny_rule (wpAny_bind (wpAny_setField ho hd (by simp) ?_)))
  show wpAny _ _ (newExc (.type "StopIteration") [] >>= _) _ _ _
  refine wpAny_bind ?_
  simp only [newExc, newTuple]
  refine wpAny_bind (wpAny_newObj_type ?_ (by size_fits))
  refine wpAny_bind (m := firstArgMember _ _) (wpAny_of_eq (a := Value.none) (by first | rfl | (simp only [firstArgMember]; rfl)) ?_)
  refine wpAny_newObj_type ?_ (by size_fits)
  simp only [raiseNew]
  refine wpAny_bind (wpAny_handled ?_)
  first | rw [show A.in1.handled = none from hh] | rw [hh]
  refine wpAny_bind (wpAny_pure (wpAny_throw ?_))
  exact hE _ _ (((Heap.SameBut.update ..).extBut.push _).push _) ⟨_, Heap.get?_push_size _ rfl, rfl⟩
def SeqIter (h : Heap) (tp : Bool) (it l : Addr) (k : Nat) : Prop := if tp = true then h.IsTupleIter it l k else h.IsListIter it l k
def SeqObj (h : Heap) (tp : Bool) (l : Addr) (items : Array Value) : Prop := if tp = true then h.IsTuple l items else h.IsList l items
theorem SeqIter.at {h h' : Heap} {tp : Bool} {it l : Addr} {k : Nat} (x : SeqIter h tp it l k) (e : ∀ o, h.get? it = some o → h'.get? it = some o) : SeqIter h' tp it l k := by
  cases tp with
  | true => obtain ⟨o, ho, r⟩ := (show h.IsTupleIter it l k from x); exact (show h'.IsTupleIter it l k from ⟨o, e o ho, r⟩)
  | false => obtain ⟨o, ho, r⟩ := (show h.IsListIter it l k from x); exact (show h'.IsListIter it l k from ⟨o, e o ho, r⟩)
theorem SeqObj.at {h h' : Heap} {tp : Bool} {l : Addr} {items : Array Value} (x : SeqObj h tp l items) (e : ∀ o, h.get? l = some o → h'.get? l = some o) : SeqObj h' tp l items := by
  cases tp with
  | true => obtain ⟨o, ho, r⟩ := (show h.IsTuple l items from x); exact (show h'.IsTuple l items from ⟨o, e o ho, r⟩)
  | false => obtain ⟨o, ho, r⟩ := (show h.IsList l items from x); exact (show h'.IsList l items from ⟨o, e o ho, r⟩)
theorem SeqIter.obj {h : Heap} {tp : Bool} {it l : Addr} {k : Nat} (x : SeqIter h tp it l k) : ∃ o, h.get? it = some o ∧ ∀ v, o.data ≠ .cell v := by
  cases tp with
  | true => obtain ⟨o, ho, _, hd⟩ := (show h.IsTupleIter it l k from x); exact ⟨o, ho, fun v => by rw [hd]; simp⟩
  | false => obtain ⟨o, ho, _, hd⟩ := (show h.IsListIter it l k from x); exact ⟨o, ho, fun v => by rw [hd]; simp⟩
theorem next_item {tp : Bool} {it l : Addr} {i : Nat} {items : Array Value} {x : Value} {Q : Value → Shared → Prop} (hit : SeqIter s.heap tp it l i) (hl : SeqObj s.heap tp l items) (hx : items[i]? = some x)
    (hQ : ∀ h', SeqIter h' tp it l (i + 1) → Heap.SameBut it s.heap h' → Q x { s with heap := h' }) : wpAny (model prog w) A (Builtin.SmallTypes.nextOf (.ref it)) Q E s := by
  cases tp with
  | true => exact next_tup_item hit hl hx hQ
  | false => exact wpAny_nextOf_list_item hit hl hx hQ
theorem next_end {tp : Bool} {it l : Addr} {i : Nat} {items : Array Value} {Q : Value → Shared → Prop} (hh : A.handled = none) (hit : SeqIter s.heap tp it l i) (hl : SeqObj s.heap tp l items) (hx : items[i]? = none)
    (hE : ∀ h' e, Heap.ExtBut it s.heap h' → (∃ o, h'.get? e = some o ∧ o.cls = .type "StopIteration") → E (.ref e) { s with heap := h' }) : wpAny (model prog w) A (Builtin.SmallTypes.nextOf (.ref it)) Q E s := by
  cases tp with
  | true => exact next_tup_end hh hit hl hx hE
  | false => exact wpAny_nextOf_list_end hh hit hl hx hE
theorem zip_item {z TI TO i1 i2 l1 l2 : Addr} {t1 t2 : Bool} {k1 k2 : Nat} {xs ys : Array Value} {x y a b : Value} {Q : Option Value → Shared → Prop} (D : ZipApart z TI TO i1 i2 l1 l2)
    (hz : IsZip s.heap z TI TO .none) (hTI : IsPair s.heap TI (.ref i1) (.ref i2)) (hTO : IsPair s.heap TO a b)
    (h1 : SeqIter s.heap t1 i1 l1 k1) (h2 : SeqIter s.heap t2 i2 l2 k2) (hl1 : SeqObj s.heap t1 l1 xs) (hl2 : SeqObj s.heap t2 l2 ys) (hx : xs[k1]? = some x) (hy : ys[k2]? = some y)
    (hQ : ∀ h', IsZip h' z TI TO (rawInt s.heap.objs.size) → IsPair h' TO x y → SeqIter h' t1 i1 l1 (k1 + 1) → SeqIter h' t2 i2 l2 (k2 + 1) → IsPair h' s.heap.objs.size x y → h'.objs.size = s.heap.objs.size + 1 →
      (∀ c o, c ≠ z → c ≠ TO → c ≠ i1 → c ≠ i2 → s.heap.get? c = some o → h'.get? c = some o) → Q (some (.ref s.heap.objs.size)) { s with heap := h' }) :
    wpAny (model prog w) A (pyNext (.ref z)) Q E s := by
  have hT : s.TypeIs (.ref z) "zip" := ⟨_, hz, rfl⟩
  unfold pyNext
  refine wpAny_bind (wpAny_attempt (wpAny_callSpecial?_slot (name := Str.ofString "__next__") hT F.slot_zip_next
    (wpAny_call_entry F.slot_zip_next hT F.entry_zip_next ?_ (F.args_zip_next_1 _))))
  show wpAny _ _ (field (.ref z) 2 >>= _) _ _ _
  refine wpAny_bind (wpAny_field hz rfl (x := .bool false) rfl ?_)
  show wpAny _ _ (field (.ref z) 3 >>= _) _ _ _
  refine wpAny_bind (wpAny_field hz rfl (x := .ref TI) rfl ?_)
  refine wpAny_bind (wpAny_seqItems hTI rfl ?_)
  show wpAny _ _ (Builtin.SmallTypes.ownedTupleIsFree (.ref z) >>= _) _ _ _
  refine wpAny_bind ?_
  unfold Builtin.SmallTypes.ownedTupleIsFree
  refine wpAny_bind (wpAny_field hz rfl (x := .none) rfl (wpAny_pure ?_))
  simp only [if_true]
  refine wpAny_bind (wpAny_rule ?_)
  refine wpAny_bind (wpAny_field hz rfl (x := .ref TO) rfl ?_)
  refine wpAny_bind (wpAny_setField_rec hz (by simp) fun h₁ hz₁ hs₁ => ?_)
  replace hz₁ : IsZip h₁ z TI TO .ellipsis := hz₁
  refine wpAny_bind ?_
  simp only [List.zipIdx_cons, List.zipIdx_nil, List.forIn_cons, List.forIn_nil]
  refine wpAny_bind (wpAny_bind (wpAny_onRaise ?_))
  show wpAny _ _ (Builtin.SmallTypes.nextOf (.ref i1) >>= _) _ _ _
  refine wpAny_bind (next_item (h1.at fun o e => hs₁.extBut _ o D.i1z e) (hl1.at fun o e => hs₁.extBut _ o D.l1z e) hx fun h₂ h1₂ hs₂ => wpAny_pure ?_)
  have hTO₂ : IsPair h₂ TO a b := hs₂.extBut _ _ D.TOi1 (hs₁.extBut _ _ D.TOz hTO)
  refine wpAny_bind (wpAny_seqItems hTO₂ rfl ?_)
  refine wpAny_bind (wpAny_updateSeq_pair hTO₂ fun h₃ hTO₃ hs₃ => ?_)
  replace hTO₃ : IsPair h₃ TO x b := hTO₃
  refine wpAny_bind (wpAny_letGo (wpAny_pure ?_))
  refine wpAny_bind (wpAny_bind (wpAny_onRaise ?_))
  show wpAny _ _ (Builtin.SmallTypes.nextOf (.ref i2) >>= _) _ _ _
  refine wpAny_bind (next_item (h2.at fun o e => hs₃.extBut _ o D.TOi2.symm (hs₂.extBut _ o D.i12.symm (hs₁.extBut _ o D.i2z e)))
    (hl2.at fun o e => hs₃.extBut _ o D.l2TO (hs₂.extBut _ o D.l2i1 (hs₁.extBut _ o D.l2z e))) hy fun h₄ h2₄ hs₄ => wpAny_pure ?_)
  have hTO₄ : IsPair h₄ TO x b := hs₄.extBut _ _ D.TOi2 hTO₃
  refine wpAny_bind (wpAny_seqItems hTO₄ rfl ?_)
  refine wpAny_bind (wpAny_updateSeq_pair hTO₄ fun h₅ hTO₅ hs₅ => ?_)
  replace hTO₅ : IsPair h₅ TO x y := hTO₅
  refine wpAny_bind (wpAny_letGo (wpAny_pure (wpAny_pure ?_)))
  refine wpAny_bind (wpAny_seqItems hTO₅ rfl ?_)
  refine wpAny_bind (wpAny_newTuple ?_)
  have hsz : h₅.objs.size = s.heap.objs.size := by rw [hs₅.1, hs₄.1, hs₃.1, hs₂.1, hs₁.1]
  have hz₅ : IsZip h₅ z TI TO .ellipsis := hs₅.extBut _ _ D.TOz.symm (hs₄.extBut _ _ D.i2z.symm (hs₃.extBut _ _ D.TOz.symm (hs₂.extBut _ _ D.i1z.symm hz₁)))
  have hk₅ : ∀ c o, c ≠ z → c ≠ TO → c ≠ i1 → c ≠ i2 → s.heap.get? c = some o → h₅.get? c = some o := fun c o c1 c2 c3 c4 e =>
    hs₅.extBut _ _ c2 (hs₄.extBut _ _ c4 (hs₃.extBut _ _ c2 (hs₂.extBut _ _ c3 (hs₁.extBut _ _ c1 e))))
  have h1₅ : SeqIter h₅ t1 i1 l1 (k1 + 1) := h1₂.at fun o e => hs₅.extBut _ o D.TOi1.symm (hs₄.extBut _ o D.i12 (hs₃.extBut _ o D.TOi1.symm e))
  have h2₅ : SeqIter h₅ t2 i2 l2 (k2 + 1) := h2₄.at fun o e => hs₅.extBut _ o D.TOi2.symm e
  have hzlt : z < h₅.objs.size := Heap.lt_size hz₅
  show wpAny _ _ (Builtin.SmallTypes.ownedTupleHandOut (.ref z) (.ref h₅.objs.size) >>= _) _ _ _
  refine wpAny_bind ?_
  unfold Builtin.SmallTypes.ownedTupleHandOut
  have hz₆ : IsZip (h₅.push { cls := .type "tuple", data := .seq #[x, y] }) z TI TO .ellipsis := Heap.get?_push_of_some _ hz₅
  refine wpAny_bind (wpAny_setField_rec hz₆ (by simp) fun h₇ hz₇ hs₇ => ?_)
  replace hz₇ : IsZip h₇ z TI TO (rawInt h₅.objs.size) := hz₇
  refine wpAny_setField_rec hz₇ (by simp) fun h₈ hz₈ hs₈ => ?_
  replace hz₈ : IsZip h₈ z TI TO (rawInt h₅.objs.size) := hz₈
  have up : ∀ c o, c ≠ z → h₅.get? c = some o → h₈.get? c = some o := fun c o c1 e => hs₈.extBut _ _ c1 (hs₇.extBut _ _ c1 (Heap.get?_push_of_some _ e))
  have hT₈ : IsPair h₈ h₅.objs.size x y := hs₈.extBut _ _ (Nat.ne_of_gt hzlt) (hs₇.extBut _ _ (Nat.ne_of_gt hzlt) (Heap.get?_push_size _ rfl))
  have hz8 : h₈.objs.size = h₅.objs.size + 1 := by rw [hs₈.1, hs₇.1, Heap.size_push]
  rw [hsz] at hz₈ hT₈ hz8
  refine wpAny_pure ⟨_, rfl, wpAny_pure ?_⟩
  show Q (some (.ref h₅.objs.size)) _
  rw [hsz]
  exact hQ h₈ hz₈ (up _ _ D.TOz hTO₅) (h1₅.at fun o e => up _ o D.i1z e) (h2₅.at fun o e => up _ o D.i2z e) hT₈ hz8 fun c o c1 c2 c3 c4 e => up c o c1 (hk₅ c o c1 c2 c3 c4 e)
theorem zip_end {z TI TO i1 i2 l1 l2 : Addr} {t1 t2 : Bool} {k1 k2 : Nat} {xs ys : Array Value} {a b : Value} {Q : Option Value → Shared → Prop} (hh : A.handled = none) (D : ZipApart z TI TO i1 i2 l1 l2)
    (hz : IsZip s.heap z TI TO .none) (hTI : IsPair s.heap TI (.ref i1) (.ref i2)) (hTO : IsPair s.heap TO a b)
    (h1 : SeqIter s.heap t1 i1 l1 k1) (h2 : SeqIter s.heap t2 i2 l2 k2) (hl1 : SeqObj s.heap t1 l1 xs) (hl2 : SeqObj s.heap t2 l2 ys) (hend : xs[k1]? = none ∨ ys[k2]? = none)
    (hQ : ∀ h', (∀ c o, c ≠ z → c ≠ TO → c ≠ i1 → c ≠ i2 → s.heap.get? c = some o → h'.get? c = some o) → Q none { s with heap := h' }) : wpAny (model prog w) A (pyNext (.ref z)) Q E s := by
  have hT : s.TypeIs (.ref z) "zip" := ⟨_, hz, rfl⟩
  have fin : ∀ h' e, (∀ c o, c ≠ z → c ≠ TO → c ≠ i1 → c ≠ i2 → s.heap.get? c = some o → h'.get? c = some o) → (∃ o, h'.get? e = some o ∧ o.cls = .type "StopIteration") →
      wpAny (model prog w) A (do if ← isInstance (.ref e) (.type "StopIteration") then pure none else throw (.ref e)) Q E { s with heap := h' } := fun h' e hk he => by
    obtain ⟨o, ho, hc⟩ := he
    refine wpAny_bind (wpAny_isInstance (T := "StopIteration") (b := true) ⟨o, ho, hc⟩ isSubtype_stop ?_)
    exact wpAny_pure (hQ _ hk)
  unfold pyNext
  refine wpAny_bind (wpAny_attempt (wpAny_callSpecial?_slot (name := Str.ofString "__next__") hT F.slot_zip_next
    (wpAny_call_entry F.slot_zip_next hT F.entry_zip_next ?_ (F.args_zip_next_1 _))))
  show wpAny _ _ (field (.ref z) 2 >>= _) _ _ _
  refine wpAny_bind (wpAny_field hz rfl (x := .bool false) rfl ?_)
  show wpAny _ _ (field (.ref z) 3 >>= _) _ _ _
  refine wpAny_bind (wpAny_field hz rfl (x := .ref TI) rfl ?_)
  refine wpAny_bind (wpAny_seqItems hTI rfl ?_)
  show wpAny _ _ (Builtin.SmallTypes.ownedTupleIsFree (.ref z) >>= _) _ _ _
  refine wpAny_bind ?_
  unfold Builtin.SmallTypes.ownedTupleIsFree
  refine wpAny_bind (wpAny_field hz rfl (x := .none) rfl (wpAny_pure ?_))
  simp only [if_true]
  refine wpAny_bind (wpAny_rule ?_)
  refine wpAny_bind (wpAny_field hz rfl (x := .ref TO) rfl ?_)
  refine wpAny_bind (wpAny_setField_rec hz (by simp) fun h₁ hz₁ hs₁ => ?_)
  replace hz₁ : IsZip h₁ z TI TO .ellipsis := hz₁
  refine wpAny_bind ?_
  simp only [List.zipIdx_cons, List.zipIdx_nil, List.forIn_cons, List.forIn_nil]
  refine wpAny_bind (wpAny_bind (wpAny_onRaise ?_))
  show wpAny _ _ (Builtin.SmallTypes.nextOf (.ref i1) >>= _) _ _ _
  cases hx : xs[k1]? with
  | none =>
    refine wpAny_bind (next_end hh (h1.at fun o e => hs₁.extBut _ o D.i1z e) (hl1.at fun o e => hs₁.extBut _ o D.l1z e) hx fun h₂ e hs₂ he => ?_)
    obtain ⟨oe, hoe, hce⟩ := he
    have hz₂ : IsZip h₂ z TI TO .ellipsis := hs₂ _ _ D.i1z.symm hz₁
    have hez : e ≠ z := fun x => by subst x; rw [hz₂] at hoe; cases hoe; simp at hce
    refine wpAny_setField_rec hz₂ (by simp) fun h₃ _ hs₃ => fin h₃ e (fun c o c1 _ c3 _ x => hs₃.extBut _ _ c1 (hs₂ _ _ c3 (hs₁.extBut _ _ c1 x))) ⟨oe, hs₃.extBut _ _ hez hoe, hce⟩
  | some x =>
    have hy : ys[k2]? = none := by rcases hend with h | h; rw [hx] at h; cases h; exact h
    refine wpAny_bind (next_item (h1.at fun o e => hs₁.extBut _ o D.i1z e) (hl1.at fun o e => hs₁.extBut _ o D.l1z e) hx fun h₂ h1₂ hs₂ => wpAny_pure ?_)
    have hTO₂ : IsPair h₂ TO a b := hs₂.extBut _ _ D.TOi1 (hs₁.extBut _ _ D.TOz hTO)
    refine wpAny_bind (wpAny_seqItems hTO₂ rfl ?_)
    refine wpAny_bind (wpAny_updateSeq_pair hTO₂ fun h₃ hTO₃ hs₃ => ?_)
    refine wpAny_bind (wpAny_letGo (wpAny_pure ?_))
    refine wpAny_bind (wpAny_bind (wpAny_onRaise ?_))
    show wpAny _ _ (Builtin.SmallTypes.nextOf (.ref i2) >>= _) _ _ _
    refine wpAny_bind (next_end hh (h2.at fun o e => hs₃.extBut _ o D.TOi2.symm (hs₂.extBut _ o D.i12.symm (hs₁.extBut _ o D.i2z e)))
      (hl2.at fun o e => hs₃.extBut _ o D.l2TO (hs₂.extBut _ o D.l2i1 (hs₁.extBut _ o D.l2z e))) hy fun h₄ e hs₄ he => ?_)
    obtain ⟨oe, hoe, hce⟩ := he
    have hz₄ : IsZip h₄ z TI TO .ellipsis := hs₄ _ _ D.i2z.symm (hs₃.extBut _ _ D.TOz.symm (hs₂.extBut _ _ D.i1z.symm hz₁))
    have hez : e ≠ z := fun x => by subst x; rw [hz₄] at hoe; cases hoe; simp at hce
    refine wpAny_setField_rec hz₄ (by simp) fun h₅ _ hs₅ => fin h₅ e (fun c o c1 c2 c3 c4 x => hs₅.extBut _ _ c1 (hs₄ _ _ c4 (hs₃.extBut _ _ c2 (hs₂.extBut _ _ c3 (hs₁.extBut _ _ c1 x))))) ⟨oe, hs₅.extBut _ _ hez hoe, hce⟩
end
end L2
namespace L2
open PySem PySem.Spec PyProof.Rows
theorem Reps.at {H : Hp} {α : Type} {f : α → Tr} {xs : List α} {vs : List V} {i : Nat} {v : V} (h : Reps H vs (xs.map f)) (hi : vs[i]? = some v) : ∃ x, xs[i]? = some x ∧ Rep H v (f x) := by
  obtain ⟨t, h1, h2⟩ := h.get hi
  rw [List.getElem?_map] at h1
  cases e : xs[i]? with
  | none => rw [e] at h1; cases h1
  | some x => rw [e] at h1; cases h1; exact ⟨x, rfl, h2⟩
theorem Same.put {H H1 : Hp} {p : Addr} {o : HO} (h : Same H H1) (hp : H p = none) : Same H (upd H1 p o) := fun c u hc => by
  rw [upd_ne (ne_of_none hc hp)]; exact h c u hc
def kindOf (ks : List Kd) (m : Str) : V := match ks.find? (fun x => decide (m ∈ x.2.map (·.1))) with
  | some x => .str x.1
  | none => .non
def allF (ks : List Kd) : List Str := ks.flatMap fun k => k.2.flatMap (·.2)
def flds (ks : List Kd) (k : Str) : List Str := (mkOf ks k).flatMap (·.2)
inductive Reach (ks : List Kd) (a : Str) : Str → Prop where
  | here : Reach ks a a
  | step {b c : Str} : Reach ks a b → c ∈ flds ks b → Reach ks a c
def SmK (ks : List Kd) : Prop := ks.length ≤ 100 ∧ (∀ k ∈ ks, k.2.length ≤ 100) ∧ (allF ks).length ≤ 900
theorem mkOf_mem {ks : List Kd} {k : Str} : mkOf ks k = [] ∨ ∃ x ∈ ks, mkOf ks k = x.2 ∧ x.1 = k := by
  unfold mkOf
  cases e : ks.find? (fun x => decide (x.1 = k)) with
  | none => exact .inl rfl
  | some x => exact .inr ⟨x, List.mem_of_find?_eq_some e, rfl, by have z := List.find?_some e; simpa using z⟩
theorem flds_sub {ks : List Kd} {k f : Str} (h : f ∈ flds ks k) : f ∈ allF ks := by
  unfold flds at h
  rcases mkOf_mem (ks := ks) (k := k) with e | ⟨x, hx, e, _⟩
  · rw [e] at h; simp at h
  · rw [e] at h
    exact List.mem_flatMap.mpr ⟨x, hx, h⟩
theorem SmK.mk {ks : List Kd} {k : Str} (h : SmK ks) : (mkOf ks k).length ≤ 100 := by
  rcases mkOf_mem (ks := ks) (k := k) with e | ⟨x, hx, e, _⟩
  · rw [e]; exact Nat.zero_le _
  · rw [e]; exact h.2.1 x hx
def un (U rs : List Str) : Nat := (U.filter fun u => decide (u ∉ rs)).length
theorem un_le {U rs : List Str} : un U rs ≤ U.length := List.length_filter_le _ _
theorem filt_le {p q : Str → Bool} (hpq : ∀ x, q x = true → p x = true) : ∀ U : List Str, (U.filter q).length ≤ (U.filter p).length
  | [] => Nat.le_refl _
  | u :: U => by
    have z := filt_le hpq U
    cases hq : q u with
    | true =>
      rw [List.filter_cons_of_pos hq, List.filter_cons_of_pos (hpq u hq)]
      simp only [List.length_cons]; omega
    | false =>
      rw [List.filter_cons_of_neg (by rw [hq]; decide)]
      cases hp : p u with
      | true => rw [List.filter_cons_of_pos hp]; simp only [List.length_cons]; omega
      | false => rw [List.filter_cons_of_neg (by rw [hp]; decide)]; exact z
theorem filt_lt {p q : Str → Bool} {f : Str} (hpq : ∀ x, q x = true → p x = true) (hp : p f = true) (hq : q f = false) : ∀ U : List Str, f ∈ U → (U.filter q).length + 1 ≤ (U.filter p).length
  | [], h => by simp at h
  | u :: U, h => by
    by_cases e : u = f
    · subst e
      have z := filt_le hpq U
      rw [List.filter_cons_of_neg (by rw [hq]; decide), List.filter_cons_of_pos hp]
      simp only [List.length_cons]; omega
    · have z := filt_lt hpq hp hq U (by
        rcases List.mem_cons.mp h with h | h
        · exact absurd h.symm e
        · exact h)
      cases hq2 : q u with
      | true =>
        rw [List.filter_cons_of_pos hq2, List.filter_cons_of_pos (hpq u hq2)]
        simp only [List.length_cons]; omega
      | false =>
        rw [List.filter_cons_of_neg (by rw [hq2]; decide)]
        cases hp2 : p u with
        | true => rw [List.filter_cons_of_pos hp2]; simp only [List.length_cons]; omega
        | false => rw [List.filter_cons_of_neg (by rw [hp2]; decide)]; exact z
theorem un_snoc {U rs : List Str} {f : Str} (hf : f ∈ U) (hn : f ∉ rs) : un U (rs ++ [f]) + 1 ≤ un U rs := by
  refine filt_lt (fun x hx => ?_) (decide_eq_true hn) (decide_eq_false (by simp)) U hf
  have hx := of_decide_eq_true hx
  exact decide_eq_true fun z => hx (List.mem_append.mpr (.inl z))
def marks (rs : List Str) : List (Key × V) := rs.map fun s => (.inr s, .bl true)
structure RS (ks : List Kd) (k here : Str) (done rs W : List Str) (c : Nat) : Prop where
  ki : k ∈ rs
  w : ∀ r ∈ W, r ∈ rs
  hi : here ∈ rs
  re : ∀ r ∈ rs, Reach ks k r
  cl : ∀ r ∈ rs, r ∉ W → r = here ∨ ∀ f ∈ flds ks r, f ∈ rs
  dn : ∀ f ∈ done, f ∈ rs
  sz : rs.length + un (allF ks) rs ≤ (allF ks).length + 1
  sw : W.length ≤ rs.length
  m : 2 * un (allF ks) rs + W.length < c
theorem RS.old {ks : List Kd} {k here f : Str} {done rs W : List Str} {c : Nat} (R : RS ks k here done rs W c) (hf : f ∈ rs) : RS ks k here (done ++ [f]) rs W c :=
  ⟨R.ki, R.w, R.hi, R.re, R.cl, fun g hg => (List.mem_append.mp hg).elim (R.dn g) fun h => by rw [List.mem_singleton.mp h]; exact hf, R.sz, R.sw, R.m⟩
theorem RS.new {ks : List Kd} {k here f : Str} {done rs W : List Str} {c : Nat} (R : RS ks k here done rs W c) (hn : f ∉ rs) (hf : f ∈ flds ks here) : RS ks k here (done ++ [f]) (rs ++ [f]) (W ++ [f]) c where
  ki := List.mem_append.mpr (.inl R.ki)
  w := fun r hr => by
    rcases List.mem_append.mp hr with h | h
    · exact List.mem_append.mpr (.inl (R.w r h))
    · exact List.mem_append.mpr (.inr h)
  hi := List.mem_append.mpr (.inl R.hi)
  re := fun r hr => by
    rcases List.mem_append.mp hr with h | h
    · exact R.re r h
    · rw [List.mem_singleton.mp h]; exact .step (R.re _ R.hi) hf
  cl := fun r hr hw => by
    rcases List.mem_append.mp hr with h | h
    · rcases R.cl r h (fun z => hw (List.mem_append.mpr (.inl z))) with e | e
      · exact .inl e
      · exact .inr fun g hg => List.mem_append.mpr (.inl (e g hg))
    · exact absurd (List.mem_append.mpr (.inr h)) hw
  dn := fun g hg => by
    rcases List.mem_append.mp hg with h | h
    · exact List.mem_append.mpr (.inl (R.dn g h))
    · exact List.mem_append.mpr (.inr h)
  sz := by
    have := un_snoc (flds_sub hf) hn
    have := R.sz
    simp only [List.length_append, List.length_singleton]
    omega
  sw := by
    have := R.sw
    simp only [List.length_append, List.length_singleton]
    omega
  m := by
    have := un_snoc (flds_sub hf) hn
    have := R.m
    simp only [List.length_append, List.length_singleton]
    omega
structure RWt (ks : List Kd) (k : Str) (rs W : List Str) : Prop where
  ki : k ∈ rs
  w : ∀ r ∈ W, r ∈ rs
  re : ∀ r ∈ rs, Reach ks k r
  cl : ∀ r ∈ rs, r ∉ W → ∀ f ∈ flds ks r, f ∈ rs
  sz : rs.length + un (allF ks) rs ≤ (allF ks).length + 1
  sw : W.length ≤ rs.length
theorem RWt.pop {ks : List Kd} {k here : Str} {rs W : List Str} (R : RWt ks k rs (W ++ [here])) : RS ks k here [] rs W (2 * un (allF ks) rs + (W ++ [here]).length) where
  ki := R.ki
  w := fun r hr => R.w r (List.mem_append.mpr (.inl hr))
  hi := R.w _ (by simp)
  re := R.re
  cl := fun r hr hw => by
    by_cases e : r = here
    · exact .inl e
    · exact .inr (R.cl r hr (by simp [hw, e]))
  dn := fun f hf => by simp at hf
  sz := R.sz
  sw := by
    have := R.sw
    simp only [List.length_append, List.length_singleton] at this
    omega
  m := by simp
theorem RS.fin {ks : List Kd} {k here : Str} {done rs W : List Str} {c : Nat} (R : RS ks k here done rs W c) (hd : done = flds ks here) : RWt ks k rs W :=
  { ki := R.ki, w := R.w, re := R.re, sz := R.sz, sw := R.sw,
    cl := fun r hr hw => by
      rcases R.cl r hr hw with e | e
      · subst e; subst hd; exact R.dn
      · exact e }
theorem RWt.all {ks : List Kd} {k : Str} {rs : List Str} (R : RWt ks k rs []) {s : Str} : s ∈ rs ↔ Reach ks k s := by
  refine ⟨R.re s, fun h => ?_⟩
  induction h with
  | here => exact R.ki
  | step _ hc ih => exact R.cl _ ih (by simp) _ hc
theorem RWt.start {ks : List Kd} {k : Str} : RWt ks k [k] [k] where
  ki := by simp
  w := fun r h => h
  re := fun r h => by rw [List.mem_singleton.mp h]; exact .here
  cl := fun r h n => absurd h n
  sz := by have := un_le (U := allF ks) (rs := [k]); simp; omega
  sw := Nat.le_refl _
end L2
namespace L2
open PySem PySem.Spec PyProof.Rows
end L2
namespace L2
open PySem PySem.Spec PyProof.Rows
section
variable {prog : Program} {w : World} {κ : Type} [DecidableEq κ]
end
def ClosedTo (ks : List Kd) (b : Nat) (R : Nat → List Str) : Prop := ∀ (m n : Nat) (km kn : Kd), m < b → ks[m]? = some km → ks[n]? = some kn → km.1 ∈ R n → ∀ s ∈ R m, s ∈ R n
structure Marked (ks : List Kd) (R : Nat → List Str) : Prop where
  re : ∀ (n : Nat) (kn : Kd), ks[n]? = some kn → ∀ s ∈ R n, Reach ks kn.1 s
  me : ∀ (n : Nat) (kn : Kd), ks[n]? = some kn → kn.1 ∈ R n
  fl : ∀ (n : Nat) (kn : Kd), ks[n]? = some kn → ∀ s ∈ flds ks kn.1, s ∈ R n
theorem Reach.trans {ks : List Kd} {a b c : Str} (h1 : Reach ks a b) (h2 : Reach ks b c) : Reach ks a c := by
  induction h2 with
  | here => exact h1
  | step _ h ih => exact .step ih h
theorem ClosedTo.next {ks : List Kd} {b : Nat} {R R' : Nat → List Str} {kb : Kd} (hb : ks[b]? = some kb) (h : ClosedTo ks b R)
    (hR : ∀ (n : Nat) (kn : Kd), ks[n]? = some kn → ∀ s, s ∈ R' n ↔ s ∈ R n ∨ kb.1 ∈ R n ∧ s ∈ R b) : ClosedTo ks (b + 1) R' := by
  intro m n km kn hm e1 e2 hin s hs
  rw [hR n kn e2] at hin ⊢
  rw [hR m km e1] at hs
  by_cases e : m = b
  · subst e
    rw [e1] at hb
    cases hb
    rcases hin with h1 | ⟨h1, _⟩
    · rcases hs with h2 | ⟨_, h2⟩
      · exact .inr ⟨h1, h2⟩
      · exact .inr ⟨h1, h2⟩
    · rcases hs with h2 | ⟨_, h2⟩
      · exact .inr ⟨h1, h2⟩
      · exact .inr ⟨h1, h2⟩
  · have hm : m < b := by omega
    rcases hin with h1 | ⟨h1, h3⟩
    · rcases hs with h2 | ⟨h4, h2⟩
      · exact .inl (h m n km kn hm e1 e2 h1 s h2)
      · exact .inr ⟨h m n km kn hm e1 e2 h1 _ h4, h2⟩
    · rcases hs with h2 | ⟨h4, h2⟩
      · exact .inr ⟨h1, h m b km kb hm e1 hb h3 s h2⟩
      · exact .inr ⟨h1, h2⟩
theorem Marked.next {ks : List Kd} {b : Nat} {R R' : Nat → List Str} {kb : Kd} (hb : ks[b]? = some kb) (h : Marked ks R)
    (hR : ∀ (n : Nat) (kn : Kd), ks[n]? = some kn → ∀ s, s ∈ R' n ↔ s ∈ R n ∨ kb.1 ∈ R n ∧ s ∈ R b) : Marked ks R' where
  re := fun n kn e s hs => by
    rcases (hR n kn e s).mp hs with h1 | ⟨h1, h2⟩
    · exact h.re n kn e s h1
    · exact (h.re n kn e _ h1).trans (h.re b kb hb s h2)
  me := fun n kn e => (hR n kn e _).mpr (.inl (h.me n kn e))
  fl := fun n kn e s hs => (hR n kn e _).mpr (.inl (h.fl n kn e s hs))
theorem Marked.all {ks : List Kd} {R : Nat → List Str} (h : Marked ks R) (c : ClosedTo ks ks.length R) {n : Nat} {kn : Kd} (e : ks[n]? = some kn) {s : Str} : s ∈ R n ↔ Reach ks kn.1 s := by
  refine ⟨h.re n kn e s, fun hr => ?_⟩
  induction hr with
  | here => exact h.me n kn e
  | @step b t _ hf ih =>
    rcases mkOf_mem (ks := ks) (k := b) with e0 | ⟨x, hx, e0, e1⟩
    · unfold flds at hf
      rw [e0] at hf
      simp at hf
    · obtain ⟨m, hm, e2⟩ := List.mem_iff_getElem.mp hx
      have e3 : ks[m]? = some x := by rw [List.getElem?_eq_getElem hm, e2]
      subst e1
      exact c m n x kn hm e3 e ih _ (h.fl m x e3 _ hf)
end L2
namespace L2
open PySem PySem.Spec PyProof.Rows
theorem nodup_ixS : ∀ {xs : List Str} {i j : Nat} {x : Str}, xs.Nodup → xs[i]? = some x → xs[j]? = some x → i = j
  | [], _, _, _, _, h, _ => by simp at h
  | a :: xs, 0, 0, _, _, _, _ => rfl
  | a :: xs, 0, j + 1, x, hn, h1, h2 => by
    simp at h1 h2
    subst h1
    exact absurd (List.mem_of_getElem? h2) (List.nodup_cons.mp hn).1
  | a :: xs, i + 1, 0, x, hn, h1, h2 => by
    simp at h1 h2
    subst h2
    exact absurd (List.mem_of_getElem? h1) (List.nodup_cons.mp hn).1
  | a :: xs, i + 1, j + 1, x, hn, h1, h2 => by
    simp at h1 h2
    rw [nodup_ixS (List.nodup_cons.mp hn).2 h1 h2]
theorem names_ix {ks : List Kd} (hn : (ks.map (·.1)).Nodup) {i j : Nat} {x y : Kd} (h1 : ks[i]? = some x) (h2 : ks[j]? = some y) (e : x.1 = y.1) : i = j :=
  nodup_ixS (x := x.1) hn (by rw [List.getElem?_map, h1]; rfl) (by rw [List.getElem?_map, h2, e]; rfl)
theorem Reach.sub {ks : List Kd} {a s : Str} (h : Reach ks a s) : s ∈ a :: allF ks := by
  cases h with
  | here => simp
  | step _ hf => exact List.mem_cons_of_mem _ (flds_sub hf)
structure Fnd (ks : List Kd) (H H' : Hp) (f : Addr) (kvs : List (Key × V)) (i : Nat) (D : Nat → Addr) (R : Nat → List Str) : Prop where
  hf : H' f = some (.dK kvs)
  kl : kvs.length ≤ i
  va : ∀ (n : Nat) (kn : Kd), n < i → ks[n]? = some kn → valV kvs (.inr kn.1) = some (.ref (D n))
  hd : ∀ n, n < i → H' (D n) = some (.dK (marks (R n)))
  dj : ∀ n m, n < i → m < i → D n = D m → n = m
  df : ∀ n, n < i → D n ≠ f
  fr : ∀ n, n < i → H (D n) = none
  nd : ∀ n, n < i → (R n).Nodup
  sm : Same H H'
def setN {α : Type} (f : Nat → α) (i : Nat) (x : α) : Nat → α := fun n => if n = i then x else f n
theorem setN_same {α : Type} {f : Nat → α} {i : Nat} {x : α} : setN f i x i = x := if_pos rfl
theorem setN_ne {α : Type} {f : Nat → α} {i n : Nat} {x : α} (h : n ≠ i) : setN f i x n = f n := if_neg h
theorem Fnd.new {ks : List Kd} {H H' : Hp} {f p : Addr} {kvs : List (Key × V)} {i : Nat} {D : Nat → Addr} {R : Nat → List Str} {ki : Kd} (F : Fnd ks H H' f kvs i D R) (hfH : H f = none) (hp : H' p = none) (hi : ks[i]? = some ki) (hn : (ks.map (·.1)).Nodup) :
    Fnd ks H (upd (upd H' p (.dK (marks [ki.1]))) f (.dK (putK kvs (.inr ki.1) (.ref p)))) f (putK kvs (.inr ki.1) (.ref p)) (i + 1) (setN D i p) (setN R i [ki.1]) where
  hf := upd_same
  kl := Nat.le_trans (length_putK _ _ _) (Nat.succ_le_succ F.kl)
  va := fun n kn hni e => by
    rw [valV_put]
    by_cases c : n = i
    · subst c
      rw [hi] at e
      cases e
      rw [if_pos rfl, setN_same]
    · have ne : kn.1 ≠ ki.1 := fun z => c (names_ix hn e hi z)
      rw [if_neg (fun z => ne (Sum.inr.inj z)), setN_ne c]
      exact F.va n kn (by omega) e
  hd := fun n hn => by
    have fp : f ≠ p := ne_of_none F.hf hp
    by_cases c : n = i
    · subst c
      rw [setN_same, setN_same, upd_ne fp.symm, upd_same]
    · rw [setN_ne c, setN_ne c, upd_ne (F.df n (by omega)), upd_ne (ne_of_none (F.hd n (by omega)) hp)]
      exact F.hd n (by omega)
  dj := fun n m hn hm e => by
    by_cases c1 : n = i
    · by_cases c2 : m = i
      · omega
      · subst c1
        rw [setN_same, setN_ne c2] at e
        exact absurd e.symm (ne_of_none (F.hd m (by omega)) hp)
    · by_cases c2 : m = i
      · subst c2
        rw [setN_same, setN_ne c1] at e
        exact absurd e (ne_of_none (F.hd n (by omega)) hp)
      · rw [setN_ne c1, setN_ne c2] at e
        exact F.dj n m (by omega) (by omega) e
  df := fun n hn => by
    by_cases c : n = i
    · subst c
      rw [setN_same]
      exact (ne_of_none F.hf hp).symm
    · rw [setN_ne c]; exact F.df n (by omega)
  fr := fun n hn => by
    by_cases c : n = i
    · subst c
      rw [setN_same]
      exact F.sm.free hp
    · rw [setN_ne c]; exact F.fr n (by omega)
  nd := fun n hn => by
    by_cases c : n = i
    · subst c
      rw [setN_same]
      simp
    · rw [setN_ne c]; exact F.nd n (by omega)
  sm := (F.sm.new hp).put hfH
theorem Fnd.set {ks : List Kd} {H H' : Hp} {f : Addr} {kvs : List (Key × V)} {i m : Nat} {D : Nat → Addr} {R : Nat → List Str} {rs : List Str} (F : Fnd ks H H' f kvs i D R) (hm : m < i) (hr : rs.Nodup) :
    Fnd ks H (upd H' (D m) (.dK (marks rs))) f kvs i D (setN R m rs) where
  hf := by rw [upd_ne (F.df m hm).symm]; exact F.hf
  kl := F.kl
  va := F.va
  hd := fun n hn => by
    by_cases c : n = m
    · subst c
      rw [setN_same, upd_same]
    · rw [setN_ne c, upd_ne (fun z => c (F.dj n m hn hm z))]
      exact F.hd n hn
  dj := F.dj
  df := F.df
  fr := F.fr
  nd := fun n hn => by
    by_cases c : n = m
    · subst c
      rw [setN_same]; exact hr
    · rw [setN_ne c]; exact F.nd n hn
  sm := F.sm.put (F.fr m hm)
theorem Fnd.get {ks : List Kd} {H H' : Hp} {f : Addr} {kvs : List (Key × V)} {i n : Nat} {D : Nat → Addr} {R : Nat → List Str} {kn : Kd} (F : Fnd ks H H' f kvs i D R) (hn : n < i) (e : ks[n]? = some kn) : DGet H' f (.str kn.1) (some (.ref (D n))) := by
  have z := DGet.k (k := (.inr kn.1 : Key)) F.hf
  rw [F.va n kn hn e] at z
  exact z
def Ini (ks : List Kd) (i : Nat) (done : List Str) (R : Nat → List Str) : Prop := ∀ (n : Nat) (kn : Kd), ks[n]? = some kn →
  (n < i → ∀ s, s ∈ R n ↔ s = kn.1 ∨ s ∈ kn.2.flatMap (·.2)) ∧ (n = i → ∀ s, s ∈ R n ↔ s = kn.1 ∨ s ∈ done)
theorem Ini.first {ks : List Kd} {i : Nat} {R : Nat → List Str} {ki : Kd} (h : ∀ (n : Nat) (kn : Kd), ks[n]? = some kn → n < i → ∀ s, s ∈ R n ↔ s = kn.1 ∨ s ∈ kn.2.flatMap (·.2)) (hi : ks[i]? = some ki) : Ini ks i [] (setN R i [ki.1]) := fun n kn e => by
  refine ⟨fun hn s => ?_, fun hn s => ?_⟩
  · rw [setN_ne (by omega)]
    exact h n kn e hn s
  · subst hn
    rw [hi] at e
    cases e
    rw [setN_same]
    simp
theorem Ini.up {ks : List Kd} {i : Nat} {R : Nat → List Str} {ki : Kd} (h : Ini ks i (ki.2.flatMap (·.2)) R) (hi : ks[i]? = some ki) : ∀ (n : Nat) (kn : Kd), ks[n]? = some kn → n < i + 1 → ∀ s, s ∈ R n ↔ s = kn.1 ∨ s ∈ kn.2.flatMap (·.2) := fun n kn e hn s => by
  by_cases c : n = i
  · subst c
    rw [hi] at e
    cases e
    exact (h n ki hi).2 rfl s
  · exact (h n kn e).1 (by omega) s
def Half (ks : List Kd) (b : Nat) (kb : Kd) (i : Nat) (R0 R : Nat → List Str) : Prop := ∀ (n : Nat) (kn : Kd), ks[n]? = some kn →
  (n < i → ∀ s, s ∈ R n ↔ s ∈ R0 n ∨ kb.1 ∈ R0 n ∧ s ∈ R0 b) ∧ (i ≤ n → R n = R0 n)
theorem Half.start {ks : List Kd} {b : Nat} {kb : Kd} {R0 : Nat → List Str} : Half ks b kb 0 R0 R0 := fun n kn e => ⟨fun h => absurd h (Nat.not_lt_zero _), fun _ => rfl⟩
theorem Half.no {ks : List Kd} {b i : Nat} {kb ki : Kd} {R0 R : Nat → List Str} (h : Half ks b kb i R0 R) (hi : ks[i]? = some ki) (hno : kb.1 ∉ R i) : Half ks b kb (i + 1) R0 R := fun n kn e => by
  refine ⟨fun hn s => ?_, fun hn => (h n kn e).2 (by omega)⟩
  by_cases c : n = i
  · subst c
    have z := (h n ki hi).2 (Nat.le_refl _)
    rw [z] at hno ⊢
    exact ⟨.inl, fun x => x.elim id fun y => absurd y.1 hno⟩
  · exact (h n kn e).1 (by omega) s
theorem Half.mem {ks : List Kd} {b i : Nat} {kb : Kd} {R0 R : Nat → List Str} (h : Half ks b kb i R0 R) (hb : ks[b]? = some kb) (s : Str) : s ∈ R b ↔ s ∈ R0 b := by
  by_cases c : b < i
  · rw [(h b kb hb).1 c s]
    exact ⟨fun x => x.elim id fun y => y.2, .inl⟩
  · rw [(h b kb hb).2 (by omega)]
end L2
namespace L2
open PySem PySem.Spec PyProof.Rows
theorem Inv.turnedL {X : Cx} {pins : List (Addr × Obj)} {σ : St} {H : Hp} {s : Shared} {h' : Heap} {t' : Nat} {fp : List Addr} (I : Inv X pins σ H s) (k : ∀ b o, b ∉ fp → s.heap.get? b = some o → h'.get? b = some o) (hf : ∀ b ∈ fp, FpOk X pins H b) :
    Inv X pins σ H { s with heap := h', toks := t' } := by
  have nit : ∀ b u, H b = some u → b ∉ fp := fun b u e z => by
    have := (hf b z).1
    rw [e] at this
    cases this
  refine I.step (g' := s.gens) (d' := s.drawn) (ch := fp) (fun b hb => ?_) (fun b o _ _ hc e _ => k b o hc e) (fun b o _ _ hc e _ => ⟨o.slots, k b o hc e⟩) (fun _ _ _ _ n => n)
    (fun b o hc e => ⟨o, k b o hc e⟩) (fun _ _ e => e) (fun _ _ _ e => e) (fun b ps e => ⟨#[], by rw [e]; simp⟩) (fun m hm => ?_) (fun b u e => ?_) I.bare
  · obtain ⟨f0, f1, f2, f3, f4, f5⟩ := hf b hb
    exact ⟨f3, f1, f4, f5⟩
  · obtain ⟨o, es, ep, ho, r⟩ := hm
    exact ⟨o, es, ep, k _ o (fun z => (hf _ z).2.1 rfl) ho, r⟩
  · refine (I.hok b u e).stay (fun c v hc q => k c v ?_ q) (fun _ q => q) fun _ _ q => q
    rcases hc with z | z
    · rw [z]; exact nit b u e
    · exact nit c _ z
def SqB (K : PySem.W.Frag) (tp : Bool) (H : Hp) (a : Addr) (xs : List V) : Prop := if tp = true then SqT K H a xs else SqL K H a xs
theorem Inv.seqB {X : Cx} {pins : List (Addr × Obj)} {σ : St} {H : Hp} {s : Shared} {tp : Bool} {a : Addr} {xs : List V} (I : Inv X pins σ H s) (h : SqB X.K tp H a xs) : ∃ its : List Value, Vals xs its ∧ SeqObj s.heap tp a its.toArray ∧ xs.length ≤ sizeLine := by
  cases tp with
  | true =>
    obtain ⟨its, r, p, z⟩ := I.tuple (show SqT X.K H a xs from h)
    exact ⟨its, r, (show s.heap.IsTuple a its.toArray from p), z⟩
  | false =>
    obtain ⟨its, r, p, z⟩ := I.list (show SqL X.K H a xs from h)
    exact ⟨its, r, p.isList, z⟩
theorem Inv.seqB_inj {X : Cx} {pins : List (Addr × Obj)} {σ : St} {H : Hp} {s : Shared} {tp : Bool} {a : Addr} {xs ys : List V} (I : Inv X pins σ H s) (h : SqB X.K tp H a xs) (h2 : SqB X.K tp H a ys) : xs = ys := by
  cases tp with
  | true => exact I.tuple_inj (show SqT X.K H a xs from h) (show SqT X.K H a ys from h2)
  | false => exact I.list_inj (show SqL X.K H a xs from h) (show SqL X.K H a ys from h2)
def Itz (K : PySem.W.Frag) (t1 t2 : Bool) (l1 l2 : Addr) : It :=
  ⟨fun i H => ∃ xs ys x y, SqB K t1 H l1 xs ∧ SqB K t2 H l2 ys ∧ xs[i]? = some x ∧ ys[i]? = some y,
   fun i H v H' => ∃ (p : Addr) (x y : V), H p = none ∧ v = .ref p ∧ H' = upd H p (.tup [x, y]) ∧ (∀ xs, SqB K t1 H l1 xs → xs[i]? = some x) ∧ ∀ ys, SqB K t2 H l2 ys → ys[i]? = some y,
   fun i H => ∃ xs ys, SqB K t1 H l1 xs ∧ SqB K t2 H l2 ys ∧ (xs.length ≤ i ∨ ys.length ≤ i)⟩
theorem turn_zip {P : Program} {w : World} {K : PySem.W.Frag} {elts : List Expr} {x1} {pos : Pos} {t1 t2 : Bool} (z TI TO i1 i2 l1 l2 : Addr) (D : ZipApart z TI TO i1 i2 l1 l2) :
    Turn P w K (.Tuple elts x1 pos) (Itz K t1 t2 l1 l2) [z, TI, TO, i1, i2] z (fun i h => IsZip h z TI TO .none ∧ IsPair h TI (.ref i1) (.ref i2) ∧ (∃ a b, IsPair h TO a b) ∧ SeqIter h t1 i1 l1 i ∧ SeqIter h t2 i2 l2 i) where
  mem := by simp
  obj := by
    rintro i h ⟨h1, h2, ⟨a, b, h3⟩, h4, h5⟩ c hc
    simp only [List.mem_cons, List.not_mem_nil, or_false] at hc
    rcases hc with rfl | rfl | rfl | rfl | rfl
    · exact ⟨_, h1, fun v e => by cases e⟩
    · exact ⟨_, h2, fun v e => by cases e⟩
    · exact ⟨_, h3, fun v e => by cases e⟩
    · exact h4.obj
    · exact h5.obj
  keep := by
    rintro i h h' ⟨h1, h2, ⟨a, b, h3⟩, h4, h5⟩ k
    exact ⟨k z (by simp) _ h1, k TI (by simp) _ h2, ⟨a, b, k TO (by simp) _ h3⟩, h4.at fun o e => k i1 (by simp) o e, h5.at fun o e => k i2 (by simp) o e⟩
  item := by
    intro X hP hw hK hc i pins s σ H E I hf st hg
    subst hP hw hK
    obtain ⟨h1, h2, ⟨a, b, h3⟩, h4, h5⟩ := st
    obtain ⟨xs, ys, x, y, q1, q2, e1, e2⟩ := hg
    obtain ⟨its1, rv1, o1, z1⟩ := I.seqB q1
    obtain ⟨its2, rv2, o2, z2⟩ := I.seqB q2
    obtain ⟨u1, hu1, ru1⟩ := rv1.get e1
    obtain ⟨u2, hu2, ru2⟩ := rv2.get e2
    refine zip_item D h1 h2 h3 h4 h5 o1 o2 (x := u1) (y := u2) (by simpa using hu1) (by simpa using hu2) fun h' hz' hTO' hi1' hi2' hp' hsz' hk' => ⟨_, rfl, ?_⟩
    refine wpAny_letOwnedTupleGo_zip hz' fun h'' hz'' hs'' => ?_
    have hn := I.hok.fresh (Nat.le_refl s.heap.objs.size)
    have lz : z < s.heap.objs.size := Heap.lt_size h1
    have lTI : TI < s.heap.objs.size := Heap.lt_size h2
    have lTO : TO < s.heap.objs.size := Heap.lt_size h3
    obtain ⟨oi1, goi1, _⟩ := h4.obj
    obtain ⟨oi2, goi2, _⟩ := h5.obj
    have li1 : i1 < s.heap.objs.size := Heap.lt_size goi1
    have li2 : i2 < s.heap.objs.size := Heap.lt_size goi2
    have lall : ∀ b ∈ [z, TI, TO, i1, i2], b ≠ s.heap.objs.size := fun b hb => by
      simp only [List.mem_cons, List.not_mem_nil, or_false] at hb
      rcases hb with rfl | rfl | rfl | rfl | rfl
      · exact Nat.ne_of_lt lz
      · exact Nat.ne_of_lt lTI
      · exact Nat.ne_of_lt lTO
      · exact Nat.ne_of_lt li1
      · exact Nat.ne_of_lt li2
    have up : ∀ c o, c ≠ z → h'.get? c = some o → h''.get? c = some o := fun c o hc e => hs''.extBut _ _ hc e
    have I1 : Inv X pins σ (upd H s.heap.objs.size (.tup [x, y])) { s with heap := s.heap.push { cls := .type "tuple", data := .seq #[u1, u2] } } :=
      I.laid (t' := s.toks) (fun b u e => Heap.get?_push_of_some _ e) (Nat.le_refl _) ⟨by show 2 ≤ sizeLine; decide, [u1, u2], .cons ru1 (.cons ru2 .nil), ⟨⟨_, Heap.get?_push_size _ rfl, rfl, _, rfl⟩, _, Heap.get?_push_size _ rfl, rfl⟩⟩
    have hf' : ∀ b ∈ [z, TI, TO, i1, i2], FpOk X pins (upd H s.heap.objs.size (.tup [x, y])) b := fun b hb => by
      obtain ⟨f0, r⟩ := hf b hb
      exact ⟨by rw [upd_ne (lall b hb)]; exact f0, r⟩
    have I2 : Inv X pins σ (upd H s.heap.objs.size (.tup [x, y])) { s with heap := h'' } := by
      refine I1.turnedL (h' := h'') (t' := s.toks) (fun b o hb e => ?_) hf'
      simp only [List.mem_cons, List.not_mem_nil, or_false, not_or] at hb
      obtain ⟨b1, b2, b3, b4, b5⟩ := hb
      rcases Heap.get?_push_cases e with ⟨rfl, rfl⟩ | e'
      · exact up _ _ b1 hp'
      · exact up _ _ b1 (hk' b o b1 b3 b4 b5 e')
    refine ⟨.ref s.heap.objs.size, upd H s.heap.objs.size (.tup [x, y]), I2, rfl, ⟨_, x, y, hn, rfl, rfl, fun zs hz => by rw [I.seqB_inj hz q1]; exact e1, fun zs hz => by rw [I.seqB_inj hz q2]; exact e2⟩, ?_, fun b hb => (hf' b hb).1⟩
    exact ⟨hz'', up _ _ D.TIz (hk' TI _ D.TIz D.TITO D.TIi1 D.TIi2 h2), ⟨_, _, up _ _ D.TOz hTO'⟩, hi1'.at fun o e => up _ _ D.i1z e, hi2'.at fun o e => up _ _ D.i2z e⟩
  done := by
    intro X hP hw hK hc i pins s σ H E I hf st hg
    subst hP hw hK
    obtain ⟨h1, h2, ⟨a, b, h3⟩, h4, h5⟩ := st
    obtain ⟨xs, ys, q1, q2, hend⟩ := hg
    obtain ⟨its1, rv1, o1, z1⟩ := I.seqB q1
    obtain ⟨its2, rv2, o2, z2⟩ := I.seqB q2
    have g1 := rv1.length
    have g2 := rv2.length
    refine zip_end (I.ok.hd hc) D h1 h2 h3 h4 h5 o1 o2 ?_ fun h' k => ⟨rfl, I.turnedL (t' := s.toks) (fun b o hb e => ?_) hf⟩
    · rcases hend with e | e
      · left; simp; omega
      · right; simp; omega
    · simp only [List.mem_cons, List.not_mem_nil, or_false, not_or] at hb
      exact k b o hb.1 hb.2.2.1 hb.2.2.2.1 hb.2.2.2.2 e
  self := fun _ _ _ _ _ st h => wpAny_pyIter_zip st.1 h
def itc (tp : Bool) : String := if tp = true then "tuple_iterator" else "list_iterator"
theorem iter_seq {prog : Program} {w : World} {A : Around} {E : Value → Shared → Prop} {s : Shared} {tp : Bool} {l : Addr} {xs : Array Value} {Q : Value → Shared → Prop} (h : SeqObj s.heap tp l xs)
    (hQ : Q (.ref s.heap.objs.size) { s with heap := s.heap.push { cls := .type (itc tp), data := .fields #[.ref l, .int 0 0] } }) : wpAny (model prog w) A (pyIter (.ref l)) Q E s := by
  cases tp with
  | true => exact wpAny_pyIter_tuple (show s.heap.IsTuple l xs from h) hQ
  | false => exact wpAny_pyIter_list (show s.heap.IsList l xs from h) hQ
abbrev zH1 (t1 : Bool) (h : Heap) (l1 : Addr) : Heap := h.push { cls := .type (itc t1), data := .fields #[.ref l1, .int 0 0] }
abbrev zH2 (t1 t2 : Bool) (h : Heap) (l1 l2 : Addr) : Heap := (zH1 t1 h l1).push { cls := .type (itc t2), data := .fields #[.ref l2, .int 0 0] }
abbrev zH3 (t1 t2 : Bool) (h : Heap) (l1 l2 : Addr) : Heap := (zH2 t1 t2 h l1 l2).push { cls := .type "tuple", data := .seq #[.ref h.objs.size, .ref (zH1 t1 h l1).objs.size] }
abbrev zH4 (t1 t2 : Bool) (h : Heap) (l1 l2 : Addr) : Heap := (zH3 t1 t2 h l1 l2).push { cls := .type "tuple", data := .seq #[.none, .none] }
abbrev zH5 (t1 t2 : Bool) (h : Heap) (l1 l2 : Addr) : Heap := (zH4 t1 t2 h l1 l2).push { cls := .type "zip", data := .fields #[.none, .bool false, .bool false, .ref (zH2 t1 t2 h l1 l2).objs.size, .ref (zH3 t1 t2 h l1 l2).objs.size] }
theorem meets_zip_seq (t1 t2 : Bool) (l1 l2 : Addr) (xs ys : Array Value) :
    Meets (Builtin.«zip.__new__» ⟨[.type "zip", .ref l1, .ref l2], []⟩) (fun _ R s => SeqObj s.heap t1 l1 xs ∧ SeqObj s.heap t2 l2 ys ∧
      R (.ok (.ret (.ref (zH4 t1 t2 s.heap l1 l2).objs.size))) { s with heap := zH5 t1 t2 s.heap l1 l2 }) :=
  .of_wp fun prog w A R s h => by
    obtain ⟨hp, g, d, tk, os⟩ := s; obtain ⟨hl1, hl2, h⟩ := h
    have hsub := sub_zip
    have hL1 : SeqObj (Shared.heap ⟨hp, g, d, tk, os⟩) t1 l1 xs := hl1
    have hL2 : SeqObj (Shared.heap ⟨hp.push { cls := .type (itc t1), data := .fields #[.ref l1, .int 0 0] }, g, d, tk, os⟩) t2 l2 ys := hl2.at fun o e => Heap.get?_push_of_some _ e
    wp_walk using iter_seq hL1, iter_seq hL2
    exact ⟨_, rfl, h⟩
theorem seqIter_new {h : Heap} {tp : Bool} {l it : Addr} (e : h.get? it = some { cls := .type (itc tp), data := .fields #[.ref l, .int 0 0] }) : SeqIter h tp it l 0 := by
  cases tp with
  | true => exact (show h.IsTupleIter it l 0 from ⟨_, e, rfl, rfl⟩)
  | false => exact (show h.IsListIter it l 0 from ⟨_, e, rfl, rfl⟩)
theorem call_zip_seq {prog : Program} {w : World} {A : Around} {E : Value → Shared → Prop} {s : Shared} {t1 t2 : Bool} {l1 l2 : Addr} {xs ys : Array Value} {Q : Value → Shared → Prop} (hl1 : SeqObj s.heap t1 l1 xs) (hl2 : SeqObj s.heap t2 l2 ys)
    (h : ∀ h', IsZip h' (s.heap.objs.size + 4) (s.heap.objs.size + 2) (s.heap.objs.size + 3) .none → IsPair h' (s.heap.objs.size + 2) (.ref s.heap.objs.size) (.ref (s.heap.objs.size + 1)) →
      IsPair h' (s.heap.objs.size + 3) .none .none → SeqIter h' t1 s.heap.objs.size l1 0 → SeqIter h' t2 (s.heap.objs.size + 1) l2 0 →
      (∀ c o, s.heap.get? c = some o → h'.get? c = some o) → Q (.ref (s.heap.objs.size + 4)) { s with heap := h' }) :
    wpAny (model prog w) A (call (.type "zip") [.ref l1, .ref l2]) Q E s := by
  refine callType_new F.called_zip (by decide) (F.typeCall_zip_2 _ _) (F.newCall_zip_2 _ _) (fun obj => F.args_object_init_3 obj _ _) F.entry_zip_new
    (meets_zip_seq t1 t2 l1 l2 xs ys) ⟨hl1, hl2, ?_⟩
  have z1 : (zH1 t1 s.heap l1).objs.size = s.heap.objs.size + 1 := Heap.size_push ..
  have z2 : (zH2 t1 t2 s.heap l1 l2).objs.size = s.heap.objs.size + 2 := by rw [Heap.size_push, z1]
  have z3 : (zH3 t1 t2 s.heap l1 l2).objs.size = s.heap.objs.size + 3 := by rw [Heap.size_push, z2]
  have z4 : (zH4 t1 t2 s.heap l1 l2).objs.size = s.heap.objs.size + 4 := by rw [Heap.size_push, z3]
  have g5 : (zH5 t1 t2 s.heap l1 l2).get? (zH4 t1 t2 s.heap l1 l2).objs.size = some _ := Heap.get?_push_size _ rfl
  have g4 : (zH5 t1 t2 s.heap l1 l2).get? (zH3 t1 t2 s.heap l1 l2).objs.size = some _ := Heap.get?_push_of_some _ (Heap.get?_push_size _ rfl)
  have g3 : (zH5 t1 t2 s.heap l1 l2).get? (zH2 t1 t2 s.heap l1 l2).objs.size = some _ := Heap.get?_push_of_some _ (Heap.get?_push_of_some _ (Heap.get?_push_size _ rfl))
  have g2 : (zH5 t1 t2 s.heap l1 l2).get? (zH1 t1 s.heap l1).objs.size = some _ := Heap.get?_push_of_some _ (Heap.get?_push_of_some _ (Heap.get?_push_of_some _ (Heap.get?_push_size _ rfl)))
  have g1 : (zH5 t1 t2 s.heap l1 l2).get? s.heap.objs.size = some _ := Heap.get?_push_of_some _ (Heap.get?_push_of_some _ (Heap.get?_push_of_some _ (Heap.get?_push_of_some _ (Heap.get?_push_size _ rfl))))
  show _ ∧ _
  rw [z2, z3, z4] at g5
  rw [z1, z2] at g3
  rw [z3] at g4
  rw [z1] at g2
  rw [z4]
  exact ⟨⟨_, g5, rfl⟩, h _ g5 g3 g4 (seqIter_new g1) (seqIter_new g2) fun c o x =>
    Heap.get?_push_of_some _ (Heap.get?_push_of_some _ (Heap.get?_push_of_some _ (Heap.get?_push_of_some _ (Heap.get?_push_of_some _ x))))⟩
def iZip (K : PySem.W.Frag) (t1 t2 : Bool) (ta : TA) : TI := fun σ H R => ta σ H fun vs H1 => ∃ l1 l2, vs = [.ref l1, .ref l2] ∧ (∃ xs, SqB K t1 H1 l1 xs) ∧ (∃ ys, SqB K t2 H1 l2 ys) ∧ R (Itz K t1 t2 l1 l2) H1
theorem SeqObj.obj {h : Heap} {tp : Bool} {l : Addr} {xs : Array Value} (x : SeqObj h tp l xs) : ∃ o, h.get? l = some o := by
  cases tp with
  | true => obtain ⟨o, ho, _⟩ := (show h.IsTuple l xs from x); exact ⟨o, ho⟩
  | false => obtain ⟨o, ho, _⟩ := (show h.IsList l xs from x); exact ⟨o, ho⟩
theorem zipApart_of {n l1 l2 : Nat} (h1 : l1 < n) (h2 : l2 < n) : ZipApart (n + 4) (n + 2) (n + 3) n (n + 1) l1 l2 := by
  constructor <;> (intro z; refine absurd (show @Eq Nat _ _ from z) ?_; omega)
theorem pi_zip {X : Cx} {elts : List Expr} {x1} {pos' : Pos} {a b : Expr} {ta : TA} {p pos : Pos} {t1 t2 : Bool} (hg : Gl X "zip") (hm : X.mg "zip" = none) (hboot : bootBuiltins "zip" = some (.type "zip")) (ha : PA X [a, b] ta) (hs : starEach [a, b] X.env = [(false, eval a X.env), (false, eval b X.env)] := by rfl) (hs2 : starEach [b] X.env = [(false, eval b X.env)] := by rfl) :
    PI X (.Tuple elts x1 pos') (.Call (.Name "zip" p) [a, b] [] pos) (iZip X.K t1 t2 ta) := by
  intro pins s σ H R I h
  refine Call_ (ld_blt I hg hm hboot (PyProof.Rows.callWith_type1 (thn (ha pos pins s σ H _ I h) fun us s1 ⟨vs, H1, I1, r1, q1⟩ => ?_) (by rw [hs, hs2]) (by rw [hs2]; rfl)))
  obtain ⟨l1, l2, e, ⟨xs, q2⟩, ⟨ys, q3⟩, q⟩ := q1
  subst e
  obtain ⟨u1, u2, rfl, ru1, ru2⟩ := vals2 r1
  cases ru1
  cases ru2
  obtain ⟨its1, rv1, o1, z1⟩ := I1.seqB q2
  obtain ⟨its2, rv2, o2, z2⟩ := I1.seqB q3
  obtain ⟨ob1, e1⟩ := o1.obj
  obtain ⟨ob2, e2⟩ := o2.obj
  have g1 : l1 < s1.heap.objs.size := Heap.lt_size e1
  have g2 : l2 < s1.heap.objs.size := Heap.lt_size e2
  refine call_zip_seq o1 o2 fun h' hz hTI hTO hi1 hi2 hk => wpAny_pyIter_zip hz ?_
  refine ⟨_, [s1.heap.objs.size + 4, s1.heap.objs.size + 2, s1.heap.objs.size + 3, s1.heap.objs.size, s1.heap.objs.size + 1], _, _, H1, rfl, I1.kept (t' := s1.toks) hk, turn_zip _ _ _ _ _ l1 l2 ?_, ⟨hz, hTI, ⟨_, _, hTO⟩, hi1, hi2⟩, fun c hc => ?_, q⟩
  · exact zipApart_of g1 g2
  · have hc' : s1.heap.objs.size ≤ c := by
      simp only [List.mem_cons, List.not_mem_nil, or_false] at hc
      rcases hc with rfl | rfl | rfl | rfl | rfl <;> first | exact Nat.le_add_right _ _ | exact Nat.le_refl _
    exact I1.fpOk hc' (I1.hok.fresh hc')
end L2
namespace L2
open PySem PySem.Spec PyProof.Rows
structure KS (H H' : Hp) (d l w wm p : Addr) (ws m : List Str) (fv : List V) : Prop where
  D : Deal H' d l
  k : Kp d l H H'
  ew : H' w = some (.lst (ws.map V.str))
  em : H' wm = some (.lst (m.map V.str))
  ep : H' p = some (.lst fv)
theorem KS.new {H H' : Hp} {d l w wm p q : Addr} {ws m : List Str} {fv : List V} {o : HO} (S : KS H H' d l w wm p ws m fv) (hq : H' q = none) : KS H (upd H' q o) d l w wm p ws m fv :=
  ⟨S.D.new hq, S.k.new hq, by rw [upd_ne (ne_of_none S.ew hq)]; exact S.ew, by rw [upd_ne (ne_of_none S.em hq)]; exact S.em, by rw [upd_ne (ne_of_none S.ep hq)]; exact S.ep⟩
theorem Deal.other {H : Hp} {d l q : Addr} {o : HO} (D : Deal H d l) (h1 : q ≠ d) (h2 : q ≠ l) : Deal (upd H q o) d l := by
  obtain ⟨s, n, ls, D⟩ := D
  exact ⟨s, n, ls, by rw [upd_ne h1.symm]; exact D.hd, by rw [upd_ne h2.symm]; exact D.hl, D.s0, D.s1, D.n0, D.l0⟩
theorem KS.put {H H' : Hp} {d l w wm p q : Addr} {ws m : List Str} {fv : List V} {o : HO} (S : KS H H' d l w wm p ws m fv) (hq : H q = none) (qd : q ≠ d) (ql : q ≠ l) (qw : w ≠ q) (qm : wm ≠ q) (qp : p ≠ q) : KS H (upd H' q o) d l w wm p ws m fv :=
  ⟨S.D.other qd ql, fun c u h h1 h2 => by rw [upd_ne (ne_of_none h hq)]; exact S.k c u h h1 h2, by rw [upd_ne qw]; exact S.ew, by rw [upd_ne qm]; exact S.em, by rw [upd_ne qp]; exact S.ep⟩
theorem KS.free {H H' : Hp} {d l w wm p q : Addr} {ws m : List Str} {fv : List V} (S : KS H H' d l w wm p ws m fv) (hq : H' q = none) : H q = none := by
  obtain ⟨qd, ql⟩ := S.D.fresh hq
  cases e : H q with
  | none => rfl
  | some o =>
    have z := S.k q o e qd ql
    rw [hq] at z
    cases z
def names (ks : List Kd) : List Str := ks.flatMap fun k => k.2.map (·.1)
structure Made (ws m : List Str) (ks : List Kd) (k made : Nat) : Prop where
  nm : ks.map (·.1) = ws.take k
  mn : names ks = m.take made
  b1 : made ≤ 6 * k
  b2 : ∀ x ∈ ks, x.2.length ≤ 100
  b3 : (allF ks).length ≤ 24 * k
theorem take_one {xs : List Str} {i : Nat} {x : Str} (h : xs[i]? = some x) : xs.take i ++ [x] = xs.take (i + 1) := by rw [List.take_add_one, h]; rfl
theorem Made.next {ws m : List Str} {ks : List Kd} {k made made' : Nat} {ms : List Mk1} {n : Str} (M : Made ws m ks k made) (hn : ws[k]? = some n) (hm : m.take made ++ ms.map (·.1) = m.take made') (h1 : ms.length ≤ 6) (h2 : made' ≤ made + ms.length) (h3 : (ms.flatMap (·.2)).length ≤ 4 * ms.length) :
    Made ws m (ks ++ [(n, ms)]) (k + 1) made' where
  nm := by rw [List.map_append, M.nm, ← take_one hn]; rfl
  mn := by
    have : names (ks ++ [(n, ms)]) = names ks ++ ms.map (·.1) := by unfold names; rw [List.flatMap_append]; simp
    rw [this, M.mn, hm]
  b1 := by have := M.b1; omega
  b2 := fun x hx => by
    rcases List.mem_append.mp hx with h | h
    · exact M.b2 x h
    · rw [List.mem_singleton.mp h]; show ms.length ≤ 100; omega
  b3 := by
    have : allF (ks ++ [(n, ms)]) = allF ks ++ ms.flatMap (·.2) := by unfold allF; rw [List.flatMap_append]; simp
    rw [this, List.length_append]
    have := M.b3
    omega
end L2
namespace L2
open PySem PySem.Spec PyProof.Rows
theorem pg_tupK {X : Cx} {K : PySem.W.Frag} {es : List Expr} {k : Nat} {pos : Pos} {t : TGs} {n : Nat} (hK : X.K = K) (hc : X.calm = true) (h : PGs X es t)
    (hn : (assignEach es X.env).length = n := by rfl) (hst : (assignEach es X.env).findIdx? (·.1) = none := by rfl) : PG X (.Tuple es k pos) (gTup K n t) := hK ▸ pg_tup hc h hn hst
theorem len_flat {α : Type} {f : α → List Str} : ∀ {xs : List α} {x : α}, x ∈ xs → (f x).length ≤ (xs.flatMap f).length
  | a :: xs, x, h => by
    rw [List.flatMap_cons, List.length_append]
    rcases List.mem_cons.mp h with e | h
    · rw [e]; omega
    · have := len_flat (f := f) h
      omega
theorem SmK.fl {ks : List Kd} (h : SmK ks) {k : Kd} (hk : k ∈ ks) {m : Mk1} (hm : m ∈ k.2) : m.2.length ≤ 1000 := by
  have h1 := len_flat (f := fun m : Mk1 => m.2) hm
  have h2 := len_flat (f := fun k : Kd => k.2.flatMap (·.2)) hk
  have h3 := h.2.2
  unfold allF at h3
  omega
end L2
namespace L2
open PySem PySem.Spec PyProof.Rows
abbrev IsZipX (h : Heap) (z TI TO : Addr) (a : Addr) (f : Bool) : Prop :=
  h.get? z = some { cls := .type "zip", dict := none, data := .fields #[rawInt a, .bool f, .bool false, .ref TI, .ref TO], slots := #[] }
section
variable {prog : Program} {w : World} {A : Around} {E : Value → Shared → Prop} {s : Shared}
end
end L2
namespace L2
open PySem PySem.Spec PyProof.Rows
structure ZSt (h : Heap) (z TI TO i1 i2 l1 l2 S : Addr) (t1 t2 : Bool) (i : Nat) : Prop where
  ti : IsPair h TI (.ref i1) (.ref i2)
  s1 : SeqIter h t1 i1 l1 i
  s2 : SeqIter h t2 i2 l2 i
  st : (IsZip h z TI TO .none ∧ ∃ a b, IsPair h TO a b) ∨ ∃ (a : Addr) (f : Bool) (oa : Obj), IsZipX h z TI TO a f ∧ h.get? a = some oa ∧ a ≠ z ∧ a ≠ S ∧ a ≠ i1 ∧ a ≠ i2
theorem ZSt.keep {h h' : Heap} {z TI TO i1 i2 l1 l2 S : Addr} {t1 t2 : Bool} {i : Nat} (x : ZSt h z TI TO i1 i2 l1 l2 S t1 t2 i) (k : ∀ b o, b ≠ S → h.get? b = some o → h'.get? b = some o) (hz : z ≠ S) (hTI : TI ≠ S) (hTO : TO ≠ S) (h1 : i1 ≠ S) (h2 : i2 ≠ S) : ZSt h' z TI TO i1 i2 l1 l2 S t1 t2 i :=
  ⟨k _ _ hTI x.ti, x.s1.at fun o e => k _ o h1 e, x.s2.at fun o e => k _ o h2 e, by
    rcases x.st with ⟨e, a, b, e2⟩ | ⟨a, f, oa, e, e2, n1, n2, n3⟩
    · exact .inl ⟨k _ _ hz e, a, b, k _ _ hTO e2⟩
    · exact .inr ⟨a, f, oa, k _ _ hz e, k _ _ n2 e2, n1, n2, n3⟩⟩
structure ZG (xs ys : Array Value) (lo : Nat) (h : Heap) (as : List Addr) : Prop where
  rise : as.Pairwise (· < ·)
  above : ∀ a ∈ as, lo ≤ a
  pairs : ∀ (j : Nat) (a : Addr), as[j]? = some a → ∃ x y, xs[j]? = some x ∧ ys[j]? = some y ∧ IsPair h a x y
theorem ZG.there {xs ys : Array Value} {lo : Nat} {h : Heap} {as : List Addr} (g : ZG xs ys lo h as) {a : Addr} (ha : a ∈ as) : a < h.objs.size := by
  obtain ⟨j, hj⟩ := List.mem_iff_getElem?.mp ha
  obtain ⟨_, _, _, _, e⟩ := g.pairs j a hj
  exact Heap.lt_size e
section
variable {prog : Program} {w : World} {A : Around} {s : Shared}
end
end L2
namespace L2
open PySem PySem.Spec PyProof.Rows
section
variable {prog : Program} {w : World} {A : Around} {s : Shared}
end
end L2
namespace L2
open PySem PySem.Spec PyProof.Rows
section
variable {X : Cx} {a b : Expr} {tl : TA} {pos p pos2 p2 : Pos}
end
end L2
namespace L2
open PySem PySem.Spec PyProof.Rows
section
variable {prog : Program} {w : World} {A : Around} {E : Value → Shared → Prop} {s : Shared}
end
end L2
namespace L2
open PySem PySem.Spec PyProof.Rows
section
variable {prog : Program} {w : World} {A : Around} {E : Value → Shared → Prop} {s : Shared}
end
end L2
namespace PySem
open Sem (wp)
section
variable {prog : Program} {w : World} {K : Type} [DecidableEq K] {knd : KeyKind prog w K} {A : Around} {E : Value → Shared → Prop} {s : Shared}
end
theorem rv_owner : Manifest.owners.lookup (String.ofList ['d', 'e', 's', 'r', 'e', 'v', 'e', 'r'].reverse) = some Manifest.sig_reversed := by kernel_rfl
theorem rv_slot_next : Slot "reversed" "__next__" "reversed.__next__" :=
  .of (owner := "reversed") (n := "__next__") (by rw [typeLookup_type, builtinLookup_eq_fast]; kernel_rfl) (by decide +kernel) (by decide +kernel) (by decide +kernel) (by first | exact .inl (by decide +kernel) | exact .inr (by decide +kernel)) (by rw [isSubtype_type]; kernel_rfl)
theorem rv_entry_next : entryFor table "reversed.__next__" = some Builtin.«reversed.__next__» := entryFor_of_tree (by kernel_rfl)
theorem rv_args_next (a : Value) : argsOk "reversed.__next__" ⟨[a], []⟩ := by
  unfold argsOk
  rw [signature?_of (id := "reversed.__next__") (n := ['_', '_', 't', 'x', 'e', 'n', '_', '_']) (o := ['d', 'e', 's', 'r', 'e', 'v', 'e', 'r']) (by kernel_rfl) rv_owner]
  kernel_rfl
theorem rv_slot_iter : Slot "reversed" "__iter__" "reversed.__iter__" :=
  .of (owner := "reversed") (n := "__iter__") (by rw [typeLookup_type, builtinLookup_eq_fast]; kernel_rfl) (by decide +kernel) (by decide +kernel) (by decide +kernel) (by first | exact .inl (by decide +kernel) | exact .inr (by decide +kernel)) (by rw [isSubtype_type]; kernel_rfl)
theorem rv_args_iter (a : Value) : argsOk "reversed.__iter__" ⟨[a], []⟩ := by
  unfold argsOk
  rw [signature?_of (id := "reversed.__iter__") (n := ['_', '_', 'r', 'e', 't', 'i', '_', '_']) (o := ['d', 'e', 's', 'r', 'e', 'v', 'e', 'r']) (by kernel_rfl) rv_owner]
  kernel_rfl
theorem rv_entry_iter : entryFor table "reversed.__iter__" = some Builtin.«dict_keyiterator.__iter__» :=
  entryFor_alias (id' := "dict_keyiterator.__iter__") (by kernel_rfl) (by first | rfl | decide +kernel | (unfold String.splitOn; simp +decide [String.splitOnAux])) (by decide +kernel) (by kernel_rfl)
section
variable {prog : Program} {w : World} {A : Around} {E : Value → Shared → Prop} {s : Shared}
abbrev IsRv (h : Heap) (a l : Addr) (i : Int) : Prop := h.get? a = some { cls := .type "reversed", dict := none, data := .fields #[.ref l, rawInt i], slots := #[] }
theorem rv_item {a l : Addr} {i : Nat} {items : Array Value} {x : Value} {Q : Option Value → Shared → Prop} (hfit : (items.size : Int) < 2 ^ 63) (hr : IsRv s.heap a l (i : Int)) (hl : s.heap.IsTuple l items) (hx : items[i]? = some x)
    (hQ : ∀ h', IsRv h' a l ((i : Int) - 1) → Heap.SameBut a s.heap h' → Q (some x) { s with heap := h', toks := s.toks + 1 }) : wpAny (model prog w) A (pyNext (.ref a)) Q E s := by
  have hT : s.TypeIs (.ref a) "reversed" := ⟨_, hr, rfl⟩
  have hTl : s.TypeIs (.ref l) "tuple" := by obtain ⟨o, ho, hc, _⟩ := id hl; exact ⟨o, ho, hc⟩
  have hlt : i < items.size := (Array.getElem?_eq_some_iff.mp hx).1
  unfold pyNext
  refine wpAny_bind (wpAny_attempt (wpAny_callSpecial?_slot (name := Str.ofString "__next__") hT rv_slot_next (wpAny_call_entry rv_slot_next hT rv_entry_next ?_ (rv_args_next _))))
  show wpAny _ _ (field (.ref a) 0 >>= _) _ _ _
  refine wpAny_bind (wpAny_field hr rfl (x := .ref l) rfl ?_)
  show wpAny _ _ (field (.ref a) 1 >>= _) _ _ _
  refine wpAny_bind (wpAny_field hr rfl (x := rawInt (i : Int)) rfl ?_)
  show wpAny _ _ (if (i : Int) < 0 then _ else _) _ _ s
  rw [if_neg (by omega)]
  show wpAny _ _ (specialOf (.ref l) "__getitem__" >>= _) _ _ _
  refine wpAny_bind (wpAny_specialOf hTl F.slot_tuple_getitem.lookup ?_)
  rw [if_neg (by decide)]
  show wpAny _ _ (mkInt i >>= _) _ _ _
  refine wpAny_bind (wpAny_mkInt ?_)
  refine wpAny_bind (wpAny_attempt (PyProof.Rows.getItem_tuple (j := i) (x := x) hl (by omega) (by omega) ?_ hx ?_))
  · unfold seqIndex?
    simp
    omega
  show wpAny _ _ (field (.ref a) 1 >>= _) _ _ _
  refine wpAny_bind (wpAny_field hr rfl (x := rawInt (i : Int)) rfl ?_)
  show wpAny _ _ (setField (.ref a) 1 (rawInt ((i : Int) - 1)) >>= _) _ _ _
  refine wpAny_bind (wpAny_setField_rec hr (by simp) fun h' hr' hs' => ?_)
  exact wpAny_pure ⟨_, rfl, wpAny_pure (hQ h' hr' hs')⟩
theorem rv_end {a l : Addr} {Q : Option Value → Shared → Prop} (hh : A.handled = none) (hr : IsRv s.heap a l (-1)) (hQ : ∀ h', Heap.ExtBut a s.heap h' → Q none { s with heap := h' }) : wpAny (model prog w) A (pyNext (.ref a)) Q E s := by
  have hT : s.TypeIs (.ref a) "reversed" := ⟨_, hr, rfl⟩
  unfold pyNext
  refine wpAny_bind (wpAny_attempt (wpAny_callSpecial?_slot (name := Str.ofString "__next__") hT rv_slot_next (wpAny_call_entry rv_slot_next hT rv_entry_next ?_ (rv_args_next _))))
  show wpAny _ _ (field (.ref a) 0 >>= _) _ _ _
  refine wpAny_bind (wpAny_field hr rfl (x := .ref l) rfl ?_)
  show wpAny _ _ (field (.ref a) 1 >>= _) _ _ _
  refine wpAny_bind (wpAny_field hr rfl (x := rawInt (-1)) rfl ?_)
  show wpAny _ _ (if (-1 : Int) < 0 then _ else _) _ _ s
  rw [if_pos (by decide)]
  refine wpAny_bind (wpAny_rule ?_)
  refine wpAny_bind ?_
  show wpAny _ _ (setField (.ref a) 1 (rawInt (-1)) >>= _) _ _ _
  refine wpAny_bind (wpAny_setField_rec hr (by simp) fun h1 hr1 hs1 => ?_)
  replace hr1 : IsRv h1 a l (-1) := hr1
  refine wpAny_setField_rec hr1 (by simp) fun h2 hr2 hs2 => ?_
  refine wpAny_bind ?_
  show wpAny _ _ (newExc (.type "StopIteration") [] >>= _) _ _ _
  refine wpAny_bind ?_
  simp only [newExc, newTuple]
  refine wpAny_bind (wpAny_newObj_type ?_ (by size_fits))
  refine wpAny_bind (m := firstArgMember _ _) (wpAny_of_eq (a := Value.none) (by first | rfl | (simp only [firstArgMember]; rfl)) ?_)
  refine wpAny_newObj_type ?_ (by size_fits)
  simp only [raiseNew]
  refine wpAny_bind (wpAny_handled ?_)
  first | rw [show A.in1.handled = none from hh] | rw [hh]
  refine wpAny_bind (wpAny_pure (wpAny_throw ?_))
  refine wpAny_bind (wpAny_isInstance (T := "StopIteration") (b := true) ⟨_, Heap.get?_push_size _ rfl, rfl⟩ isSubtype_stop ?_)
  exact wpAny_pure (hQ _ (fun b o hb e => Heap.get?_push_of_some _ (Heap.get?_push_of_some _ (hs2.extBut b o hb (hs1.extBut b o hb e)))))
theorem rv_iter {a l : Addr} {i : Int} {Q : Value → Shared → Prop} (hr : IsRv s.heap a l i) (h : Q (.ref a) s) : wpAny (model prog w) A (pyIter (.ref a)) Q E s := by
  have hT : s.TypeIs (.ref a) "reversed" := ⟨_, hr, rfl⟩
  refine wpAny_pyIter_slot hT rv_slot_iter (wpAny_call_entry rv_slot_iter hT rv_entry_iter ?_ (rv_args_iter _))
  show wpAny _ _ (ret (.ref a)) _ _ s
  exact wpAny_pure ⟨_, rfl, "reversed", _, hT, rv_slot_next.lookup, h⟩
end
section
variable {prog : Program} {w : World} {A : Around} {E : Value → Shared → Prop} {s : Shared}
theorem Walks.rv (hh : A.handled = none) (I l : Addr) (hne : l ≠ I) (items : Array Value) (hfit : (items.size : Int) < 2 ^ 63) :
    Walks prog w A I [I, l] [I] items.size (fun i v => items[items.size - 1 - i]? = some v) (fun i h => i ≤ items.size ∧ IsRv h I l (((items.size - i : Nat) : Int) - 1) ∧ h.IsTuple l items) where
  sub := fun b hb => by simp at hb; simp [hb]
  frame := fun _ _ _ x hk => ⟨x.1, hk I (by simp) _ x.2.1, let ⟨o, ho, r⟩ := x.2.2; ⟨o, hk l (by simp) o ho, r⟩⟩
  item := fun i s Q E hi x hQ => by
    have e : ((items.size - i : Nat) : Int) - 1 = ((items.size - 1 - i : Nat) : Int) := by omega
    have hit := x.2.1
    rw [e] at hit
    have hx : items[items.size - 1 - i]? = some (items[items.size - 1 - i]'(by omega)) := Array.getElem?_eq_getElem (by omega)
    refine rv_item hfit hit x.2.2 hx fun h' hit' hs' => ?_
    have e2 : ((items.size - 1 - i : Nat) : Int) - 1 = ((items.size - (i + 1) : Nat) : Int) - 1 := by omega
    rw [e2] at hit'
    exact hQ _ h' _ hx ⟨hi, hit', let ⟨o, ho, r⟩ := x.2.2; ⟨o, hs'.extBut _ _ hne ho, r⟩⟩ fun b o hb eo => hs'.extBut b o (fun h => hb (by simp [h])) eo
  done := fun s Q E x hQ => by
    have hit := x.2.1
    rw [Nat.sub_self] at hit
    exact rv_end hh hit fun h' he' => hQ h' s.toks fun b o hb eo => he' b o (fun h => hb (by simp [h])) eo
  self := fun _ _ _ _ x hQ => rv_iter x.2.1 hQ
end
end PySem
namespace L2
open PySem PySem.Spec PyProof.Rows
end L2
namespace L2
open PySem PySem.Spec PyProof.Rows
section
variable {X : Cx} {pins : List (Addr × Obj)} {σ : St} {H : Hp} {s : Shared} {a : Addr} {u u' : HO}
end
end L2
namespace PySem
open Sem (wp)
section
variable {prog : Program} {w : World} {A : Around} {E : Value → Shared → Prop} {h : Heap} {g : Array GenState} {d : Drawn} {t : Nat} {os : OsState}
variable {nm q : Str} {C N : Addr} {bs bm bmB : List Value} {hdct : Bool} {sn : List Str} {sub : List Value} {ab : Bool} {col : Option Bool} {dd : Option Addr} {k0 k1 k2 k3 k5 : Option Value} {B newId initId : String}
theorem type_call_excTI (F : ExcBaseFacts B newId initId bmB) (T : OwnTail h bmB bm) {mN : Str → Option Value} {rest : List Value} {fI : Addr} {oI : Obj} {Q : Fin → Shared → Prop}
    (hC : h.get? C = some (excClassObj nm q C N bs bm hdct sn sub ab col dd k0 k1 k2 k3 k5 newId)) (hn : h.Ns N mN) (hi : mN "__init__" = some (.ref fI)) (hfI : h.get? fI = some oI) (hfc : oI.cls = .type "function")
    (hq : ∀ h' e, Heap.MadeExcOf h h' e (.ref C) rest → wpAny (model prog w) A (call (.ref fI) (.ref e :: rest)) (fun r s' => r = .none ∧ Q (.done (.ret (.ref e))) s') E ⟨h', g, d, t, os⟩) (hrest : rest.length ≤ sizeLine) :
    wpAny (model prog w) A (Builtin.«type.__call__» ⟨.ref C :: rest, []⟩) Q E ⟨h, g, d, t, os⟩ := by
  repeat (first | with_reducible refine wpAny_loadPart_at hC ?_ | with_reducible refine wpAny_madeBy_exc hC ?_ | wp_step)
  refine codeAny_call_builtin_code (Code.quiet_builtin _ F.quiet) (wpAny_check_new_subT F T hC ?_)
  refine codeAny_exc_new_subT F T hC ?_ hrest
  show wpAny _ _ _ _ _ _
  have hC1 := Heap.get?_push_of_some { cls := .ref C, data := .fields #[.ref h.objs.size, .none, .none, .none, .bool false, .none] } (Heap.get?_push_of_some { cls := .type "tuple", data := .seq rest.toArray } hC)
  have hfI1 := Heap.get?_push_of_some { cls := .ref C, data := .fields #[.ref h.objs.size, .none, .none, .none, .bool false, .none] } (Heap.get?_push_of_some { cls := .type "tuple", data := .seq rest.toArray } hfI)
  have hn1 : ((h.push { cls := .type "tuple", data := .seq rest.toArray }).push { cls := .ref C, data := .fields #[.ref h.objs.size, .none, .none, .none, .bool false, .none] }).Ns N mN :=
    let ⟨o, es, ep, e, r⟩ := hn; ⟨o, es, ep, Heap.get?_push_of_some _ (Heap.get?_push_of_some _ e), r⟩
  have hget : ((h.push { cls := .type "tuple", data := .seq rest.toArray }).push { cls := .ref C, data := .fields #[.ref h.objs.size, .none, .none, .none, .bool false, .none] }).get? (h.objs.size + 1) = some { cls := .ref C, data := .fields #[.ref h.objs.size, .none, .none, .none, .bool false, .none] } := by heap_get
  have hcC : (Value.ref C :: bm).contains (.ref C) = true := by simp
  have T1 := T.keeps (h' := (h.push { cls := .type "tuple", data := .seq rest.toArray }).push { cls := .ref C, data := .fields #[.ref h.objs.size, .none, .none, .none, .bool false, .none] }) fun b o e => Heap.get?_push_of_some _ (Heap.get?_push_of_some _ e)
  unfold isInstance
  repeat (first | with_reducible refine wpAny_loadPart_at hget ?_ | (with_reducible refine wpAny_isSubtype_exc hC1 ?_; rw [hcC]) | wp_step)
  show wpAny _ _ (typeLookup (.ref C) _) _ _ _
  refine wpAny_typeLookup_tail hC1 hn1 T1 F.mroIs F.init.lookup ?_
  rw [hi]
  refine wpAny_holding (wpAny_bind ?_)
  unfold bindSpecial
  refine wpAny_bind (wpAny_typeOf (T := "function") ⟨_, hfI1, hfc⟩ ?_)
  rw [if_pos (by decide)]
  refine wpAny_pure (wpAny_bind (wpAny_mono (hq _ (h.objs.size + 1) ⟨fun b o hb => Heap.get?_push_of_some _ (Heap.get?_push_of_some _ hb), Heap.get?_none_of_le (Nat.le_succ _), h.objs.size, hget, Heap.get?_none_of_le (Nat.le_refl _), ?_⟩) (fun r s' hr => ?_) fun _ _ x => x))
  · exact Heap.get?_push_of_some _ (Heap.get?_push_at rfl rfl)
  · obtain ⟨rfl, hQ⟩ := hr
    wp_walk
    exact hQ
theorem call_excTI (F : ExcBaseFacts B newId initId bmB) (T : OwnTail h bmB bm) {mN : Str → Option Value} {rest : List Value} {fI : Addr} {oI : Obj} {Q : Value → Shared → Prop}
    (hC : h.get? C = some (excClassObj nm q C N bs bm hdct sn sub ab col dd k0 k1 k2 k3 k5 newId)) (hn : h.Ns N mN) (hi : mN "__init__" = some (.ref fI)) (hfI : h.get? fI = some oI) (hfc : oI.cls = .type "function")
    (hq : ∀ h' e, Heap.MadeExcOf h h' e (.ref C) rest → wpAny (model prog w) (A.under (.builtin "type.__call__" ⟨.ref C :: rest, []⟩)) (call (.ref fI) (.ref e :: rest)) (fun r s' => r = .none ∧ Q (.ref e) s') E ⟨h', g, d, t, os⟩) (hrest : rest.length ≤ sizeLine) :
    wpAny (model prog w) A (call (.ref C) rest) Q E ⟨h, g, d, t, os⟩ := by
  have f1 := tc_lookup
  have f2 := tc_bind (.ref C)
  have hT : (⟨h, g, d, t, os⟩ : Shared).TypeIs (.ref C) "type" := ⟨_, hC, rfl⟩
  refine wpAny_call (codeAny_of_tree ?_)
  show wpAny _ _ (callAny (.ref C) _) _ _ _
  repeat (any_goals (first | assumption | with_reducible refine wpAny_loadPart_at hC ?_ | wp_step))
  refine ⟨rfl, ?_⟩
  refine codeAny_call_builtin_at (Code.quiet_builtin _ (by decide +kernel)) entry_typeCall (wpAny_check_type_call_sub hC (type_call_excTI F T hC hn hi hfI hfc (fun h' e hm => ?_) hrest))
  exact hq h' e hm
end
end PySem
namespace PySem
open Sem (wp)
open Builtin Builtin.ObjectAttr
inductive TailN (h : Heap) (S : List Str) (bmB : List Value) : List Value → Prop
  | base : TailN h S bmB bmB
  | own {A : Addr} {c0 : Value} {dd : Option Addr} {cd : ClassData} {sl : Array (Option Value)} {mA : Str → Option Value} {tl : List Value} :
      h.get? A = some { cls := c0, dict := dd, data := .cls cd, slots := sl } → h.Ns cd.ns mA → (∀ n ∈ S, mA n = none) → TailN h S bmB tl → TailN h S bmB (.ref A :: tl)
theorem TailN.tail {h : Heap} {S : List Str} {bmB tl : List Value} (hS : ("__init__" : Str) ∈ S) (T : TailN h S bmB tl) : OwnTail h bmB tl := by
  induction T with
  | base => exact .base
  | own hA hN hn _ ih => exact .own hA hN (hn _ hS) ih
theorem TailN.keeps {h h' : Heap} {S : List Str} {bmB tl : List Value} (T : TailN h S bmB tl) (hk : ∀ b o, h.get? b = some o → h'.get? b = some o) : TailN h' S bmB tl := by
  induction T with
  | base => exact .base
  | own hA hN hn _ ih => exact .own (hk _ _ hA) (hN.keeps hk) hn ih
theorem TailN.hasType {h : Heap} {S : List Str} {bmB tl : List Value} (T : TailN h S bmB tl) {X : String} {b : Bool} (hb : bmB.contains (.type X) = b) : tl.contains (.type X) = b := by
  induction T with
  | base => exact hb
  | own _ _ _ _ ih => rw [List.contains_cons, ih]; rfl
theorem TailN.refuse {h : Heap} {S : List Str} {bmB tl : List Value} (T : TailN h S bmB tl) (self : Value) (what : Str) : refuseLoop self what tl = refuseLoop self what bmB := by
  induction T with
  | base => rfl
  | own _ _ _ _ ih => rw [refuseLoop_ref, ih]
section
variable {M : Model} {prog : Program} {w : World} {A : Around} {E : Value → Shared → Prop} {h : Heap} {g : Array GenState} {d : Drawn} {t : Nat} {os : OsState}
variable {nm q : Str} {C N x : Addr} {bs bm bmB : List Value} {sn : List Str} {sub : List Value} {ab hdct : Bool} {col : Option Bool} {dd : Option Addr} {k0 k1 k2 k3 k5 : Option Value} {B newId sa owner : String}
  {mN mA : Str → Option Value} {name : Str} {v : Value} {S : List Str}
theorem along_tailN {y : Option Value} {Q : Option Value → Shared → Prop} (hs : name ∈ S) (T : TailN h S bmB bm) (hrest : lookupAlong bmB name = pure y) (hq : Q y ⟨h, g, d, t, os⟩) : wpAny M A (lookupAlong bm name) Q E ⟨h, g, d, t, os⟩ := by
  induction T with
  | base => rw [hrest]; exact wpAny_pure hq
  | own hA hN hn _ ih =>
    rw [lookupAlong_cons]
    refine wpAny_bind (wpAny_classOwn_cls hA hN ?_)
    rw [hn _ hs]
    exact ih
theorem lookup_tailN {y : Option Value} {Q : Option Value → Shared → Prop} (hs : name ∈ S) (hC : h.get? C = some (excClassObj nm q C N bs bm hdct sn sub ab col dd k0 k1 k2 k3 k5 newId)) (hn : h.Ns N mN) (T : TailN h S bmB bm) (hbm : mroOf (.type B) = pure bmB)
    (hB : typeLookup (.type B) name = pure y) (hq : Q (match mN name with | some v => some v | none => y) ⟨h, g, d, t, os⟩) : wpAny M A (typeLookup (.ref C) name) Q E ⟨h, g, d, t, os⟩ := by
  have hrest : lookupAlong bmB name = pure y := by rw [typeLookup_eq, hbm] at hB; exact hB
  rw [typeLookup_eq]
  refine wpAny_bind (wpAny_mroOf_exc hC ?_)
  rw [lookupAlong_cons]
  refine wpAny_bind (wpAny_classOwn_exc hC hn ?_)
  cases hv : mN name with
  | some v => rw [hv] at hq; exact wpAny_pure hq
  | none => rw [hv] at hq; exact along_tailN hs T hrest hq
theorem check_saN {o : Obj} {nameV : Value} {Q : Unit → Shared → Prop} (SF : StoreFacts B bmB sa owner) (T : TailN h S bmB bm)
    (hC : h.get? C = some (excClassObj nm q C N bs bm true sn sub ab col dd k0 k1 k2 k3 k5 newId)) (hx : h.get? x = some o) (hc : o.cls = .ref C) (hq : Q () ⟨h, g, d, t, os⟩) : wpAny M A (checkBuiltinCall sa ⟨[.ref x, nameV, v], []⟩) Q E ⟨h, g, d, t, os⟩ := by
  have hcB : (Value.ref C :: bm).contains (.type owner) = true := by rw [List.contains_cons, T.hasType SF.hasOwner, Bool.or_true]
  have ha := SF.args (.ref x) nameV v
  simp only [checkBuiltinCall, SF.kind, SF.split]
  refine wpAny_bind ?_
  unfold isInstance
  repeat (first | (with_reducible refine wpAny_loadPart_at hx ?_; rw [hc]) | (with_reducible refine wpAny_isSubtype_exc hC ?_; rw [hcB]) | wp_step)
  cases hsig : Manifest.signature? sa with
  | none => exact wpAny_pure hq
  | some sig =>
    simp only [argsOk, hsig] at ha
    have h2 : Bind.checkArgs sa sig ⟨[.ref x, nameV, v], []⟩ = pure () := ha
    show wpAny M A (Bind.checkArgs sa sig ⟨[.ref x, nameV, v], []⟩) Q E _
    rw [h2]; exact wpAny_pure hq
theorem store_entryN {tk : Tok} {Q : Fin → Shared → Prop} {ns : List Str} (SF : StoreFacts B bmB sa owner) (T : TailN h S bmB bm) (hs : name ∈ S)
    (hC : h.get? C = some (excClassObj nm q C N bs bm true sn sub ab col dd k0 k1 k2 k3 k5 newId)) (hn : h.Ns N mN) (hna : mN name = none) (hB : typeLookup (.type B) name = pure none) (hxC : x ≠ C) (I : h.Inst x C mA)
    (hq : ∀ h' tk', h'.Inst x C (fun y => if y = name then some v else mA y) → (∀ b o, b ≠ x → (∀ o₀ dx, h.get? x = some o₀ → o₀.dict = some dx → b ≠ dx) → h.get? b = some o → h'.get? b = some o) →
      (∀ o₀, h.get? x = some o₀ → ∃ o₁, h'.get? x = some o₁ ∧ o₁.cls = o₀.cls ∧ o₁.data = o₀.data ∧ o₁.slots = o₀.slots ∧ (∀ dx, o₀.dict = some dx → o₁.dict = some dx) ∧ (o₀.dict = none → o₁.dict = some h.objs.size)) → Q (.done (.ret .none)) ⟨h', g, d, tk', os⟩) (hw : Within mA ns) (hsz : ns.length + 1 ≤ sizeLine) :
    wpAny (model prog w) A (Builtin.«object.__setattr__» ⟨[.ref x, .str name tk, v], []⟩) Q E ⟨h, g, d, t, os⟩ := by
  obtain ⟨o, hx, hc, hnc, hd⟩ := I
  have hpass := (T.refuse (.ref x) "__setattr__").trans (SF.passes (.ref x))
  unfold Builtin.«object.__setattr__»
  repeat (first | rw [refuse_eq] | (rw [refuseLoop_ref, hpass]) | (with_reducible refine wpAny_loadPart_at hx ?_; rw [hc]) | with_reducible refine wpAny_mroOf_exc hC ?_ | (with_reducible refine lookup_tailN hs hC hn T SF.mro hB ?_; rw [hna]) | wp_step)
  rcases hd with ⟨hdn, hmA⟩ | ⟨dx, hdx, hne, hns⟩
  · rw [hdn, if_neg (by simp [typeHasDict])]
    split
    · rename_i hcd
      cases hcd
    split
    · rename_i c hcd
      exact absurd hcd (hnc c)
    · have hx1 : (h.push { cls := .type "dict", data := .dict #[] }).get? x = some o := Heap.get?_push_of_some _ hx
      have hxs : x ≠ h.objs.size := Nat.ne_of_lt (Heap.lt_size hx)
      refine wpAny_bind (wpAny_alloc' ?_)
      refine wpAny_bind (wpAny_update' hx1 ?_)
      refine wpAny_pure ?_
      have hgd : ((h.push { cls := .type "dict", data := .dict #[] }).update x fun o => { cls := o.cls, dict := some h.objs.size, data := o.data, slots := o.slots }).get? h.objs.size = some { cls := .type "dict", data := .dict #[] } :=
        (Heap.get?_update_ne _ _ _ _ hxs.symm).trans (Heap.get?_push_at rfl rfl)
      have hnd : ((h.push { cls := .type "dict", data := .dict #[] }).update x fun o => { cls := o.cls, dict := some h.objs.size, data := o.data, slots := o.slots }).Ns h.objs.size (fun _ => none) :=
        ⟨_, #[], _, hgd, rfl, fun e he => absurd he (by simp), fun _ => rfl⟩
      show wpAny _ _ (storeInDict h.objs.size (.str name tk) name v) _ _ _
      unfold storeInDict newKeyGuard
      refine wpAny_bind (wpAny_pure (wpAny_bind (wpAny_nsSet1 (Heap.Ns1.of_empty hnd) fun h' hn' hs' => ?_)))
      obtain ⟨oD, esD, epD, hoD, hdD, hcD⟩ := hn'.count (Within.cons name v Within.nil)
      refine wpAny_bind (wpAny_lookBehind hoD (by rw [hdD]; exact pastItsLine_dict (Nat.le_trans hcD (by rw [List.length_cons, List.length_nil, sizeLine_eq]; omega))) ?_)
      wp_walk
      have hx' : h'.get? x = some { cls := o.cls, dict := some h.objs.size, data := o.data, slots := o.slots } := ?_
      refine hq h' _ ⟨{ cls := o.cls, dict := some h.objs.size, data := o.data, slots := o.slots }, hx', hc, hnc, .inr ⟨h.objs.size, rfl, hxs.symm, ?_⟩⟩ (fun b ob hbx _ hb => ?_)
        (fun o₀ h₀ => by obtain rfl : o = o₀ := Option.some.inj (hx.symm.trans h₀); exact ⟨_, hx', rfl, rfl, rfl, fun dx e => (by rw [hdn] at e; cases e), fun _ => rfl⟩)
      · obtain ⟨o', es, ep, e1, e2, e3, eu, e4⟩ := hn'
        exact ⟨o', es, ep, e1, e2, e3, eu, fun y => by rw [e4 y]; by_cases hy : y = name <;> simp [hy, hmA]⟩
      · exact (hs'.2 b (Nat.ne_of_lt (Heap.lt_size hb))).trans ((Heap.get?_update_ne _ _ _ _ hbx).trans (Heap.get?_push_of_some _ hb))
      · refine (hs'.2 x hxs).trans (Heap.get?_update_self _ hx1 ?_)
        have hfr := (Heap.get?_some_iff.mp hx).2
        obtain ⟨oc, od, odt, osl⟩ := o
        cases odt <;> first | rfl | exact hfr
  · rw [hdx]
    refine wpAny_pure ?_
    show wpAny _ _ (storeInDict dx (.str name tk) name v) _ _ _
    unfold storeInDict newKeyGuard
    refine wpAny_bind (wpAny_pure (wpAny_bind (wpAny_nsSet1 hns fun h' hn' hs' => ?_)))
    obtain ⟨oD, esD, epD, hoD, hdD, hcD⟩ := hn'.count (Within.cons name v hw)
    refine wpAny_bind (wpAny_lookBehind hoD (by rw [hdD]; exact pastItsLine_dict (Nat.le_trans hcD (by rw [List.length_cons]; omega))) ?_)
    wp_walk
    refine hq h' _ ⟨o, (hs'.2 x hne.symm).trans hx, hc, hnc, .inr ⟨dx, hdx, hne, hn'⟩⟩ (fun b ob _ hbd hb => ?_) (fun o₀ h₀ => ⟨o₀, (hs'.2 x hne.symm).trans h₀, rfl, rfl, rfl, fun _ e => e, fun e => (by obtain rfl : o = o₀ := Option.some.inj (hx.symm.trans h₀); rw [hdx] at e; cases e)⟩)
    exact (hs'.2 b (hbd o dx hx hdx)).trans hb
theorem store_attrN {Q : Unit → Shared → Prop} {ns : List Str} (SF : StoreFacts B bmB sa owner) (T : TailN h S bmB bm) (hs : name ∈ S) (hs2 : ("__setattr__" : Str) ∈ S)
    (hC : h.get? C = some (excClassObj nm q C N bs bm true sn sub ab col dd k0 k1 k2 k3 k5 newId)) (hn : h.Ns N mN) (hns : mN "__setattr__" = none) (hna : mN name = none) (hB : typeLookup (.type B) name = pure none) (hxC : x ≠ C) (I : h.Inst x C mA)
    (hq : ∀ h' tk', h'.Inst x C (fun y => if y = name then some v else mA y) → (∀ b o, b ≠ x → (∀ o₀ dx, h.get? x = some o₀ → o₀.dict = some dx → b ≠ dx) → h.get? b = some o → h'.get? b = some o) →
      (∀ o₀, h.get? x = some o₀ → ∃ o₁, h'.get? x = some o₁ ∧ o₁.cls = o₀.cls ∧ o₁.data = o₀.data ∧ o₁.slots = o₀.slots ∧ (∀ dx, o₀.dict = some dx → o₁.dict = some dx) ∧ (o₀.dict = none → o₁.dict = some h.objs.size)) → Q () ⟨h', g, d, tk', os⟩) (hw : Within mA ns) (hsz : ns.length + 1 ≤ sizeLine) :
    wpAny (model prog w) A (setAttr (.ref x) name v) Q E ⟨h, g, d, t, os⟩ := by
  obtain ⟨o, hx, hc, _⟩ := id I
  have f3 := SF.slot.bind (.ref x)
  unfold setAttr callSpecial? specialOf
  repeat (any_goals (first | assumption | (with_reducible refine wpAny_loadPart_at hx ?_; rw [hc]) | (with_reducible refine lookup_tailN hs2 hC hn T SF.mro SF.slot.lookup ?_; rw [hns]) | wp_step))
  refine codeAny_call_builtin SF.slot.plain SF.entry (check_saN SF T hC hx hc (store_entryN SF T hs hC hn hna hB hxC I (fun h' tk' I' hk hsame => ?_) hw hsz))
  repeat (any_goals (first | assumption | wp_step))
  exact hq h' tk' I' hk hsame
end
end PySem
namespace PySem
open Sem (wp)
open Builtin Builtin.ObjectAttr
section
variable {prog : Program} {w : World} {A : Around} {E : Value → Shared → Prop} {h : Heap} {g : Array GenState} {d : Drawn} {t : Nat} {os : OsState}
variable {nm q : Str} {C N x : Addr} {bs bm bmB : List Value} {sn : List Str} {sub : List Value} {ab hdct : Bool} {col : Option Bool} {dd : Option Addr} {k0 k1 k2 k3 k5 : Option Value} {B newId : String}
  {mN mA : Str → Option Value} {name : Str} {v : Value} {S : List Str} {o : Obj}
theorem check_gaN {M : Model} {nameV : Value} {Q : Unit → Shared → Prop} (FB : ExcAttrBase B bmB) (T : TailN h S bmB bm) (hC : h.get? C = some (excClassObj nm q C N bs bm hdct sn sub ab col dd k0 k1 k2 k3 k5 newId))
    (hx : h.get? x = some o) (hc : o.cls = .ref C) (hq : Q () ⟨h, g, d, t, os⟩) : wpAny M A (checkBuiltinCall "BaseException.__getattribute__" ⟨[.ref x, nameV], []⟩) Q E ⟨h, g, d, t, os⟩ := by
  have e1 : builtinKind "BaseException.__getattribute__" = some .slot := by decide +kernel
  have e2 : splitId "BaseException.__getattribute__" = some ("BaseException", "__getattribute__") := by decide +kernel
  have e3 : (Value.ref C :: bm).contains (.type "BaseException") = true := by rw [List.contains_cons, T.hasType FB.hasBase, Bool.or_true]
  have ha := F.args_bexc_ga (.ref x) nameV
  simp only [checkBuiltinCall, e1, e2]
  refine wpAny_bind ?_
  unfold isInstance
  repeat (first | (with_reducible refine wpAny_loadPart_at hx ?_; rw [hc]) | (with_reducible refine wpAny_isSubtype_exc hC ?_; rw [e3]) | wp_step)
  exact hq
theorem load_bodyN {tk : Tok} {Q : Fin → Shared → Prop} (FB : ExcAttrBase B bmB) (T : TailN h S bmB bm) (hs : name ∈ S) (hC : h.get? C = some (excClassObj nm q C N bs bm true sn sub ab col dd k0 k1 k2 k3 k5 newId)) (hn : h.Ns N mN)
    (hna : mN name = none) (hB : typeLookup (.type B) name = pure none) (I : h.Inst x C mA) (hv : mA name = some v) (hh : handedOut v = pure v) (hq : Q (.done (.ret v)) ⟨h, g, d, t, os⟩) :
    wpAny (model prog w) A (Builtin.«object.__getattribute__» ⟨[.ref x, .str name tk], []⟩) Q E ⟨h, g, d, t, os⟩ := by
  obtain ⟨o, hx, hc, hnc, hd⟩ := I
  rcases hd with ⟨_, hmA⟩ | ⟨dx, hdx, hne, hns⟩
  · rw [hmA name] at hv; cases hv
  unfold Builtin.«object.__getattribute__»
  repeat (first | (with_reducible refine wpAny_loadPart_at hx ?_; rw [hc]) | (with_reducible refine lookup_tailN hs hC hn T FB.mro hB ?_; rw [hna]) | wp_step)
  split
  · rename_i c hcd
    exact absurd hcd (hnc c)
  unfold instanceDict
  repeat (first | (with_reducible refine wpAny_loadPart_at hx ?_; rw [hc]) | with_reducible refine wpAny_loadPart_at hC ?_ | wp_step)
  rw [hdx]
  repeat (first | (with_reducible refine wpAny_nsGet hns.ns ?_; rw [hv]) | wp_step)
  exact hq
theorem load_attrN {expr : Bool} {Q : Value → Shared → Prop} (FB : ExcAttrBase B bmB) (T : TailN h S bmB bm) (hs : name ∈ S) (hsa : ("__getattribute__" : Str) ∈ S) (hsb : ("__getattr__" : Str) ∈ S)
    (hC : h.get? C = some (excClassObj nm q C N bs bm true sn sub ab col dd k0 k1 k2 k3 k5 newId)) (hn : h.Ns N mN) (hmN : ∀ n ∈ S, mN n = none)
    (hB : typeLookup (.type B) name = pure none) (I : h.Inst x C mA) (hv : mA name = some v) (hh : handedOut v = pure v) (hq : Q v ⟨h, g, d, t + 1, os⟩) :
    wpAny (model prog w) A (getAttr (.ref x) name expr) Q E ⟨h, g, d, t, os⟩ := by
  obtain ⟨o, hx, hc, _⟩ := id I
  have f3 := FB.ga.bind (.ref x)
  have b0 : (expr && onTheHeap (Value.builtin "BaseException.__getattribute__")) = false := by cases expr <;> rfl
  have b2 : (Value.builtin "BaseException.__getattribute__" == Value.builtin "object.__getattribute__") = false := by decide +kernel
  have b1 : (onTheHeap (Value.ref C) && Value.builtin "BaseException.__getattribute__" == Value.builtin "object.__getattribute__") = false := by rw [b2]; rfl
  have n1 := hmN _ hsa
  have n2 := hmN _ hsb
  unfold getAttr getAttrBy
  repeat (any_goals (first | assumption | (with_reducible refine wpAny_loadPart_at hx ?_; rw [hc]) | (with_reducible refine lookup_tailN hsa hC hn T FB.mro FB.ga.lookup ?_; rw [n1]) | (with_reducible refine lookup_tailN hsb hC hn T FB.mro FB.noGetattr ?_; rw [n2]) | wp_step))
  refine codeAny_call_builtin FB.ga.plain F.entry_bexc_ga (check_gaN FB T hC hx hc (load_bodyN FB T hs hC hn (hmN _ hs) hB I hv hh ?_))
  repeat (any_goals (first | assumption | wp_step))
theorem class_getN {R : Result → Shared → Prop} (hob : bmB.contains (.type "object") = true) (T : TailN h S bmB bm) (hC : h.get? C = some (excClassObj nm q C N bs bm hdct sn sub ab col dd k0 k1 k2 k3 k5 newId))
    (hx : h.get? x = some o) (hc : o.cls = .ref C) (hq : R (.ok (.ret (.ref C))) ⟨h, g, d, t, os⟩) :
    codeAny (model prog w) A (.call (.builtin "getset_descriptor.__get__") ⟨[.builtin "object.__class__", .ref x, .ref C], []⟩) R ⟨h, g, d, t, os⟩ := by
  have hT5 : (⟨h, g, d, t, os⟩ : Shared).TypeIs (.builtin "object.__class__") "getset_descriptor" := F.typeOf_object_class
  have e3 : (Value.ref C :: bm).contains (.type (".".intercalate ("object.__class__".cutAt '.').dropLast)) = true := by
    rw [F.owner_object_class, List.contains_cons, T.hasType hob, Bool.or_true]
  refine codeAny_call_builtin F.slot_gs_get.plain F.entry_gs_get (F.slot_gs_get.check _ _ _ _ _ _ _ _ hT5 (F.args_gs_get _ _ _) ?_)
  repeat (any_goals (first | assumption | (with_reducible refine wpAny_loadPart_at hx ?_; rw [hc]) | (with_reducible refine wpAny_isSubtype_exc hC ?_; rw [e3]) | wp_step))
  refine ⟨Code.quiet_builtin _ (by decide +kernel), codeAny_builtin F.entry_object_class ?_⟩
  repeat (any_goals (first | assumption | (with_reducible refine wpAny_loadPart_at hx ?_; rw [hc]) | wp_step))
theorem class_bodyN {tk : Tok} {Q : Fin → Shared → Prop} (hlk : typeLookup (.type B) "__class__" = pure (some (.builtin "object.__class__"))) (hob : bmB.contains (.type "object") = true) (hs : ("__class__" : Str) ∈ S) (FB : ExcAttrBase B bmB) (T : TailN h S bmB bm)
    (hC : h.get? C = some (excClassObj nm q C N bs bm hdct sn sub ab col dd k0 k1 k2 k3 k5 newId)) (hn : h.Ns N mN) (hmN : ∀ n ∈ S, mN n = none) (hx : h.get? x = some o) (hc : o.cls = .ref C) (hq : Q (.done (.ret (.ref C))) ⟨h, g, d, t, os⟩) :
    wpAny (model prog w) A (Builtin.«object.__getattribute__» ⟨[.ref x, .str "__class__" tk], []⟩) Q E ⟨h, g, d, t, os⟩ := by
  have hT5 : (⟨h, g, d, t, os⟩ : Shared).TypeIs (.builtin "object.__class__") "getset_descriptor" := F.typeOf_object_class
  have f5 := F.typeOf_object_class
  have f6 := F.slot_gs_get.lookup
  have f7 := F.slot_gs_set.lookup
  have n1 := hmN _ hs
  repeat (any_goals (first | assumption | (with_reducible refine wpAny_loadPart_at hx ?_; rw [hc]) | (with_reducible refine lookup_tailN hs hC hn T FB.mro hlk ?_; rw [n1]) | wp_step))
  refine class_getN hob T hC hx hc ?_
  repeat (any_goals (first | assumption | wp_step))
theorem class_byN {tk : Tok} {Q : Value → Shared → Prop} (hlk : typeLookup (.type B) "__class__" = pure (some (.builtin "object.__class__"))) (hob : bmB.contains (.type "object") = true) (hs : ("__class__" : Str) ∈ S) (hsa : ("__getattribute__" : Str) ∈ S) (hsb : ("__getattr__" : Str) ∈ S) (FB : ExcAttrBase B bmB) (T : TailN h S bmB bm)
    (hC : h.get? C = some (excClassObj nm q C N bs bm hdct sn sub ab col dd k0 k1 k2 k3 k5 newId)) (hn : h.Ns N mN) (hmN : ∀ n ∈ S, mN n = none) (hx : h.get? x = some o) (hc : o.cls = .ref C) (hq : Q (.ref C) ⟨h, g, d, t, os⟩) :
    wpAny (model prog w) A (getAttrBy (.ref x) (.str "__class__" tk) false) Q E ⟨h, g, d, t, os⟩ := by
  have f3 := FB.ga.bind (.ref x)
  have b2 : (Value.builtin "BaseException.__getattribute__" == Value.builtin "object.__getattribute__") = false := by decide +kernel
  have b1 : (onTheHeap (Value.ref C) && Value.builtin "BaseException.__getattribute__" == Value.builtin "object.__getattribute__") = false := by rw [b2]; rfl
  have n1 := hmN _ hsa
  have n2 := hmN _ hsb
  repeat (any_goals (first | assumption | (with_reducible refine wpAny_loadPart_at hx ?_; rw [hc]) | (with_reducible refine lookup_tailN hsa hC hn T FB.mro FB.ga.lookup ?_; rw [n1]) | (with_reducible refine lookup_tailN hsb hC hn T FB.mro FB.noGetattr ?_; rw [n2]) | wp_step))
  refine codeAny_call_builtin FB.ga.plain F.entry_bexc_ga (check_gaN FB T hC hx hc (class_bodyN hlk hob hs FB T hC hn hmN hx hc ?_))
  repeat (any_goals (first | assumption | wp_step))
theorem class_attrN {Q : Option Value → Shared → Prop} (hlk : typeLookup (.type B) "__class__" = pure (some (.builtin "object.__class__"))) (hob : bmB.contains (.type "object") = true) (hs : ("__class__" : Str) ∈ S) (hsa : ("__getattribute__" : Str) ∈ S) (hsb : ("__getattr__" : Str) ∈ S) (FB : ExcAttrBase B bmB) (T : TailN h S bmB bm)
    (hC : h.get? C = some (excClassObj nm q C N bs bm hdct sn sub ab col dd k0 k1 k2 k3 k5 newId)) (hn : h.Ns N mN) (hmN : ∀ n ∈ S, mN n = none) (hx : h.get? x = some o) (hc : o.cls = .ref C) (hq : Q (some (.ref C)) ⟨h, g, d, t + 1, os⟩) :
    wpAny (model prog w) A (getAttr? (.ref x) "__class__") Q E ⟨h, g, d, t, os⟩ := by
  unfold getAttr? getAttrBy?
  repeat (any_goals (first | assumption | with_reducible apply class_byN hlk hob hs hsa hsb FB T hC hn hmN hx hc | wp_step))
end
end PySem
namespace PySem
open Sem (wp)
def ExcObj (h : Heap) (e : Addr) (cls : Value) (dx : Option Addr) (y : Value) : Prop :=
  ∃ o vs a0, h.get? e = some o ∧ o.cls = cls ∧ o.dict = dx ∧ o.data = .fields vs ∧ vs[0]? = some a0 ∧ vs[1]? = some y
def Aloft (h : Heap) (e : Addr) (cls : Value) (dx : Option Addr) (T : Addr) (fl : Value) : Prop :=
  T ≠ e ∧ ExcObj h e cls dx (.ref T) ∧ ∃ oT ts, h.get? T = some oT ∧ oT.data = .fields ts ∧ ts[3]? = some fl
structure KeptX (fr ex : List Addr) (h h' : Heap) : Prop where
  keep : ∀ b o, h.get? b = some o → b ∉ fr → b ∉ ex → h'.get? b = some o
  slot : ∀ b o, h.get? b = some o → b ∉ ex → ∃ sl, h'.get? b = some { o with slots := sl }
  there : ∀ b o, h.get? b = some o → ∃ o', h'.get? b = some o'
theorem KeptX.trans {fr ex ex2 : List Addr} {h h1 h2 : Heap} (a : KeptX fr ex h h1) (b : KeptX fr ex2 h1 h2) (hs : ∀ b o, h.get? b = some o → b ∈ ex2 → b ∈ ex) : KeptX fr ex h h2 where
  keep := fun c o e hf hx => b.keep c o (a.keep c o e hf hx) hf fun z => hx (hs c o e z)
  slot := fun c o e hx => by
    obtain ⟨sl, e1⟩ := a.slot c o e hx
    obtain ⟨sl', e2⟩ := b.slot c _ e1 fun z => hx (hs c o e z)
    exact ⟨sl', e2⟩
  there := fun c o e => let ⟨o', e1⟩ := a.there c o e; b.there c o' e1
theorem KeptX.mono {fr fr' ex ex' : List Addr} {h h1 : Heap} (a : KeptX fr ex h h1) (hf : ∀ b ∈ fr, b ∈ fr') (hx : ∀ b ∈ ex, b ∈ ex') : KeptX fr' ex' h h1 :=
  ⟨fun b o e n m => a.keep b o e (fun z => n (hf b z)) fun z => m (hx b z), fun b o e m => a.slot b o e fun z => m (hx b z), a.there⟩
theorem KeptX.funs {fr ex : List Addr} {h h1 base : Heap} {l : List Env} (a : KeptX fr ex h h1) (hx : ∀ b o, b ∈ ex → h.get? b = some o → ∃ vs, o.data = .fields vs) (hl : h.FunFrames base l) : h1.FunFrames base l :=
  hl.of_keeps fun b o e hn => by
    obtain ⟨sl, q⟩ := a.slot b o e fun z => by obtain ⟨vs, q⟩ := hx b o z e; exact hn vs q
    exact ⟨_, q, rfl⟩
theorem setFieldX_kept {h : Heap} {T i : Nat} {x : Value} {oT : Obj} {ts : Array Value} (hT : h.get? T = some oT) (hd : oT.data = .fields ts) : KeptX [] [T] h (h.update T (Obj.mapFields (·.setIfInBounds i x))) := by
  have ot : ∀ b, b ≠ T → (h.update T (Obj.mapFields (·.setIfInBounds i x))).get? b = h.get? b := fun b hb => Heap.get?_update_other _ _ (Ne.symm hb)
  refine ⟨fun b o e _ n => (ot b fun z => n (by simp [z])).trans e, fun b o e n => ⟨o.slots, (ot b fun z => n (by simp [z])).trans e⟩, fun b o e => ?_⟩
  by_cases hb : b = T
  · rw [hb]; exact ⟨_, Heap.get?_update_self _ hT (Obj.isFreed_of_fields (Obj.data_mapFields hd _))⟩
  · exact ⟨o, (ot b hb).trans e⟩
section
variable {M : Model} {A : Around} {E : Value → Shared → Prop} {s : Shared}
variable {base : Heap} {env : Env} {outer : List Env} {L e T : Addr} {cls : Value} {dx : Option Addr} {Q : Unit → Shared → Prop}
theorem entryX {y head : Value} {hadNext : Bool} (hfr : A.frames = some (env :: outer)) (hl : s.heap.FunFrames base (env :: outer)) (hf : env.frame = some L) (hx : ExcObj s.heap e cls dx y)
    (hq : ∀ h' T', s.heap.objs.size ≤ T' → Aloft h' e cls dx T' (rawInt L) → KeptX ((env :: outer).filterMap (·.frame)) [e] s.heap h' → Q () { s with heap := h' }) :
    wpAny M A (do let a ← frameOf env; let pl ← entryPlaceOf L hadNext; let b ← EntryCells.newEntry head a .none (rawInt L) .none pl; setField (.ref e) 1 b) Q E s := by
  obtain ⟨o, vs, a0, ho, hc, hdx, hd, h0, h1⟩ := hx
  have hsz : 1 < vs.size := (Array.getElem?_eq_some_iff.mp h1).1
  have nfr : e ∉ (env :: outer).filterMap (·.frame) := fun z => by
    obtain ⟨_, o', ho', hn⟩ := hl.mem z
    rw [ho] at ho'; cases ho'; exact hn vs hd
  refine wpAny_bind (wpAny_frameOf_fun hfr hl hf fun g hg => ?_)
  refine wpAny_bind (wpAny_entryPlaceOf fun pl hpl => ?_)
  unfold EntryCells.newEntry newFields
  refine wpAny_bind (wpAny_newObj_type ?_ (hpl.sizeOk5 _ _ _ _ _))
  have e1 : g.get? e = some o := (hg.2.1 e nfr).trans ho
  have e2 := Heap.get?_push_of_some (h := g) { cls := .type "traceback", dict := none, data := .fields ([head, .ref L, .none, rawInt L, .none] ++ (if pl.isEmpty then List.replicate 6 Value.none else pl)).toArray } e1
  have hTe : g.objs.size ≠ e := Nat.ne_of_gt (Heap.lt_size e1)
  have d3 := Obj.data_mapFields hd (·.setIfInBounds 1 (Value.ref g.objs.size))
  have e3 := Heap.get?_update_self (Obj.mapFields (·.setIfInBounds 1 (Value.ref g.objs.size))) e2 (Obj.isFreed_of_fields d3)
  refine wpAny_setField e2 hd hsz (hq _ g.objs.size (Nat.le_of_eq hg.1.symm) ⟨hTe, ⟨_, _, a0, e3, (Obj.cls_mapFields _ _).trans hc, ?_, d3, by rw [Array.getElem?_setIfInBounds_ne (by decide)]; exact h0, by simp [hsz]⟩, ?_⟩ ?_)
  · rw [← hdx]; obtain ⟨_, _, dt, _⟩ := o; cases dt <;> rfl
  · exact ⟨_, _, (Heap.get?_update_other _ _ (Ne.symm hTe)).trans (Heap.get?_push_size g rfl), rfl, by first | (simp; done) | (rcases hpl with rfl | ⟨_, _, _, _, _, _, _, rfl⟩ <;> simp)⟩
  · have kp : ∀ b ob, b ≠ e → g.get? b = some ob → ((g.push { cls := .type "traceback", dict := none, data := .fields ([head, .ref L, .none, rawInt L, .none] ++ (if pl.isEmpty then List.replicate 6 Value.none else pl)).toArray }).update e (Obj.mapFields (·.setIfInBounds 1 (Value.ref g.objs.size)))).get? b = some ob :=
      fun b ob hb q => (Heap.get?_update_other _ _ (Ne.symm hb)).trans (Heap.get?_push_of_some _ q)
    refine ⟨fun b ob q n m => kp b ob (fun z => m (by simp [z])) ((hg.2.1 b n).trans q), fun b ob q m => ?_, fun b ob q => ?_⟩
    · obtain ⟨sl, q2⟩ := hg.2.2 b ob q
      exact ⟨sl, kp b _ (fun z => m (by simp [z])) q2⟩
    · by_cases hb : b = e
      · rw [hb]; exact ⟨_, e3⟩
      · obtain ⟨sl, q2⟩ := hg.2.2 b ob q
        exact ⟨_, kp b _ hb q2⟩
theorem setFlightX {fl : Value} (hx : Aloft s.heap e cls dx T fl) (hq : ∀ h', Aloft h' e cls dx T .none → KeptX [] [T] s.heap h' → Q () { s with heap := h' }) : wpAny M A (setFlight (.ref e) none) Q E s := by
  obtain ⟨hTe, ⟨o, vs, a0, ho, hc, hdx, hd, h0, h1⟩, oT, ts, hT, hdT, h3⟩ := hx
  have hs3 : 3 < ts.size := (Array.getElem?_eq_some_iff.mp h3).1
  unfold setFlight
  refine wpAny_bind (wpAny_field ho hd h1 ?_)
  rw [if_pos (show (Value.ref T != Value.none) = true from by simp)]
  refine wpAny_setField hT hdT hs3 (hq _ ⟨hTe, ⟨o, vs, a0, (Heap.get?_update_other _ _ hTe).trans ho, hc, hdx, hd, h0, h1⟩, _, _, Heap.get?_update_self _ hT (Obj.isFreed_of_fields (Obj.data_mapFields hdT _)), Obj.data_mapFields hdT _, by simp [hs3]⟩ (setFieldX_kept hT hdT))
theorem noteX_first (hfr : A.frames = some (env :: outer)) (hl : s.heap.FunFrames base (env :: outer)) (hf : env.frame = some L) (hx : ExcObj s.heap e cls dx .none)
    (hq : ∀ h' T', s.heap.objs.size ≤ T' → Aloft h' e cls dx T' (rawInt L) → KeptX ((env :: outer).filterMap (·.frame)) [e] s.heap h' → Q () { s with heap := h' }) : wpAny M A (noteFrame (.ref e) env) Q E s := by
  obtain ⟨o, vs, a0, ho, hc, hdx, hd, h0, h1⟩ := id hx
  unfold noteFrame
  simp only [hf]
  refine wpAny_bind (wpAny_field ho hd h1 ?_)
  rw [if_neg (by decide)]
  exact entryX hfr hl hf hx hq
theorem noteX_next (hfr : A.frames = some (env :: outer)) (hl : s.heap.FunFrames base (env :: outer)) (hf : env.frame = some L) (hx : Aloft s.heap e cls dx T .none)
    (hq : ∀ h' T', s.heap.objs.size ≤ T' → Aloft h' e cls dx T' (rawInt L) → KeptX ((env :: outer).filterMap (·.frame)) [e, T] s.heap h' → Q () { s with heap := h' }) : wpAny M A (noteFrame (.ref e) env) Q E s := by
  obtain ⟨hTe, ⟨o, vs, a0, ho, hc, hdx, hd, h0, h1⟩, oT, ts, hT, hdT, h3⟩ := hx
  unfold noteFrame
  simp only [hf]
  refine wpAny_bind (wpAny_field ho hd h1 ?_)
  rw [if_pos (show (Value.ref T != Value.none) = true from by simp)]
  refine wpAny_bind (wpAny_field hT hdT h3 ?_)
  rw [if_neg (show ¬ ((Value.none == rawInt L) = true) from by simp [rawInt])]
  refine wpAny_bind (wpAny_setField hT hdT (Array.getElem?_eq_some_iff.mp h3).1 ?_)
  have k1 := setFieldX_kept (i := 3) (x := Value.none) hT hdT
  have isx : ∀ b ob, b ∈ [T] → s.heap.get? b = some ob → ∃ ws, ob.data = .fields ws := fun b ob hb q => by
    have hb' : b = T := by simpa using hb
    subst hb'
    rw [hT] at q; cases q; exact ⟨ts, hdT⟩
  refine entryX (y := .ref T) hfr (k1.funs isx hl) hf ⟨o, vs, a0, (Heap.get?_update_other _ _ hTe).trans ho, hc, hdx, hd, h0, h1⟩ fun h' T' sz al k2 => hq h' T' ?_ al ?_
  · have : (s.heap.update T (Obj.mapFields (·.setIfInBounds 3 Value.none))).objs.size = s.heap.objs.size := by simp [Heap.update]
    exact Nat.le_trans (Nat.le_of_eq this.symm) sz
  · exact (k1.mono (fr' := (env :: outer).filterMap (·.frame)) (ex' := [e, T]) (fun _ z => nomatch z) (fun b z => by simp at z; simp [z])).trans k2 fun b ob _ z => by simp at z; simp [z]
theorem leavingX_first (hfr : A.frames = some (env :: outer)) (hl : s.heap.FunFrames base (env :: outer)) (hf : env.frame = some L) (hx : ExcObj s.heap e cls dx .none)
    (hq : ∀ h' T', s.heap.objs.size ≤ T' → Aloft h' e cls dx T' .none → KeptX ((env :: outer).filterMap (·.frame)) [e] s.heap h' → Q () { s with heap := h' }) : wpAny M A (leaving env (.ref e)) Q E s := by
  unfold leaving
  refine wpAny_bind (noteX_first hfr hl hf hx fun h1 T1 sz al k1 => setFlightX al fun h2 al2 k2 => hq h2 T1 sz al2 ?_)
  exact k1.trans (k2.mono (fun _ z => nomatch z) fun b z => z) fun b ob q z => by
    have hb' : b = T1 := by simpa using z
    subst hb'
    exact absurd (Nat.lt_of_lt_of_le (Heap.lt_size q) sz) (Nat.lt_irrefl _)
theorem leavingX_next (hfr : A.frames = some (env :: outer)) (hl : s.heap.FunFrames base (env :: outer)) (hf : env.frame = some L) (hx : Aloft s.heap e cls dx T .none)
    (hq : ∀ h' T', s.heap.objs.size ≤ T' → Aloft h' e cls dx T' .none → KeptX ((env :: outer).filterMap (·.frame)) [e, T] s.heap h' → Q () { s with heap := h' }) : wpAny M A (leaving env (.ref e)) Q E s := by
  unfold leaving
  refine wpAny_bind (noteX_next hfr hl hf hx fun h1 T1 sz al k1 => setFlightX al fun h2 al2 k2 => hq h2 T1 sz al2 ?_)
  exact k1.trans (k2.mono (fun _ z => nomatch z) fun b z => z) fun b ob q z => by
    have hb' : b = T1 := by simpa using z
    subst hb'
    exact absurd (Nat.lt_of_lt_of_le (Heap.lt_size q) sz) (Nat.lt_irrefl _)
end
end PySem
namespace L2
open PySem PySem.Spec PyProof.Rows
abbrev bmV : List Value := [.type "ValueError", .type "Exception", .type "BaseException", .type "object"]
abbrev xS (fn : List Str) : List Str := "__setattr__" :: "__getattribute__" :: "__getattr__" :: "__class__" :: fn
structure XCls (K : PySem.W.Frag) (fn : List Str) (C : Addr) (bm : List Value) (ini : Option Addr) : Prop where
  all : ∀ h : Heap, K.In h → ∃ nm q N bs sn sub ab col dd k0 k1 k2 k3 k5 mN, h.get? C = some (excClassObj nm q C N bs bm true sn sub ab col dd k0 k1 k2 k3 k5 "ValueError.__new__") ∧ h.Ns N mN ∧
    (∀ n ∈ xS fn, mN n = none) ∧ mN "__init__" = ini.map Value.ref ∧ TailN h ("__init__" :: xS fn) bmV bm
  cl : ∃ cd, PySem.W.clsIn K C = some cd ∧ cd.mro = .ref C :: bm
  ty : PySem.W.typeIn K (.ref C) = some (.type "type")
def tailNIn (K : PySem.W.Frag) (S : List Str) (bmB : List Value) : List Value → Bool
  | [] => bmB == []
  | v :: r => (v :: r) == bmB || match v with
    | .ref A => (match K.lookup A with
      | some ⟨_, _, .cls cd, _⟩ => PySem.W.nsOkIn K cd.ns && S.all (fun n => PySem.W.nsIn K cd.ns n == some none) && tailNIn K S bmB r
      | _ => false)
    | _ => false
theorem tailN_in {K : PySem.W.Frag} {h : Heap} {S : List Str} {bmB : List Value} (X : K.In h) : ∀ {l : List Value}, tailNIn K S bmB l = true → TailN h S bmB l
  | [], e => by rw [← beq_iff_eq.mp e]; exact .base
  | v :: r, e => by
    unfold tailNIn at e
    rcases Bool.or_eq_true_iff.mp e with q | q
    · rw [beq_iff_eq.mp q]; exact .base
    · split at q
      · split at q
        · rename_i ho
          rw [Bool.and_eq_true, Bool.and_eq_true] at q
          exact .own (X _ _ ho) (.of_isNs (PySem.W.isNs_of_in X q.1.1)) (fun n hn => PySem.W.nsMap_none_of_in X q.1.1 (beq_iff_eq.mp (List.all_eq_true.mp q.1.2 n hn))) (tailN_in X q.2)
        · cases q
      · cases q
def xclsIn (K : PySem.W.Frag) (fn : List Str) (C : Addr) (bm : List Value) (ini : Option Addr) : Bool := match K.lookup C with
  | some ⟨.type "type", _, .cls cd, sl⟩ => (match cd.mro, sl.toList with
    | .ref C' :: bm', [_, _, _, _, some (.builtin n), _] => C' == C && bm' == bm && n == "ValueError.__new__" && !cd.hasDel && cd.hasDict && tailNIn K ("__init__" :: xS fn) bmV bm && PySem.W.nsOkIn K cd.ns &&
        (xS fn).all (fun n => PySem.W.nsIn K cd.ns n == some none) && PySem.W.nsIn K cd.ns "__init__" == some (ini.map Value.ref)
    | _, _ => false)
  | _ => false
theorem ns_some_of {K : PySem.W.Frag} {h : Heap} {N : Addr} {mg : Str → Option Value} {n : Str} {v : Value} (X : K.In h) (G : h.Ns N mg) (e : PySem.W.nsIn K N n = some (some v)) : mg n = some v := by
  obtain ⟨o, es, ep, ho, hd, _, hf⟩ := G
  unfold PySem.W.nsIn at e
  split at e
  · rename_i c d es' n' sl q
    have := X _ _ q
    rw [ho] at this
    cases this
    cases hd
    split at e
    · rename_i e1 he
      cases e
      rw [← hf]
      unfold nsFind findBy
      rw [← Array.find?_toList, he]
      rfl
    · split at e <;> cases e
  · cases e
theorem xcls_in {K : PySem.W.Frag} {fn : List Str} {C : Addr} {bm : List Value} {ini : Option Addr} (q : xclsIn K fn C bm ini = true) : XCls K fn C bm ini := by
  unfold xclsIn at q
  split at q
  · rename_i dd cd sl ho
    split at q
    · rename_i C' bm' k0 k1 k2 k3 n k5 hm hs
      simp only [Bool.and_eq_true, beq_iff_eq, Bool.not_eq_true'] at q
      obtain ⟨⟨⟨⟨⟨⟨⟨⟨rfl, rfl⟩, rfl⟩, hdel⟩, hdic⟩, ht⟩, hok⟩, hS⟩, hni⟩ := q
      obtain ⟨nm, bs, mro, ns, qn, hd, sn, sub, ab, col, del⟩ := cd
      dsimp only at hm hdel hok hni hdic hS
      subst hm hdel hdic
      have hsl : sl = #[k0, k1, k2, k3, some (.builtin "ValueError.__new__"), k5] := by
        obtain ⟨l⟩ := sl
        simp only at hs
        rw [hs]
      subst hsl
      refine ⟨fun h X => ?_, ⟨_, by unfold PySem.W.clsIn; rw [ho], rfl⟩, by show (K.lookup _).map (·.cls) = _; rw [ho]; rfl⟩
      refine ⟨nm, qn, ns, bs, sn, sub, ab, col, dd, k0, k1, k2, k3, k5, _, X _ _ ho, .of_isNs (PySem.W.isNs_of_in X hok), fun n hn => PySem.W.nsMap_none_of_in X hok (by simpa using List.all_eq_true.mp hS n hn), ?_, tailN_in X ht⟩
      cases ini with
      | none => exact PySem.W.nsMap_none_of_in X hok hni
      | some f => exact ns_some_of X (.of_isNs (PySem.W.isNs_of_in X hok)) hni
    · cases q
  · cases q
theorem _root_.PySem.TailN.sub {h : Heap} {S S' : List Str} {bmB tl : List Value} (T : TailN h S bmB tl) (hs : ∀ n ∈ S', n ∈ S) : TailN h S' bmB tl := by
  induction T with
  | base => exact .base
  | own a b c _ ih => exact .own a b (fun n hn => c n (hs n hn)) ih
def XAt (a C : Addr) (dx : Option Addr) (b : Bool) (h : Heap) : Prop := ∃ y, ExcObj h a (.ref C) dx y ∧ (b = true → y = .none)
def XD (dx : Addr) (fs : List (Str × V)) (h : Heap) : Prop := ∃ mA, h.Ns1 dx mA ∧ (∀ f, RelO (fs.lookup f) (mA f)) ∧ PySem.Within mA (fs.map (·.1))
def ExH (H : Hp) (a C : Addr) (b : Bool) (fs : List (Str × V)) : Prop := (fs = [] ∧ H a = some (.ext (XAt a C none b))) ∨ ∃ dx, dx ≠ a ∧ H a = some (.ext (XAt a C (some dx) b)) ∧ H dx = some (.ext (XD dx fs))
section
variable {P : Program} {w : World} {H H' : Hp} {h h' : Heap} {a C d : Addr} {dx : Option Addr} {b : Bool} {fs : List (Str × V)}
theorem XAt.ok (x : XAt a C dx b h) : ObjOk P w H h a (.ext (XAt a C dx b)) := by
  refine ⟨x, ?_, fun h1 h2 ⟨y, ⟨o, vs, a0, e, r⟩, z⟩ k => ⟨y, ⟨o, vs, a0, k o e, r⟩, z⟩⟩
  obtain ⟨y, ⟨o, vs, a0, e, r⟩, z⟩ := x
  exact ⟨o, e⟩
theorem XD.ok (x : XD d fs h) : ObjOk P w H h d (.ext (XD d fs)) := by
  refine ⟨x, ?_, fun h1 h2 ⟨mA, ⟨o, es, ep, e, r⟩, z⟩ k => ⟨mA, ⟨o, es, ep, k o e, r⟩, z⟩⟩
  obtain ⟨mA, ⟨o, es, ep, e, r⟩, z⟩ := x
  exact ⟨o, e⟩
theorem ObjOk.at {o : HO} (x : ObjOk P w H h a o) : ∃ u, h.get? a = some u := by
  cases o with
  | lst xs => obtain ⟨_, _, _, _, e⟩ := x; exact ⟨_, e⟩
  | tup xs => obtain ⟨_, _, _, p⟩ := x; obtain ⟨o, e, _⟩ := p.1; exact ⟨o, e⟩
  | dK kvs => obtain ⟨_, _, _, _, o, _, _, e, _⟩ := x; exact ⟨o, e⟩
  | dT kvs => obtain ⟨_, _, _, _, o, _, _, e, _⟩ := x; exact ⟨o, e⟩
  | set S n => obtain ⟨o, _, _, _, e, _⟩ := x; exact ⟨o, e⟩
  | ins C dx fs => obtain ⟨_, _, _, e, _⟩ := x; exact ⟨_, e⟩
  | own y => exact x
  | xd fs => obtain ⟨_, ⟨o, _, _, e, _⟩, _⟩ := x; exact ⟨o, e⟩
  | rng lo hi => obtain ⟨_, _, _, e⟩ := x; exact ⟨_, e⟩
  | frz ob u => obtain ⟨e, _⟩ := x; exact ⟨_, e⟩
  | tbl ps => exact ⟨_, (show h.get? a = some _ from x)⟩
  | met f y => exact ⟨_, (show h.get? a = some _ from x)⟩
  | ext φ => exact x.2.1
theorem HOk.no (x : HOk P w H h) (e : h.get? a = none) : H a = none := by
  cases q : H a with
  | none => rfl
  | some u =>
    obtain ⟨v, z⟩ := (x a u q).at
    rw [e] at z; cases z
theorem HOk.laidN {o : HO} (x : HOk P w H h) (k : ∀ b u, h.get? b = some u → h'.get? b = some u) (hp : h.get? a = none) (new : ObjOk P w (upd H a o) h' a o) : HOk P w (upd H a o) h' := fun b u e => by
  have hn := x.no hp
  by_cases hb : b = a
  · subst hb; rw [upd_same] at e; cases e; exact new
  · rw [upd_ne hb] at e
    exact (x b u e).stay (fun c v _ q => k c v q) (fun c q => by rw [upd_ne (ne_of_none q hn)]; exact q) fun c xs q => by rw [upd_ne (ne_of_none q hn)]; exact q
theorem Un.laidN {fs ex : List Addr} {o : HO} (k : ∀ b u, h.get? b = some u → h'.get? b = some u) (hp : h.get? a = none) (hn : H a = none) : Un fs ex H (upd H a o) h h' where
  keep := fun b u q _ _ _ => k b u q
  slot := fun b u q _ _ _ => ⟨u.slots, k b u q⟩
  free := fun b u q n _ => by rw [upd_ne (fun z => by rw [z, hp] at q; cases q)]; exact n
  there := fun b u q _ => ⟨u, k b u q⟩
  tups := fun b xs q => by rw [upd_ne (ne_of_none q hn)]; exact q
  frzs := fun b u xs q => by rw [upd_ne (ne_of_none q hn)]; exact q
  tbls := fun b ps q => ⟨#[], by rw [upd_ne (ne_of_none q hn), q]; simp⟩
theorem Inv.laidN {X : Cx} {pins : List (Addr × Obj)} {σ : St} {s : Shared} {o : HO} {t' : Nat} (I : Inv X pins σ H s) (k : ∀ b u, s.heap.get? b = some u → h'.get? b = some u) (hp : s.heap.get? a = none) (new : ObjOk X.prog X.w (upd H a o) h' a o) :
    Inv X pins σ (upd H a o) { s with heap := h', toks := t' } := I.un (Un.laidN k hp (I.hok.no hp)) (I.hok.laidN k hp new)
theorem two_ok {φ : Heap → Prop} {o1 o2 : HO} (x : HOk P w H h) (ha : H a = some (.ext φ)) (hd : h.get? d = none) (k : ∀ b u, b ≠ a → h.get? b = some u → h'.get? b = some u)
    (n1 : ObjOk P w (upd (upd H d o1) a o2) h' d o1) (n2 : ObjOk P w (upd (upd H d o1) a o2) h' a o2) : HOk P w (upd (upd H d o1) a o2) h' := fun b u e => by
  have hn := x.no hd
  have st : ∀ c v, H c = some v → v ≠ .ext φ → upd (upd H d o1) a o2 c = some v := fun c v q nv => by
    rw [upd_ne (fun z => by rw [z, ha] at q; cases q; exact nv rfl), upd_ne (ne_of_none q hn)]; exact q
  by_cases hb : b = a
  · subst hb; rw [upd_same] at e; cases e; exact n2
  · rw [upd_ne hb] at e
    by_cases hb2 : b = d
    · subst hb2; rw [upd_same] at e; cases e; exact n1
    · rw [upd_ne hb2] at e
      refine (x b u e).stay (fun c v hc q => k c v ?_ q) (fun c q => st c _ q fun z => nomatch z) fun c xs q => st c _ q fun z => nomatch z
      rcases hc with z | z
      · rw [z]; exact hb
      · exact ne_of z ha fun z => nomatch z
theorem two_un {l ex : List Addr} {φ : Heap → Prop} {o1 o2 : HO} (x : HOk P w H h) (ha : H a = some (.ext φ)) (hd : h.get? d = none) (k : ∀ b u, b ≠ a → h.get? b = some u → h'.get? b = some u) (heo : ∃ u, h'.get? a = some u) : Un l ex H (upd (upd H d o1) a o2) h h' := by
  have hn := x.no hd
  have na : ∀ b, H b = none → b ≠ a := fun b n z => by rw [z, ha] at n; cases n
  have st : ∀ c v, H c = some v → v ≠ .ext φ → upd (upd H d o1) a o2 c = some v := fun c v q nv => by
    rw [upd_ne (fun z => by rw [z, ha] at q; cases q; exact nv rfl), upd_ne (ne_of_none q hn)]; exact q
  refine ⟨fun b u q n _ _ => k b u (na b n) q, fun b u q n _ _ => ⟨u.slots, k b u (na b n) q⟩, fun b u q n _ => ?_, fun b u q _ => ?_, fun b xs q => st b _ q (fun z => nomatch z), fun b u xs q => st b _ q (fun z => nomatch z), fun b ps q => ⟨#[], by rw [st b _ q (fun z => nomatch z)]; simp⟩⟩
  · rw [upd_ne (na b n), upd_ne (fun z => by rw [z, hd] at q; cases q)]; exact n
  · by_cases hb : b = a
    · rw [hb]; exact heo
    · exact ⟨u, k b u hb q⟩
end
section
variable {X : Cx} {pins : List (Addr × Obj)} {σ : St} {H : Hp} {s : Shared} {a C d : Addr} {fn : List Str} {bm : List Value} {ini : Option Addr} {dx : Option Addr} {b : Bool} {fs : List (Str × V)} {f : Str} {v : V} {A : Around} {E : Value → Shared → Prop}
theorem XAt.inst0 {h : Heap} (x : XAt a C none b h) : h.Inst a C (fun _ => none) := by
  obtain ⟨y, ⟨o, vs, a0, e, hc, hd, hda, _⟩, _⟩ := x
  exact ⟨o, e, hc, fun c z => (by rw [hda] at z; cases z), .inl ⟨hd, fun _ => rfl⟩⟩
theorem XAt.inst1 {h : Heap} {mA : Str → Option Value} (x : XAt a C (some d) b h) (ne : d ≠ a) (n : h.Ns1 d mA) : h.Inst a C mA := by
  obtain ⟨y, ⟨o, vs, a0, e, hc, hd, hda, _⟩, _⟩ := x
  exact ⟨o, e, hc, fun c z => (by rw [hda] at z; cases z), .inr ⟨d, hd, ne, n⟩⟩
def FOk (f : Str) : Prop := typeLookup (.type "ValueError") f = pure none
theorem XCls.ne {h : Heap} (c : XCls X.K fn C bm ini) (I : Inv X pins σ H s) {φ : Heap → Prop} (e : H a = some (.ext φ)) (hb : ∀ h, φ h → ∃ o vs, h.get? a = some o ∧ o.data = .fields vs) : a ≠ C := by
  intro z
  obtain ⟨nm, q, N, bs, sn, sub, ab, col, dd, k0, k1, k2, k3, k5, mN, hC, _⟩ := c.all s.heap I.kIn
  obtain ⟨o, vs, e1, e2⟩ := hb _ (I.hok a _ e).1
  rw [z, hC] at e1
  cases e1
  cases e2
theorem XAt.rec {h : Heap} (x : XAt a C dx b h) : ∃ o vs, h.get? a = some o ∧ o.data = .fields vs := let ⟨_, ⟨o, vs, _, e, _, _, hd, _⟩, _⟩ := x; ⟨o, vs, e, hd⟩
theorem relO_put {fs : List (Str × V)} {mA : Str → Option Value} {y : V} {u : Value} (r : ∀ g, RelO (fs.lookup g) (mA g)) (ry : RelV y u) (g : Str) : RelO ((putF f y fs).lookup g) (if g = f then some u else mA g) := by
  rw [lookup_putF]
  by_cases q : g = f
  · rw [if_pos q, if_pos q]; exact ry
  · rw [if_neg q, if_neg q]; exact r g
theorem within_put {fs : List (Str × V)} {mA : Str → Option Value} {y : V} {u : Value} (wi : PySem.Within mA (fs.map (·.1))) : PySem.Within (fun g => if g = f then some u else mA g) ((putF f y fs).map (·.1)) := fun g hg => by
  by_cases q : g = f
  · rw [q]; exact (keys_putF f y fs).1
  · refine (keys_putF f y fs).2 g (wi g fun z => hg ?_)
    show (if g = f then some u else mA g) = none
    rw [if_neg q]; exact z
theorem setx0_ok {y : V} {u : Value} {Q : Unit → Shared → Prop} (I : Inv X pins σ H s) (e : H a = some (.ext (XAt a C none b))) (c : XCls X.K fn C bm ini) (hf : f ∈ fn) (fo : FOk f) (ry : RelV y u)
    (h : ∀ s' d, H d = none → d ≠ a → Inv X pins σ (upd (upd H d (.ext (XD d [(f, y)]))) a (.ext (XAt a C (some d) b))) s' → Q () s') : wpAny (model X.prog X.w) A (setAttr (.ref a) f u) Q E s := by
  have hx : XAt a C none b s.heap := (I.hok a _ e).1
  have hne := c.ne (h := s.heap) I e fun h x => x.rec
  obtain ⟨nm, q, N, bs, sn, sub, ab, col, dd, k0, k1, k2, k3, k5, mN, hC, hN, hS, _, T⟩ := c.all s.heap I.kIn
  obtain ⟨hh, g, dr, t, os⟩ := s
  have hp : hh.get? hh.objs.size = none := Heap.get?_none_of_le (Nat.le_refl _)
  have mem : ∀ n ∈ xS fn, n ∈ ("__init__" : Str) :: xS fn := fun n hn => List.mem_cons_of_mem _ hn
  refine store_attrN (ns := []) F.store_ValueError (T.sub mem) (by simp [hf]) (by simp) hC hN (hS _ (by simp)) (hS f (by simp [hf])) fo hne hx.inst0 (fun h' tk' I' kp same => ?_) (fun y hy => absurd rfl hy) (by decide)
  obtain ⟨y0, ⟨o, vs, a0, e0, hc, hd, hda, z0, z1⟩, zb⟩ := hx
  obtain ⟨o1, e1, c1, da1, _, _, d1⟩ := same o e0
  have d1 := d1 hd
  obtain ⟨o', e', _, _, hdict⟩ := I'
  have : o' = o1 := Option.some.inj (e'.symm.trans e1)
  subst this
  have hn1 : h'.Ns1 hh.objs.size (fun y => if y = f then some u else none) := by
    rcases hdict with ⟨z, _⟩ | ⟨d2, z, _, n2⟩
    · rw [d1] at z; cases z
    · rw [d1] at z; cases z; exact n2
  have hda2 : hh.objs.size ≠ a := fun z => by rw [← z, hp] at e0; cases e0
  have kp' : ∀ b ob, b ≠ a → hh.get? b = some ob → h'.get? b = some ob := fun b ob hb q => kp b ob hb (fun o₀ dx h1 h2 => by rw [e0] at h1; cases h1; rw [hd] at h2; cases h2) q
  have wi := within_put (f := f) (y := y) (u := u) (fs := []) (mA := fun _ => none) (fun g hg => absurd rfl hg)
  have nX : XAt a C (some hh.objs.size) b h' := ⟨y0, ⟨o', vs, a0, e1, c1.trans hc, d1, da1.trans hda, z0, z1⟩, zb⟩
  have nD : XD hh.objs.size [(f, y)] h' := ⟨_, hn1, relO_put (fs := []) (fun _ => True.intro) ry, wi⟩
  exact h _ hh.objs.size (I.hok.no hp) hda2 (I.un (two_un I.hok e hp kp' ⟨_, e1⟩) (two_ok I.hok e hp kp' nD.ok nX.ok))
theorem setx1_ok {y : V} {u : Value} {Q : Unit → Shared → Prop} (I : Inv X pins σ H s) (e : H a = some (.ext (XAt a C (some d) b))) (ne : d ≠ a) (ed : H d = some (.ext (XD d fs))) (c : XCls X.K fn C bm ini) (hf : f ∈ fn) (fo : FOk f) (hl : fs.length < 1000) (ry : RelV y u)
    (h : ∀ s', Inv X pins σ (upd H d (.ext (XD d (putF f y fs)))) s' → Q () s') : wpAny (model X.prog X.w) A (setAttr (.ref a) f u) Q E s := by
  have hx : XAt a C (some d) b s.heap := (I.hok a _ e).1
  obtain ⟨mA, hn, r, wi⟩ : XD d fs s.heap := (I.hok d _ ed).1
  have hne := c.ne (h := s.heap) I e fun h x => x.rec
  obtain ⟨nm, q, N, bs, sn, sub, ab, col, dd, k0, k1, k2, k3, k5, mN, hC, hN, hS, _, T⟩ := c.all s.heap I.kIn
  obtain ⟨hh, g, dr, t, os⟩ := s
  have mem : ∀ n ∈ xS fn, n ∈ ("__init__" : Str) :: xS fn := fun n hn => List.mem_cons_of_mem _ hn
  refine store_attrN (ns := fs.map (·.1)) F.store_ValueError (T.sub mem) (by simp [hf]) (by simp) hC hN (hS _ (by simp)) (hS f (by simp [hf])) fo hne (hx.inst1 ne hn) (fun h' tk' I' kp same => ?_) wi (by rw [List.length_map, sizeLine_eq]; omega)
  obtain ⟨y0, ⟨o, vs, a0, e0, hc, hd, hda, z0, z1⟩, zb⟩ := hx
  obtain ⟨o1, e1, c1, da1, sl1, d0, _⟩ := same o e0
  have d1 := d0 d hd
  clear d0
  have oe : o1 = o := by
    obtain ⟨q1, q2, q3, q4⟩ := o1
    obtain ⟨p1, p2, p3, p4⟩ := o
    dsimp only at c1 da1 sl1 d1 hd
    subst c1 da1 sl1 d1 hd
    rfl
  subst oe
  obtain ⟨o', e', _, _, hdict⟩ := I'
  have : o' = o1 := Option.some.inj (e'.symm.trans e1)
  subst this
  have hn1 : h'.Ns1 d (fun y => if y = f then some u else mA y) := by
    rcases hdict with ⟨z, _⟩ | ⟨d2, z, _, n2⟩
    · rw [d1] at z; cases z
    · rw [d1] at z; cases z; exact n2
  have kp' : ∀ b ob, b ≠ d → hh.get? b = some ob → h'.get? b = some ob := fun b ob hb q => by
    by_cases hb2 : b = a
    · subst hb2
      have q' : hh.get? b = some ob := q
      rw [e0] at q'; cases q'; exact e1
    · exact kp b ob hb2 (fun o₀ dx h1 h2 => by rw [e0] at h1; cases h1; rw [hd] at h2; cases h2; exact hb) q
  have nD : XD d (putF f y fs) h' := ⟨_, hn1, relO_put r ry, within_put wi⟩
  exact h _ (I.write (x := d) (e := d) (t' := tk') (by rw [ed]; exact True.intro) (.inl rfl) kp' (let ⟨_, ⟨o, _, _, e, _⟩, _⟩ := nD; ⟨o, e⟩) nD.ok)
theorem getx_ok {bb : Bool} {Q : Value → Shared → Prop} (I : Inv X pins σ H s) (e : ExH H a C b fs) (c : XCls X.K fn C bm ini) (hf : f ∈ fn) (fo : FOk f) (l : fs.lookup f = some v)
    (h : ∀ u s', Inv X pins σ H s' → RelV v u → Q u s') : wpAny (model X.prog X.w) A (getAttr (.ref a) f bb) Q E s := by
  rcases e with ⟨z, _⟩ | ⟨d, ne, e, ed⟩
  · rw [z] at l; cases l
  have hx : XAt a C (some d) b s.heap := (I.hok a _ e).1
  obtain ⟨mA, hn, r, wi⟩ : XD d fs s.heap := (I.hok d _ ed).1
  obtain ⟨nm, q, N, bs, sn, sub, ab, col, dd, k0, k1, k2, k3, k5, mN, hC, hN, hS, _, T⟩ := c.all s.heap I.kIn
  obtain ⟨u, hu, ru⟩ := RelO.some_of (v := v) (o := mA f) (by rw [← l]; exact r f)
  have I' := I.tok (s.toks + 1)
  obtain ⟨hh, g, dr, t, os⟩ := s
  have mem : ∀ n ∈ xS fn, n ∈ ("__init__" : Str) :: xS fn := fun n hn => List.mem_cons_of_mem _ hn
  exact load_attrN F.attrBase_ValueError (T.sub mem) (by simp [hf]) (by simp) (by simp) hC hN hS fo (hx.inst1 ne hn) hu (PySem.W.handedOut_of (handed_of ru)) (h u _ I' ru)
end
end L2
namespace L2
open PySem PySem.Spec PyProof.Rows
def sFldX (K : PySem.W.Frag) (fn : List Str) (ta tv : TE) (f : Str) : TS := fun D σ H => tv σ H fun y H1 => ta σ H1 fun x H2 => ∃ a C b bm ini, x = .ref a ∧ XCls K fn C bm ini ∧ f ∈ fn ∧ FOk f ∧
  ((H2 a = some (.ext (XAt a C none b)) ∧ ∀ d, H2 d = none → d ≠ a → D.nx σ (upd (upd H2 d (.ext (XD d [(f, y)]))) a (.ext (XAt a C (some d) b)))) ∨
    ∃ d fs, d ≠ a ∧ H2 a = some (.ext (XAt a C (some d) b)) ∧ H2 d = some (.ext (XD d fs)) ∧ fs.length < 1000 ∧ D.nx σ (upd H2 d (.ext (XD d (putF f y fs)))))
def tFldX (K : PySem.W.Frag) (fn : List Str) (ta : TE) (f : Str) : TE := fun σ H Q => ta σ H fun x H1 => ∃ a C b bm ini fs v, x = .ref a ∧ ExH H1 a C b fs ∧ XCls K fn C bm ini ∧ f ∈ fn ∧ FOk f ∧ fs.lookup f = some v ∧ Q v H1
section
variable {X : Cx} {o e value : Expr} {f : Str} {pos pos' : Pos} {ta tv : TE} {fn : List Str}
theorem ps_fldX (ha : PE X o ta) (hv : PE X value tv) (hs : swapsWith value (some (.Attribute o f pos')) pos.line X.env = pure false := by rfl) : PS X (.Assign [.Attribute o f pos'] value pos) (sFldX X.K fn ta tv f) := by
  intro pins s σ H D I h
  refine plainObj_wpAny_Assign_Attribute (thn (hv pins s σ H _ I h) fun u s1 ⟨y, H1, I1, ry, q⟩ => thn (ha pins s1 σ H1 _ I1 q) fun ov s2 ⟨x, H2, I2, rx, a, C, b, bm, ini, ex, c, hf, fo, q2⟩ => ?_) hs
  subst ex
  obtain rfl : ov = Value.ref a := rx
  rcases q2 with ⟨e0, q2⟩ | ⟨d, fs, ne, e0, e1, hl, q2⟩
  · exact setx0_ok I2 e0 c hf fo ry fun s3 d z ne I3 => ⟨σ, _, I3, q2 d z ne⟩
  · exact setx1_ok I2 e0 ne e1 c hf fo hl ry fun s3 I3 => ⟨σ, _, I3, q2⟩
theorem pe_fldX (he : PE X e ta) (hb : attributeBase e f X.env (eval e X.env) = eval e X.env := by rfl) : PE X (.Attribute e f pos) (tFldX X.K fn ta f) := by
  intro pins s σ H Q I h
  refine attr_of hb (thn (he pins s σ H _ I h) fun u s1 ⟨x, H1, I1, rx, a, C, b, bm, ini, fs, v, ex, ea, c, hf, fo, l, q⟩ => ?_)
  subst ex
  obtain rfl : u = Value.ref a := rx
  exact getx_ok I1 ea c hf fo l fun u' s2 I2 ru => ⟨v, H1, I2, ru, q⟩
end
def spIni (C : Addr) (fsN : List Str) : Sp := fun vs H Q _ => ∃ a ys, vs = .ref a :: ys ∧ ys.length = fsN.length ∧ H a = some (.ext (XAt a C none true)) ∧
  ∀ d, H d = none → d ≠ a → Q .non (upd (upd H d (.ext (XD d (fsN.zip ys)))) a (.ext (XAt a C (some d) true)))
def tMakeX (C : Addr) (fsN : List Str) (t : TA) : TE := fun σ H Q => t σ H fun vs H1 => vs.length = fsN.length ∧ vs.length ≤ 1000 ∧ ∀ a d, H1 a = none → H1 d = none → d ≠ a → Q (.ref a) (upd (upd H1 d (.ext (XD d (fsN.zip vs)))) a (.ext (XAt a C (some d) true)))
def tMakeX0 (C : Addr) : TE := fun _ H Q => ∀ a, H a = none → Q (.ref a) (upd H a (.ext (XAt a C none true)))
section
variable {X : Cx} {pins : List (Addr × Obj)} {σ : St} {H : Hp} {s : Shared} {C f : Addr} {k : Nat} {fd : FuncData} {ps fn fsN : List Str} {bm : List Value} {x : Str} {p pos : Pos} {e : Expr} {es : List Expr} {t : TA}
theorem made_at {args : List Value} {h h' : Heap} {e : Addr} (m : Heap.MadeExcOf h h' e (.ref C) args) : XAt e C none true h' := by
  obtain ⟨t, he, _, _⟩ := m.there
  exact ⟨.none, ⟨_, _, _, he, rfl, rfl, rfl, rfl, rfl⟩, fun _ => rfl⟩
theorem upd3 {H : Hp} {a d : Addr} {o o1 o2 : HO} (ne : d ≠ a) : upd (upd (upd H a o) d o1) a o2 = upd (upd H d o1) a o2 := by
  funext b
  by_cases h1 : b = a
  · rw [h1, upd_same, upd_same]
  · rw [upd_ne h1, upd_ne h1]
    by_cases h2 : b = d
    · rw [h2, upd_same, upd_same]
    · rw [upd_ne h2, upd_ne h2, upd_ne h1]
theorem run_makeX {Q : VK} {us : List Value} {vs : List V} (M : XCls X.K fn C bm (some f)) (hfn : PySem.W.isFn X.K (.ref f) = true) (F : FnOk X.prog X.w X.K X.mg X.base CX0 k f fd ps (spIni C fsN)) (hr : Room (k + 1) X.A) (hb : Binds X.K fd ps [])
    (I : Inv X pins σ H s) (r : Vals vs us) (hl : vs.length = fsN.length) (hz : vs.length ≤ 1000) (h : ∀ a d, H a = none → H d = none → d ≠ a → Q (.ref a) (upd (upd H d (.ext (XD d (fsN.zip vs)))) a (.ext (XAt a C (some d) true)))) :
    wpAny (model X.prog X.w) X.A (call (.ref C) us) (EP X pins σ Q) X.xe s := by
  obtain ⟨nm, q, N, bs, sn, sub, ab, col, dd, k0, k1, k2, k3, k5, mN, hC, hN, hS, hi, T⟩ := M.all s.heap I.kIn
  obtain ⟨oI, hoI, hcI⟩ := Option.map_eq_some_iff.mp (show (X.K.lookup f).map (·.cls) = some (.type "function") from beq_iff_eq.mp hfn)
  have hfI := I.kIn f oI hoI
  have hus : us.length ≤ 1000 := by rw [← r.length]; exact hz
  have mk : ∀ h' e, Heap.MadeExcOf s.heap h' e (.ref C) us → Inv X pins σ (upd H e (.ext (XAt e C none true))) { s with heap := h' } := fun h' e m => I.laidN (t' := s.toks) m.keeps m.new (made_at m).ok
  have hn : ∀ h' e, Heap.MadeExcOf s.heap h' e (.ref C) us → H e = none := fun h' e m => I.hok.no m.new
  have hr1 := hr.make C us []
  have e1 : ∀ h' e, Heap.MadeExcOf s.heap h' e (.ref C) us → Env0 X.prog X.w X.K X.mg X.base (X.A.under (.builtin "type.__call__" ⟨.ref C :: us, []⟩)) X.stack { s with heap := h' } (upd H e (.ext (XAt e C none true))) := fun h' e m => (mk h' e m).env0.make C us []
  obtain ⟨hh, g, dr, tk, os⟩ := s
  refine call_excTI PySem.F.excBase_ValueError (TailN.tail (by simp) T) hC hN hi hfI hcI (fun h' e m => ?_) (by rw [sizeLine_eq]; omega)
  have spq : spIni C fsN (.ref e :: vs) (upd H e (.ext (XAt e C none true))) (fun v H2 => v = .non ∧ Q (.ref e) H2) E0 := ⟨e, vs, rfl, hl, upd_same, fun d z ne => ⟨rfl, by
    rw [upd3 ne]
    have z' : H d = none := by rw [upd_ne ne] at z; exact z
    exact h e d (hn h' e m) z' ne⟩⟩
  have r2 : Vals (V.ref e :: vs) (Value.ref e :: us) := .cons rfl r
  have hl2 : (Value.ref e :: us ++ []).length = ps.length := by
    rw [List.append_nil, ← r2.length]
    exact F.len _ _ _ _ spq
  have hbd := hb ⟨h', g, dr, tk, os⟩ (Value.ref e :: us) (mk h' e m).kIn hl2
  rw [List.append_nil] at hbd
  refine wpAny_call (codeAny_mono (F.run _ X.stack _ _ ⟨Value.ref e :: us, []⟩ (Value.ref e :: us) _ _ E0 hr1 (e1 h' e m) hbd r2 spq) fun r s' hq' => ?_)
  cases r with
  | error e => exact False.elim hq'
  | ok fl =>
    cases fl with
    | ret u =>
      obtain ⟨v, H', I3, rv, ev, q3⟩ := (mk h' e m).after hq'
      subst ev
      exact ⟨rv, ⟨V.ref e, H', I3, rfl, q3⟩⟩
    | next => exact False.elim hq'
    | brk => exact False.elim hq'
    | cont => exact False.elim hq'
theorem pe_makeX (M : XCls X.K fn C bm (some f)) (hfn : PySem.W.isFn X.K (.ref f) = true) (kp : PySem.W.keepIn X.K (.ref C) = true) (F : FnOk X.prog X.w X.K X.mg X.base CX0 k f fd ps (spIni C fsN)) (hr : Room (k + 1) X.A) (hg : Gl X x) (hm : X.mg x = some (.ref C)) (hb : Binds X.K fd ps [])
    (ha : PA X (e :: es) t) (hdb : (x == ("__debug__" : Str)) = false := by decide) (he : starEach (e :: es) X.env = (false, eval e X.env) :: starEach es X.env := by rfl) (hpl : (backTo pos (starEach es X.env)).any (·.1) = false := by rfl) :
    PE X (.Call (.Name x p) (e :: es) [] pos) (tMakeX C fsN t) := by
  intro pins s σ H Q I h
  refine wpAny_Call_Name_kw (ld_glob I hg hm ?_ hdb)
  refine PySem.W.callWith_K (h₀ := X.base) I.ok.mod.kin kp (thn (ha pos pins s σ H _ I h) fun us s1 ⟨vs, H1, I1, r, hl, hz, q⟩ => ⟨I1.kIn, ?_⟩) he hpl
  exact run_makeX M hfn F hr hb I1 r hl hz q
theorem pe_makeX0 (M : XCls X.K fn C bm none) (kp : PySem.W.keepIn X.K (.ref C) = true) (hg : Gl X x) (hm : X.mg x = some (.ref C)) (hdb : (x == ("__debug__" : Str)) = false := by decide) : PE X (.Call (.Name x p) [] [] pos) (tMakeX0 C) := by
  intro pins s σ H Q I h
  refine wpAny_Call_Name_kw (ld_glob I hg hm ?_ hdb)
  refine PySem.W.callWith_K0 I.kIn kp ?_
  obtain ⟨nm, q, N, bs, sn, sub, ab, col, dd, k0, k1, k2, k3, k5, mN, hC, hN, hS, hi, T⟩ := M.all s.heap I.kIn
  have mk : ∀ h' e, Heap.MadeExcOf s.heap h' e (.ref C) [] → EP X pins σ Q (.ref e) { s with heap := h' } := fun h' e m => ⟨.ref e, _, I.laidN (t' := s.toks) m.keeps m.new (made_at m).ok, rfl, h e (I.hok.no m.new)⟩
  obtain ⟨hh, g, dr, tk, os⟩ := s
  exact wpAny_call_exc_subT PySem.F.excBase_ValueError (TailN.tail (by simp) T) hC hN hi (fun h' e m => mk h' e m)
end
section
variable {X : Cx} {pins : List (Addr × Obj)} {σ : St} {H : Hp} {s : Shared} {a C C' : Addr} {fn : List Str} {bm bm' : List Value} {ini ini' : Option Addr} {fs : List (Str × V)} {b : Bool} {A : Around} {E : Value → Shared → Prop} {Q : Value → Shared → Prop}
theorem hlk_class : typeLookup (.type "ValueError") "__class__" = pure (some (.builtin "object.__class__")) := by rw [typeLookup_type, builtinLookup_eq_fast]; kernel_rfl
theorem kitx_exc {K : PySem.W.Frag} (c : XCls K fn C bm ini) : PySem.W.KitX K (.ref a) (.ref C) (fun h => ∃ o, h.get? a = some o ∧ o.cls = .ref C) where
  ty := fun M h X ⟨o, e, hc⟩ => by
    intro A' Q' E' s' k q
    unfold typeOf
    refine wpAny_bind (wpAny_loadPart (k _ _ e) (wpAny_pure ?_))
    first
      | (rw [hc]; exact q)
      | (show Q' o.cls s'; rw [hc]; exact q)
  it := fun M h X _ => by
    obtain ⟨nm, q, N, bs, sn, sub, ab, col, dd, k0, k1, k2, k3, k5, mN, hC, _⟩ := c.all h X
    intro A' Q' E' s' k q
    unfold isType loadHead
    exact wpAny_bind (wpAny_loadPart (k _ _ hC) (wpAny_pure q))
  ne := fun h tp dd its n sl X htp => by
    obtain ⟨nm, q, N, bs, sn, sub, ab, col, dd', k0, k1, k2, k3, k5, mN, hC, _⟩ := c.all h X
    refine Bool.eq_false_iff.mpr fun q => ?_
    have e : C = tp := Value.ref.inj (beq_iff_eq.mp q)
    subst e
    have z : Value.type "type" = Value.type "tuple" := congrArg Obj.cls (Option.some.inj (hC.symm.trans htp))
    exact absurd z (by decide)
  ca := fun {prog w A E Q s} X ⟨o, e, hc⟩ hq => by
    obtain ⟨nm, q, N, bs, sn, sub, ab, col, dd, k0, k1, k2, k3, k5, mN, hC, hN, hS, hi, T⟩ := c.all s.heap X
    obtain ⟨hh, g, dr, tk, os⟩ := s
    have mem : ∀ n ∈ xS fn, n ∈ ("__init__" : Str) :: xS fn := fun n hn => List.mem_cons_of_mem _ hn
    exact class_attrN hlk_class (by decide) (by simp) (by simp) (by simp) F.attrBase_ValueError (T.sub mem) hC hN hS e hc hq
theorem kit_exc {K : PySem.W.Frag} (c : XCls K fn C bm ini) (c' : XCls K fn C' bm' ini') : PySem.W.kitOne K (.ref C) (.ref C') = some ((Value.ref C :: bm).contains (.ref C')) := by
  unfold PySem.W.kitOne
  obtain ⟨cd, h1, h2⟩ := c.cl
  obtain ⟨cd', h1', _⟩ := c'.cl
  split
  · rename_i z
    rw [beq_iff_eq.mp z]
    simp
  · unfold PySem.W.kitCls PySem.W.subIn PySem.W.mroIn
    simp [h1, h1', c'.ty, h2]
theorem kit_excT {K : PySem.W.Frag} {T : String} (c : XCls K fn C bm ini) (hT : PySem.W.kitMeta T = true) : PySem.W.kitOne K (.ref C) (.type T) = some (bm.contains (.type T)) := by
  unfold PySem.W.kitOne
  obtain ⟨cd, h1, h2⟩ := c.cl
  rw [if_neg (by intro z; exact nomatch (beq_iff_eq.mp z))]
  unfold PySem.W.kitCls PySem.W.subIn PySem.W.mroIn
  simp only [hT, if_true, h1, Option.bind_some, h2, List.isEmpty_cons, Bool.false_eq_true, if_false, List.contains_cons]
  rfl
theorem ExH.cls {h : Heap} {P : Program} {w : World} (e : ExH H a C b fs) (ok : HOk P w H h) : ∃ o, h.get? a = some o ∧ o.cls = .ref C := by
  have go : ∀ dx, H a = some (.ext (XAt a C dx b)) → ∃ o, h.get? a = some o ∧ o.cls = .ref C := fun dx e => by
    obtain ⟨y, ⟨o, vs, a0, e1, hc, _⟩, _⟩ := (ok a _ e).1
    exact ⟨o, e1, hc⟩
  rcases e with ⟨_, e⟩ | ⟨d, _, e, _⟩
  · exact go _ e
  · exact go _ e
theorem isx_ok {c : Value} {r : Bool} (I : Inv X pins σ H s) (e : ExH H a C b fs) (cx : XCls X.K fn C bm ini) (ek : PySem.W.kitOne X.K (.ref C) c = some r) (h : ∀ tk, Q (.bool r) { s with toks := tk }) : wpAny (model X.prog X.w) A (call (.builtin "isinstance") [.ref a, c]) Q E s :=
  PySem.W.kia_one (kitx_exc cx) I.kIn (e.cls I.hok) ek (fun z => nomatch z) h
end
end L2
namespace PySem
open Sem (wp)
section
variable {M : Model} {A : Around} {E : Value → Shared → Prop} {env : Env}
variable {nm q nm' q' : Str} {C N C' N' : Addr} {bs bm bs' bm' : List Value} {hdct hdct' : Bool} {sn sn' : List Str} {sub sub' : List Value} {ab ab' : Bool} {col col' : Option Bool} {dd dd' : Option Addr} {k0 k1 k2 k3 k5 j0 j1 j2 j3 j5 : Option Value} {newId newId' : String}
theorem raiseX {s : Shared} {x : Sem Value} {Q : Flow → Shared → Prop} (hh : A.handled = none)
    (h : wpAny M A x (fun v s₁ => ∃ e oe C nm q N bs bm hdct sn sub ab col dd k0 k1 k2 k3 k5 newId, v = .ref e ∧ s₁.heap.get? C = some (excClassObj nm q C N bs bm hdct sn sub ab col dd k0 k1 k2 k3 k5 newId) ∧ bm.contains (.type "BaseException") = true ∧
      s₁.heap.get? e = some oe ∧ oe.cls = .ref C ∧ (∃ vs, oe.data = .fields vs ∧ vs[1]? = some .none) ∧ E (.ref e) s₁) E s) : wpAny M A (raiseStmt env (some x) none) Q E s := by
  unfold raiseStmt
  refine wpAny_bind (wpAny_mono h (fun v s₁ h₁ => ?_) fun _ _ x => x)
  obtain ⟨e, oe, C, nm, q, N, bs, bm, hdct, sn, sub, ab, col, dd, k0, k1, k2, k3, k5, newId, rfl, hC, hb, he, hcls, ⟨vs, hd, h1⟩, hE⟩ := h₁
  have hcB : (Value.ref C :: bm).contains (.type "BaseException") = true := by rw [List.contains_cons, hb, Bool.or_true]
  obtain ⟨hp, g, d, tk, os⟩ := s₁
  obtain ⟨c0, d0, da, sl⟩ := oe
  dsimp only at hcls hd
  subst hcls hd
  repeat (first | with_reducible refine wpAny_loadPart_at he ?_ | with_reducible refine wpAny_loadPart_at hC ?_ | (with_reducible refine wpAny_isSubtype_exc hC ?_; rw [hcB]) | wp_step)
  rw [h1]
  repeat (first | with_reducible refine wpAny_raiseNew_none hh hE | wp_step)
theorem matchX {h : Heap} {g : Array GenState} {d : Drawn} {t : Nat} {os : OsState} {e : Addr} {oe : Obj} {Q : Bool → Shared → Prop}
    (hC : h.get? C = some (excClassObj nm q C N bs bm hdct sn sub ab col dd k0 k1 k2 k3 k5 newId)) (hC' : h.get? C' = some (excClassObj nm' q' C' N' bs' bm' hdct' sn' sub' ab' col' dd' j0 j1 j2 j3 j5 newId')) (he : h.get? e = some oe) (hcls : oe.cls = .ref C)
    (hb : bm'.contains (.type "BaseException") = true) (hq : Q ((Value.ref C :: bm).contains (.ref C')) ⟨h, g, d, t, os⟩) : wpAny M A (excMatches (.ref e) (.ref C')) Q E ⟨h, g, d, t, os⟩ := by
  have hcB : (Value.ref C' :: bm').contains (.type "BaseException") = true := by rw [List.contains_cons, hb, Bool.or_true]
  have f := tc_notTuple
  unfold excMatches
  repeat (first | (with_reducible refine wpAny_loadPart_at he ?_; rw [hcls]) | with_reducible refine wpAny_loadPart_at hC' ?_ | (with_reducible refine wpAny_isSubtype_exc hC' ?_; rw [hcB]) | wp_step)
  all_goals (cases hz : (Value.ref C :: bm).contains (.ref C') <;> (rw [hz] at hq; first | exact wpAny_isSubtype_exc hC (by rw [hz]; exact hq) | (refine wpAny_isSubtype_exc hC ?_; rw [hz]; repeat (first | exact hq | wp_step))))
end
end PySem
namespace L2
open PySem PySem.Spec PyProof.Rows
def CX1 (P : Program) (w : World) : CXT := fun outer H s E e s' => ∃ a C dx T H', e = .ref a ∧ s'.os = s.os ∧ AllBare s'.gens ∧ Un (frs outer) [] H H' s.heap s'.heap ∧ HOk P w H' s'.heap ∧
  H' a = some (.ext (XAt a C dx false)) ∧ Aloft s'.heap a (.ref C) dx T .none ∧ H' T = none ∧ s.heap.get? T = none ∧ E (.ref C) (some a) H'
section
variable {P : Program} {w : World} {H₀ H H' : Hp} {h₀ h h' : Heap} {fs fr ex : List Addr} {a C T : Addr} {dx : Option Addr} {fl : Value}
theorem Un.keptX (u : Un fs [] H₀ H h₀ h) (k : KeptX fr ex h h') (hex : ∀ b ∈ ex, (∃ φ, H b = some (.ext φ)) ∨ h₀.get? b = none) (hfr : ∀ b ∈ fr, b ∈ fs ∨ h₀.get? b = none) (hH : ∀ b, H' b = H b ∨ ∃ φ ψ, H b = some (.ext φ) ∧ H' b = some (.ext ψ)) : Un fs [] H₀ H' h₀ h' := by
  have nx : ∀ b o, h₀.get? b = some o → H b = none → b ∉ ex := fun b o e n z => by
    rcases hex b z with ⟨φ, y⟩ | y
    · rw [n] at y; cases y
    · rw [e] at y; cases y
  have st : ∀ b o, H b = some o → (∀ φ, o ≠ .ext φ) → H' b = some o := fun b o e n => by
    rcases hH b with z | ⟨φ, ψ, z, _⟩
    · rw [z]; exact e
    · rw [e] at z; cases z; exact absurd rfl (n φ)
  refine ⟨fun b o e n hb hx => ?_, fun b o e n hb hx => ?_, fun b o e n hx => ?_, fun b o e hx => ?_, fun b xs e => st b _ (u.tups b xs e) (fun _ z => nomatch z), fun b o xs e => st b _ (u.frzs b o xs e) (fun _ z => nomatch z), fun b ps e => ?_⟩
  · refine k.keep b o (u.keep b o e n hb hx) (fun z => ?_) (nx b o e (u.free b o e n hx))
    rcases hfr b z with y | y
    · exact hb y
    · rw [e] at y; cases y
  · obtain ⟨sl, e1⟩ := u.slot b o e n hb hx
    obtain ⟨sl', e2⟩ := k.slot b _ e1 (nx b o e (u.free b o e n hx))
    exact ⟨sl', e2⟩
  · have n1 := u.free b o e n hx
    rcases hH b with z | ⟨φ, ψ, z, _⟩
    · rw [z]; exact n1
    · rw [n1] at z; cases z
  · obtain ⟨o', e1⟩ := u.there b o e hx
    exact k.there b o' e1
  · obtain ⟨more, e1⟩ := u.tbls b ps e
    exact ⟨more, st b _ e1 (fun _ z => nomatch z)⟩
theorem HOk.keptX {φ : Heap → Prop} (ok : HOk P w H h) (k : KeptX fr ex h h') (hfr : ∀ b ∈ fr, H b = none) (hex : ∀ b ∈ ex, b = a ∨ H b = none) (ha : H a = some (.ext φ)) (hH : ∀ b, b ≠ a → H' b = H b) (new : ∀ o, H' a = some o → ObjOk P w H' h' a o)
    (hxt : ∃ ψ, H' a = some (.ext ψ)) : HOk P w H' h' := fun c o e => by
  by_cases hc : c = a
  · subst hc; exact new o e
  · rw [hH c hc] at e
    have st : ∀ b v, H b = some v → (∀ φ, v ≠ .ext φ) → H' b = some v := fun b v q n => by
      rw [hH b (fun z => by rw [z, ha] at q; cases q; exact n φ rfl)]; exact q
    have go : ∀ b u v, H b = some v → b ≠ a → h.get? b = some u → h'.get? b = some u := fun b u v q na r => k.keep b u r (fun z => by rw [hfr b z] at q; cases q) fun z => by
      rcases hex b z with y | y
      · exact na y
      · rw [y] at q; cases q
    refine (ok c o e).stay (fun b u hb r => ?_) (fun b q => st b _ q (fun _ z => nomatch z)) fun b xs q => st b _ q (fun _ z => nomatch z)
    rcases hb with y | y
    · rw [y] at r ⊢; exact go c u o e hc r
    · exact go b u _ y (ne_of y ha fun z => nomatch z) r
theorem _root_.PySem.Aloft.at (x : Aloft h a (.ref C) dx T fl) : XAt a C dx false h := ⟨_, x.2.1, fun z => nomatch z⟩
end
section
variable {X : Cx} {pins : List (Addr × Obj)} {σ : St} {H : Hp} {s : Shared} {a C T : Addr} {dx : Option Addr} {E : XK} {fn : List Str}
def RaisesX (X : Cx) (Es : St → XK) : Prop := ∀ (pins : List (Addr × Obj)) (σ : St) (H : Hp) (s : Shared) (a C : Addr) (dx : Option Addr), Inv X pins σ H s → H a = some (.ext (XAt a C dx true)) → Es σ (.ref C) (some a) (upd H a (.ext (XAt a C dx false))) → X.xe (.ref a) s
def PassesS (CX : CXT) (X : Cx) (Es : St → XK) : Prop := ∀ (pins : List (Addr × Obj)) (σ : St) (H : Hp) (s : Shared) (e : Value) (s' : Shared), Inv X pins σ H s → CX X.stack H s (Es σ) e s' → X.xe e s'
theorem upd_or {H : Hp} {a : Addr} {φ ψ : Heap → Prop} (e : H a = some (.ext φ)) (b : Addr) : upd H a (.ext ψ) b = H b ∨ ∃ φ ψ', H b = some (.ext φ) ∧ upd H a (.ext ψ) b = some (.ext ψ') := by
  by_cases hb : b = a
  · rw [hb]; exact .inr ⟨φ, ψ, e, upd_same⟩
  · exact .inl (upd_ne hb)
theorem raises_def {P : Program} {w : World} {K : PySem.W.Frag} {mg : Str → Option Value} {base : Heap} {N : List Str} {qual : Str} {scope : Scope} {f : Addr} {cd : Value} {A : Around} {outer : List Env} {s₀ : Shared} {H₀ : Hp} : RaisesX (cxOf (CX1 P w) P w K mg base N qual scope f cd A outer s₀ H₀ E) (fun _ => E) := by
  intro pins σ H s a C dx I e hE
  obtain ⟨y, hx, hy⟩ : XAt a C dx true s.heap := (I.hok a _ e).1
  rw [hy rfl] at hx
  refine leavingX_first (A := A.deeper (envOfC qual scope s₀.heap.objs.size f cd)) (env := envOfC qual scope s₀.heap.objs.size f cd) (outer := outer) (base := base) I.ok.frames I.stack rfl hx fun h' T sz al kx => ?_
  have lt : ∀ b o, s₀.heap.get? b = some o → b < s₀.heap.objs.size := fun b o q => Heap.lt_size q
  refine ⟨a, C, dx, T, upd H a (.ext (XAt a C dx false)), rfl, I.os, I.bare, ?_, ?_, upd_same, al, ?_, Heap.get?_none_of_le (Nat.le_trans I.sz sz), hE⟩
  · refine Un.keptX (fr := frs (envOfC qual scope s₀.heap.objs.size f cd :: outer)) I.base kx (fun b hb => ?_) (fun b hb => ?_) (upd_or e)
    · rw [List.mem_singleton.mp hb]; exact .inl ⟨_, e⟩
    · rcases List.mem_cons.mp (I.stkSub b hb) with z | z
      · exact .inr (by rw [z]; exact Heap.get?_none_of_le (Nat.le_refl _))
      · exact .inl z
  · exact HOk.keptX (a := a) I.hok kx (fun b hb => I.stkFree b hb) (fun b hb => .inl (List.mem_singleton.mp hb)) e (fun b hb => upd_ne hb) (fun o q => by rw [upd_same] at q; cases q; exact al.at.ok) ⟨_, upd_same⟩
  · rw [upd_ne al.1]; exact I.hok.fresh sz
theorem passes_def {P : Program} {w : World} {K : PySem.W.Frag} {mg : Str → Option Value} {base : Heap} {N : List Str} {qual : Str} {scope : Scope} {f : Addr} {cd : Value} {A : Around} {outer : List Env} {s₀ : Shared} {H₀ : Hp} : PassesS (CX1 P w) (cxOf (CX1 P w) P w K mg base N qual scope f cd A outer s₀ H₀ E) (fun _ => E) := by
  intro pins σ H s e s' I hx
  obtain ⟨a, C, dx, T, H', rfl, hos, hg, un, hok, ea, al, hT, hTs, hE⟩ := hx
  have I' := I.call' (ch := []) hos un hok hg (fun b z => nomatch z)
  refine leavingX_next (A := A.deeper (envOfC qual scope s₀.heap.objs.size f cd)) (env := envOfC qual scope s₀.heap.objs.size f cd) (outer := outer) (base := base) I'.ok.frames I'.stack rfl al fun h' T' sz al' kx => ?_
  have hT0 : s₀.heap.get? T = none := by
    cases q : s₀.heap.get? T with
    | none => rfl
    | some o =>
      obtain ⟨o', z⟩ := I.base.there T o q (fun z => nomatch z)
      rw [hTs] at z; cases z
  refine ⟨a, C, dx, T', H', rfl, I'.os, I'.bare, ?_, ?_, ea, al', I'.hok.fresh sz, Heap.get?_none_of_le (Nat.le_trans I'.sz sz), hE⟩
  · refine Un.keptX (fr := frs (envOfC qual scope s₀.heap.objs.size f cd :: outer)) I'.base kx (fun b hb => ?_) (fun b hb => ?_) (fun b => .inl rfl)
    · rcases List.mem_cons.mp hb with z | z
      · rw [z]; exact .inl ⟨_, ea⟩
      · rw [List.mem_singleton.mp z]; exact .inr hT0
    · rcases List.mem_cons.mp (I'.stkSub b hb) with z | z
      · exact .inr (by rw [z]; exact Heap.get?_none_of_le (Nat.le_refl _))
      · exact .inl z
  · refine HOk.keptX (a := a) I'.hok kx (fun b hb => I'.stkFree b hb) (fun b hb => ?_) ea (fun b hb => rfl) (fun o q => by rw [ea] at q; cases q; exact al'.at.ok) ⟨_, ea⟩
    rcases List.mem_cons.mp hb with z | z
    · exact .inl z
    · rw [List.mem_singleton.mp z]; exact .inr hT
def tRaise (K : PySem.W.Frag) (fn : List Str) (Es : St → XK) (te : TE) : TS := fun _ σ H => te σ H fun v H1 => ∃ a C bm ini dx, v = .ref a ∧ XCls K fn C bm ini ∧ H1 a = some (.ext (XAt a C dx true)) ∧ Es σ (.ref C) (some a) (upd H1 a (.ext (XAt a C dx false)))
theorem ps_raise {Es : St → XK} {e : Expr} {te : TE} {pos : Pos} (hc : X.calm = true) (hx : RaisesX X Es) (he : PE X e te) : PS X (.Raise (some e) none pos) (tRaise X.K fn Es te) := by
  intro pins s σ H D I h
  rw [arm_exec_Raise]
  refine wpAny_bind (wpAny_standAt (raiseX (I.ok.hd hc) (wpAny_bind (thn (he pins s σ H _ I h) fun v s1 ⟨x, H1, I1, rx, a, C, bm, ini, dx, ex, c, ea, q⟩ => wpAny_bind (wpAny_standAt (wpAny_pure ?_))))))
  subst ex
  obtain rfl : v = Value.ref a := rx
  obtain ⟨nm, q', N, bs, sn, sub, ab, col, dd, k0, k1, k2, k3, k5, mN, hC, hN, hS, hi, T⟩ := c.all s1.heap I1.kIn
  obtain ⟨y, ⟨o, vs, a0, e1, hc1, hd1, hda, _, hy⟩, hyn⟩ := (I1.hok a _ ea).1
  rw [hyn rfl] at hy
  exact ⟨a, o, C, nm, q', N, bs, bm, true, sn, sub, ab, col, dd, k0, k1, k2, k3, k5, _, rfl, hC, T.hasType (by decide), e1, hc1, ⟨vs, hda, hy⟩, hx pins σ H1 s1 a C dx I1 ea q⟩
end
end L2
namespace L2
open PySem PySem.Spec PyProof.Rows
abbrev Cx.inX (X : Cx) (a : Addr) : Cx := { X with A := X.A.mark (some (.ref a)), calm := false, xe := fun _ _ => False }
theorem Cx.Ok.inX {X : Cx} (ok : X.Ok) (a : Addr) : (X.inX a).Ok :=
  ⟨ok.mod, ok.kind, ok.glob, ok.blt, ok.above, ok.inj, ok.has, ok.cab, (fun z => nomatch z), ok.frames, ok.stk, ok.exf, ok.bs, ok.bsz, ok.noex, ok.exfs, ok.funs, ok.frf⟩
section
variable {X : Cx} {pins : List (Addr × Obj)} {σ : St} {H : Hp} {s : Shared} {a : Addr}
theorem Inv.inX (I : Inv X pins σ H s) (a : Addr) : Inv (X.inX a) pins σ H s := ⟨I.ok.inX a, I.os, I.bare, I.base, I.loc, I.cell, I.free, I.freeC, I.pin, I.hok, I.len⟩
theorem Inv.outX (ok : X.Ok) (I : Inv (X.inX a) pins σ H s) : Inv X pins σ H s := ⟨ok, I.os, I.bare, I.base, I.loc, I.cell, I.free, I.freeC, I.pin, I.hok, I.len⟩
theorem SP.outX (ok : X.Ok) {D : Ends} {f : Flow} {s' : Shared} (h : SP (X.inX a) pins D f s') : SP X pins D f s' := by
  cases f with
  | next => obtain ⟨σ', H', I, q⟩ := h; exact ⟨σ', H', I.outX ok, q⟩
  | brk => obtain ⟨σ', H', I, q⟩ := h; exact ⟨σ', H', I.outX ok, q⟩
  | cont => obtain ⟨σ', H', I, q⟩ := h; exact ⟨σ', H', I.outX ok, q⟩
  | ret u => obtain ⟨v, σ', H', I, r, q⟩ := h; exact ⟨v, σ', H', I.outX ok, r, q⟩
abbrev Cx.tryX (X : Cx) (pn : List (Addr × Obj)) (xe : Value → Shared → Prop) : Cx := { X with pn := pn, xe := xe }
theorem Cx.Ok.tryX {X : Cx} (ok : X.Ok) (pn : List (Addr × Obj)) (xe : Value → Shared → Prop) : (X.tryX pn xe).Ok :=
  ⟨ok.mod, ok.kind, ok.glob, ok.blt, ok.above, ok.inj, ok.has, ok.cab, ok.hd, ok.frames, ok.stk, ok.exf, ok.bs, ok.bsz, ok.noex, ok.exfs, ok.funs, ok.frf⟩
theorem Inv.tryX (I : Inv X pins σ H s) (xe : Value → Shared → Prop) : Inv (X.tryX (X.pn ++ pins) xe) [] σ H s := ⟨I.ok.tryX _ _, I.os, I.bare, I.base, I.loc, I.cell, I.free, I.freeC, fun p hp => I.pin p (by rw [List.append_nil] at hp; exact hp), I.hok, I.len⟩
theorem Inv.untry {xe : Value → Shared → Prop} {pins' : List (Addr × Obj)} (ok : X.Ok) (I : Inv (X.tryX (X.pn ++ pins) xe) pins' σ H s) : Inv X pins σ H s := ⟨ok, I.os, I.bare, I.base, I.loc, I.cell, I.free, I.freeC, fun p hp => I.pin p (List.mem_append_left _ hp), I.hok, I.len⟩
theorem SP.untry {xe : Value → Shared → Prop} (ok : X.Ok) {D : Ends} {f : Flow} {s' : Shared} (h : SP (X.tryX (X.pn ++ pins) xe) [] D f s') : SP X pins D f s' := by
  cases f with
  | next => obtain ⟨σ', H', I, q⟩ := h; exact ⟨σ', H', I.untry ok, q⟩
  | brk => obtain ⟨σ', H', I, q⟩ := h; exact ⟨σ', H', I.untry ok, q⟩
  | cont => obtain ⟨σ', H', I, q⟩ := h; exact ⟨σ', H', I.untry ok, q⟩
  | ret u => obtain ⟨v, σ', H', I, r, q⟩ := h; exact ⟨v, σ', H', I.untry ok, r, q⟩
structure Tb (X : Cx) (pins : List (Addr × Obj)) (H : Hp) (T : Addr) : Prop where
  n : H T = none
  l : T ≠ X.env.locals
  z : X.s₀.heap.objs.size ≤ T
  c : ∀ x c, X.env.cells.lookup x = some c → c ≠ T
  p : ∀ p ∈ X.pn ++ pins, p.1 ≠ T
theorem Tb.of {T : Addr} (I : Inv X pins σ H s) (h : s.heap.objs.size ≤ T) : Tb X pins H T where
  n := I.hok.fresh h
  l := Nat.ne_of_gt (Nat.lt_of_lt_of_le I.lt h)
  z := Nat.le_trans I.sz h
  c := fun x c e z => by
    obtain ⟨v, o, ho, _⟩ := I.cell x c e
    rw [z] at ho
    exact absurd (Nat.lt_of_lt_of_le (Heap.lt_size ho) h) (Nat.lt_irrefl _)
  p := fun p hp z => by
    have e := (I.pin p hp).1
    rw [z] at e
    exact absurd (Nat.lt_of_lt_of_le (Heap.lt_size e) h) (Nat.lt_irrefl _)
theorem nameGo_ok {M : Model} {A : Around} {E : Value → Shared → Prop} {i : Nat} {x : Str} {pos : Pos} {Q : Unit → Shared → Prop} (I : Inv X pins σ H s) (hN : X.N.Nodup) (hi : X.N[i]? = some x) (hk : X.env.scope.names.lookup x = some .local)
    (h : ∀ s', Inv X pins (σ.set i none) H s' → Q () s') : wpAny M A (do bindName X.env x .none; unbindBehindTheSuite X.env x pos) Q E s := by
  obtain ⟨m, hn, hl⟩ := id I.loc
  have hcls : (X.env.scope.kind == .class || (X.env.scope.kind == .module && X.env.locals != X.env.globals)) = false := by rw [I.ok.kind]; rfl
  have cne := I.cne
  refine wpAny_nameGoes_keeps hk hn hcls fun h' v hn' hs => ?_
  have sb : ∀ b o, X.s₀.heap.get? b = some o → h'.get? b = s.heap.get? b := fun b o e => hs.2 b (Nat.ne_of_lt (Nat.lt_of_lt_of_le (Heap.lt_size e) I.ok.above))
  obtain ⟨oL, _, _, hoL, _⟩ := id hn
  refine h _ ⟨I.ok, I.os, I.bare, ⟨fun b o e n hb hx => (sb b o e).trans (I.base.keep b o e n hb hx), fun b o e n hb hx => ?_, I.base.free, fun b o e hx => ?_, I.base.tups, I.base.frzs, I.base.tbls⟩, ⟨_, hn', fun j y v' e1 e2 e3 => ?_⟩, fun y c e => ?_, I.free, I.freeC, fun p hp => ?_, fun b ob e => ?_, by simpa using I.len⟩
  · obtain ⟨sl, e1⟩ := I.base.slot b o e n hb hx
    exact ⟨sl, (sb b o e).trans e1⟩
  · obtain ⟨o', e1⟩ := I.base.there b o e hx
    exact ⟨o', (sb b o e).trans e1⟩
  · by_cases hj : j = i
    · subst hj
      rw [List.getElem?_set] at e2
      split at e2
      · split at e2 <;> cases e2
      · rename_i z; exact absurd rfl z
    · rw [List.getElem?_set_ne (Ne.symm hj)] at e2
      obtain ⟨u', r', q⟩ := hl j y v' e1 e2 e3
      refine ⟨u', r', ?_⟩
      rcases q with ⟨k, e⟩ | ⟨k, c, e, z⟩
      · refine .inl ⟨k, ?_⟩
        have : y ≠ x := fun e => hj (nodup_ix hN e1 (e ▸ hi))
        simp [this, e]
      · exact .inr ⟨k, c, e, z.sameBut hs (cne y c e)⟩
  · obtain ⟨w', z⟩ := I.cell y c e
    exact ⟨w', z.sameBut hs (cne y c e)⟩
  · obtain ⟨e, n, ne, nf, d⟩ := I.pin p hp
    exact ⟨(hs.2 p.1 ne).trans e, n, ne, nf, d⟩
  · refine (I.hok b ob e).stay (fun c w' hc q => (hs.2 c ?_).trans q) (fun _ q => q) fun _ _ q => q
    intro z
    rcases hc with y | y
    · rw [← y, z, I.free] at e; cases e
    · rw [z, I.free] at y; cases y
end
abbrev TH := Addr → Addr → TS
def PH (X : Cx) (hs : List ExceptHandler) (th : TH) : Prop := ∀ (pins : List (Addr × Obj)) (s : Shared) (σ : St) (H : Hp) (D : Ends) (a C T : Addr) (dx : Option Addr), Inv X pins σ H s → H a = some (.ext (XAt a C dx false)) → Aloft s.heap a (.ref C) dx T .none → Tb X pins H T →
  th a C D σ H → wpAny (model X.prog X.w) X.A (handleBy (.ref a) X.env hs) (SP X pins D) X.xe s
def hNever : TH := fun _ _ _ _ _ => False
def hOwn (K : PySem.W.Frag) (fn : List Str) (C' : Addr) (ts : TS) (tr : TH) : TH := fun a C D σ H => ∃ bm ini, XCls K fn C bm ini ∧ ((Value.ref C :: bm).contains (.ref C') = true → ts D σ H) ∧ ((Value.ref C :: bm).contains (.ref C') = false → tr a C D σ H)
def Ends.go (D : Ends) (i : Nat) : Ends := { nx := fun σ H => D.nx (σ.set i none) H, rt := D.rt, bk := fun σ H => D.bk (σ.set i none) H, ct := fun σ H => D.ct (σ.set i none) H }
def hAs (K : PySem.W.Frag) (fn : List Str) (C' : Addr) (i : Nat) (ts : TS) (tr : TH) : TH := fun a C D σ H => ∃ bm ini, XCls K fn C bm ini ∧ ((Value.ref C :: bm).contains (.ref C') = true → ts (D.go i) (σ.set i (some (.ref a))) H) ∧ ((Value.ref C :: bm).contains (.ref C') = false → tr a C D σ H)
section
variable {X : Cx} {fn : List Str} {C' : Addr} {bm' : List Value} {ini' : Option Addr} {x n : Str} {p pos : Pos} {b0 : Stmt} {suite : List Stmt} {rest : List ExceptHandler} {ts : TS} {tr : TH} {i : Nat}
theorem ph_never {hs : List ExceptHandler} : PH X hs hNever := fun _ _ _ _ _ _ _ _ _ _ _ _ _ h => h.elim
theorem ph_test {pins : List (Addr × Obj)} {s : Shared} {σ : St} {H : Hp} {a C : Addr} {dx : Option Addr} {bm : List Value} {ini : Option Addr} {R : Result → Shared → Prop} (hg : Gl X x) (hm : X.mg x = some (.ref C')) (c' : XCls X.K fn C' bm' ini') (hdb : (x == ("__debug__" : Str)) = false)
    (I : Inv X pins σ H s) (ea : H a = some (.ext (XAt a C dx false))) (c : XCls X.K fn C bm ini) (h : R (.ok (if (Value.ref C :: bm).contains (.ref C') then .brk else .next)) s) :
    codeAny (model X.prog X.w) (X.A.mark (some (.ref a))) (.handlers (.ref a) [.ExceptHandler (some (.Name x p)) none [] pos] X.env) R s := by
  refine codeAny_handlers_test (ld_glob (X := X.inX a) (I.inX a) hg hm ?_ hdb)
  obtain ⟨nm, q, N, bs, sn, sub, ab, col, dd, k0, k1, k2, k3, k5, mN, hC, _⟩ := c.all s.heap I.kIn
  obtain ⟨nm', q', N', bs', sn', sub', ab', col', dd', j0, j1, j2, j3, j5, mN', hC', _, _, _, T'⟩ := c'.all s.heap I.kIn
  obtain ⟨y, ⟨o, vs, a0, e1, hc1, _⟩, _⟩ := (I.hok a _ ea).1
  obtain ⟨hh, g, dr, tk, os⟩ := s
  exact matchX hC hC' e1 hc1 (T'.hasType (by decide)) h
theorem flight_ok {pins : List (Addr × Obj)} {s : Shared} {σ : St} {H : Hp} {a C T : Addr} {dx : Option Addr} {M : Model} {A : Around} {E : Value → Shared → Prop} {Q : Unit → Shared → Prop} (I : Inv X pins σ H s) (ea : H a = some (.ext (XAt a C dx false))) (al : Aloft s.heap a (.ref C) dx T .none) (tb : Tb X pins H T)
    (h : ∀ s', Inv X pins σ H s' → Q () s') : wpAny M A (setFlight (.ref a) none) Q E s :=
  setFlightX al fun h' _ k => h _ (I.turned (it := T) (t' := s.toks) (fun b o hb e => k.keep b o e (fun z => nomatch z) (fun z => hb (List.mem_singleton.mp z))) tb.n tb.l (.inr tb.z) tb.c tb.p)
theorem ph_own (hg : Gl X x) (hm : X.mg x = some (.ref C')) (c' : XCls X.K fn C' bm' ini') (hsu : ∀ a, PSs (X.inX a) (b0 :: suite) ts) (hr : PH X rest tr) (hdb : (x == ("__debug__" : Str)) = false := by decide) :
    PH X (.ExceptHandler (some (.Name x p)) none (b0 :: suite) pos :: rest) (hOwn X.K fn C' ts tr) := by
  intro pins s σ H D a C T dx I ea al tb h
  obtain ⟨bm, ini, c, h1, h2⟩ := h
  refine wpAny_handleBy_cons (ph_test hg hm c' hdb I ea c ?_) (by intro q; cases q)
  cases hz : (Value.ref C :: bm).contains (.ref C') with
  | true =>
    show codeAny _ _ _ _ _
    refine codeAny_handlers_suite (flight_ok I ea al tb fun s1 I1 => ?_)
    exact wpAny_mono (hsu a pins s1 σ H D (I1.inX a) (h1 hz)) (fun f s2 q => q.outX I.ok) fun _ _ z => False.elim z
  | false => exact hr pins s σ H D a C T dx I ea al tb (h2 hz)
theorem ph_as (hN : X.N.Nodup) (hi : X.N[i]? = some n) (hk : X.env.scope.names.lookup n = some .local) (hg : Gl X x) (hm : X.mg x = some (.ref C')) (c' : XCls X.K fn C' bm' ini') (hsu : ∀ a, PSs (X.inX a) (b0 :: suite) ts) (hr : PH X rest tr) (hdb : (x == ("__debug__" : Str)) = false := by decide) :
    PH X (.ExceptHandler (some (.Name x p)) (some n) (b0 :: suite) pos :: rest) (hAs X.K fn C' i ts tr) := by
  intro pins s σ H D a C T dx I ea al tb h
  obtain ⟨bm, ini, c, h1, h2⟩ := h
  refine wpAny_handleBy_cons (ph_test hg hm c' hdb I ea c ?_) (by intro q; cases q)
  cases hz : (Value.ref C :: bm).contains (.ref C') with
  | true =>
    show codeAny _ _ _ _ _
    refine codeAny_handlers_suite_as (flight_ok I ea al tb fun s1 I1 => ?_)
    refine store_ok I1 hN hi (.inl hk) (show RelV (.ref a) (Value.ref a) from rfl) (fun s2 I2 => ?_) (.inr hk)
    refine wpAny_mono (hsu a pins s2 _ H (D.go i) (I2.inX a) (h1 hz)) (fun f s3 q => ?_) fun _ _ z => False.elim z
    have q := q.outX I.ok
    cases f with
    | next => obtain ⟨σ', H', J, q⟩ := q; exact nameGo_ok J hN hi hk fun s4 J' => ⟨_, H', J', q⟩
    | brk => obtain ⟨σ', H', J, q⟩ := q; exact nameGo_ok J hN hi hk fun s4 J' => ⟨_, H', J', q⟩
    | cont => obtain ⟨σ', H', J, q⟩ := q; exact nameGo_ok J hN hi hk fun s4 J' => ⟨_, H', J', q⟩
    | ret u => obtain ⟨v, σ', H', J, r, q⟩ := q; exact nameGo_ok J hN hi hk fun s4 J' => ⟨v, _, H', J', r, q⟩
  | false => exact hr pins s σ H D a C T dx I ea al tb (h2 hz)
def tTry (th : TH) (tb : (St → XK) → TS) : TS := fun D σ H => tb (fun σ' cls oa H' => ∃ a C, cls = .ref C ∧ oa = some a ∧ th a C D σ' H') D σ H
theorem ps_try {th : TH} {tb : (St → XK) → TS} {body : List Stmt} {h0 : ExceptHandler} {hs : List ExceptHandler} (hst : X.stack = X.env :: X.outer) (hf : X.env.frame = some X.env.locals)
    (hb : ∀ (Es : St → XK) (pn : List (Addr × Obj)) (xe : Value → Shared → Prop), PassesS (CX1 X.prog X.w) (X.tryX pn xe) Es → RaisesX (X.tryX pn xe) Es → PSs (X.tryX pn xe) body (tb Es)) (hh : PH X (h0 :: hs) th) : PS X (.Try body (h0 :: hs) [] [] pos) (tTry th tb) := by
  intro pins s σ H D I h
  refine wpAny_Try_except (wpAny_mono (hb _ (X.pn ++ pins) (fun e s₁ => wpAny (model X.prog X.w) X.A (noteFrame e X.env) (fun _ s₂ => wpAny (model X.prog X.w) X.A (setFlight e none) (fun _ s₃ => wpAny (model X.prog X.w) X.A (handleBy e X.env (h0 :: hs)) (SP X pins D) X.xe s₃) X.xe s₂) X.xe s₁) ?_ ?_ [] s σ H D (I.tryX _) h) (fun f s1 q => ?_) fun e s1 q => q)
  · intro pins' σ1 H1 s1 e s2 I1 hx
    obtain ⟨a, C, dx, T, H', rfl, hos, hg, un, hok, ea, al, hT, hTs, a', C', ec, eo, hE⟩ := hx
    cases ec; cases eo
    have J := I1.untry I.ok
    have J2 := J.call' (ch := []) hos un hok hg (fun b z => nomatch z)
    have fr2 := J2.stack
    rw [hst] at fr2
    refine noteX_next (base := X.base) (L := X.env.locals) (by rw [← hst]; exact J2.ok.frames) fr2 hf al fun h3 T3 sz3 al3 k3 => ?_
    refine setFlightX al3 fun h4 al4 k4 => ?_
    have kx : KeptX ((X.env :: X.outer).filterMap (·.frame)) [a, T] s2.heap h4 := k3.trans (k4.mono (fun _ z => nomatch z) fun b z => z) fun b ob q z => by
      rw [List.mem_singleton.mp z] at q
      exact absurd (Nat.lt_of_lt_of_le (Heap.lt_size q) sz3) (Nat.lt_irrefl _)
    have un4 : Un (frs X.stack) [] H1 H' s1.heap h4 := Un.keptX un kx (fun b hb => by
      rcases List.mem_cons.mp hb with z | z
      · rw [z]; exact .inl ⟨_, ea⟩
      · rw [List.mem_singleton.mp z]; exact .inr hTs) (fun b hb => .inl (by rw [hst]; exact hb)) (fun b => .inl rfl)
    have ok4 : HOk X.prog X.w H' h4 := by
      refine HOk.keptX (a := a) J2.hok kx (fun b hb => J2.stkFree b (by rw [hst]; exact hb)) (fun b hb => ?_) ea (fun b hb => rfl) (fun o q => by rw [ea] at q; cases q; exact al4.at.ok) ⟨_, ea⟩
      rcases List.mem_cons.mp hb with z | z
      · exact .inl z
      · rw [List.mem_singleton.mp z]; exact .inr hT
    have J4 : Inv X pins σ1 H' { s2 with heap := h4 } := J.call' (s' := { s2 with heap := h4 }) (ch := []) hos un4 ok4 hg (fun b z => nomatch z)
    exact hh pins _ σ1 H' D a C T3 dx J4 ea al4 (Tb.of J2 sz3) hE
  · intro pins' σ1 H1 s1 a C dx I1 ea hx
    obtain ⟨a', C', ec, eo, hE⟩ := hx
    cases ec; cases eo
    have J := I1.untry I.ok
    obtain ⟨y, hxo, hy⟩ : XAt a C dx true s1.heap := (J.hok a _ ea).1
    rw [hy rfl] at hxo
    have fr2 := J.stack
    rw [hst] at fr2
    refine noteX_first (base := X.base) (L := X.env.locals) (by rw [← hst]; exact J.ok.frames) fr2 hf hxo fun h3 T3 sz3 al3 k3 => ?_
    refine setFlightX al3 fun h4 al4 k4 => ?_
    have kx : KeptX ((X.env :: X.outer).filterMap (·.frame)) [a] s1.heap h4 := k3.trans (k4.mono (fun _ z => nomatch z) fun b z => z) fun b ob q z => by
      rw [List.mem_singleton.mp z] at q
      exact absurd (Nat.lt_of_lt_of_le (Heap.lt_size q) sz3) (Nat.lt_irrefl _)
    have un4 : Un (frs X.stack) [] H1 (upd H1 a (.ext (XAt a C dx false))) s1.heap h4 := Un.keptX Un.refl kx (fun b hb => by
      rw [List.mem_singleton.mp hb]; exact .inl ⟨_, ea⟩) (fun b hb => .inl (by rw [hst]; exact hb)) (upd_or ea)
    have ok4 : HOk X.prog X.w (upd H1 a (.ext (XAt a C dx false))) h4 := HOk.keptX (a := a) J.hok kx (fun b hb => J.stkFree b (by rw [hst]; exact hb)) (fun b hb => .inl (List.mem_singleton.mp hb)) ea (fun b hb => upd_ne hb) (fun o q => by rw [upd_same] at q; cases q; exact al4.at.ok) ⟨_, upd_same⟩
    have J4 : Inv X pins σ1 (upd H1 a (.ext (XAt a C dx false))) { s1 with heap := h4 } := J.call' (s' := { s1 with heap := h4 }) (ch := []) rfl un4 ok4 J.bare (fun b z => nomatch z)
    have tb := Tb.of J sz3
    exact hh pins _ σ1 _ D a C T3 dx J4 upd_same al4 ⟨by rw [upd_ne al3.1]; exact tb.n, tb.l, tb.z, tb.c, tb.p⟩ hE
  · have q := q.untry I.ok
    cases f with
    | next => exact wpAny_execs_nil q
    | brk => exact q
    | cont => exact q
    | ret u => exact q
end
def tCallX (sp : Sp) (Es : St → XK) (t : TA) : TE := fun σ H Q => t σ H fun vs H1 => sp vs H1 Q (Es σ)
section
variable {X : Cx} {CX : CXT} {k : Nat} {f : Addr} {fd : FuncData} {ps : List Str} {sp : Sp} {Es : St → XK} {x : Str} {p pos : Pos} {e : Expr} {es : List Expr} {t : TA}
theorem pe_callX (F : FnOk X.prog X.w X.K X.mg X.base CX k f fd ps sp) (hr : Room k X.A) (hg : Gl X x) (hm : X.mg x = some (.ref f)) (hk : PySem.W.keepIn X.K (.ref f) = true) (hb : Binds X.K fd ps []) (hx : PassesS CX X Es)
    (ha : PA X (e :: es) t) (hdb : (x == ("__debug__" : Str)) = false := by decide) (he : starEach (e :: es) X.env = (false, eval e X.env) :: starEach es X.env := by rfl) (hpl : (backTo pos (starEach es X.env)).any (·.1) = false := by rfl) :
    PE X (.Call (.Name x p) (e :: es) [] pos) (tCallX sp Es t) := by
  intro pins s σ H Q I h
  refine wpAny_Call_Name_kw (ld_glob I hg hm ?_ hdb)
  refine PySem.W.callWith_K (h₀ := X.base) I.ok.mod.kin hk (thn (ha pos pins s σ H _ I h) fun us s1 ⟨vs, H1, I1, r, q⟩ => ⟨I1.kIn, ?_⟩) he hpl
  have hl : (us ++ []).length = ps.length := by rw [List.append_nil, ← r.length]; exact F.len _ _ _ _ q
  have hbd := hb s1 us I1.kIn hl
  rw [List.append_nil] at hbd
  refine wpAny_call (codeAny_mono (F.run X.A X.stack s1 H1 ⟨us, []⟩ us vs Q (Es σ) hr I1.env0 hbd r q) fun r s' hq => ?_)
  cases r with
  | error e => exact hx pins σ H1 s1 e s' I1 hq
  | ok fl =>
    cases fl with
    | ret u => exact I1.after hq
    | next => exact False.elim hq
    | brk => exact False.elim hq
    | cont => exact False.elim hq
theorem Fun.okX {P : Program} {w : World} {K : PySem.W.Frag} {mg : Str → Option Value} {base : Heap} {x qual : Str} {st : Stmt} {f : Addr} {fd : FuncData} {N ps : List Str} {k : Nat} {sp : Sp} (F : Fun K x qual st f fd) (S : FnScope N ps (defScope st)) (len : ∀ vs H Q E, sp vs H Q E → vs.length = ps.length)
    (hbody : ∀ (cdv : Value) (A : Around) (outer : List Env) (s : Shared) (H : Hp) (vs : List V) (Q : VK) (E : XK), Room k (A.deeper (envOfC qual (defScope st) s.heap.objs.size f cdv)) → sp vs H Q E →
      ∃ t, PSs (cxOf (CX1 P w) P w K mg base N qual (defScope st) f cdv A outer s H E) (defBody st) t ∧ t { nx := fun _ H' => Q .non H', rt := Q } (start N vs) H) : FnOk P w K mg base (CX1 P w) (k + 1) f fd ps sp := by
  obtain ⟨oc, od, kV, doc, pm, an, cdv, ct, osl, rfl, lk, hcd⟩ := F.ex
  exact fn_of lk hcd S len fun A outer s H vs Q E hr hsp => hbody cdv A outer s H vs Q E hr hsp
end
end L2
namespace L2
open PySem PySem.Spec PyProof.Rows
inductive T where
  | n | b (x : Bool) | i (x : Int) | s (x : Str) | t (xs : List T) | l (xs : List T) | d (ks : List (Key × T)) | deal | z (ns : List Int) | ty (x : String) | k (ws : List Str) | q | fd (o : Obj) (vs : List (Key × V)) (ks : List (Key × T)) | xc (C : Addr) (ns : List Str) (ts : List T)
abbrev Dl := List (Addr × Addr)
def FzL (K : PySem.W.Frag) (H : Hp) (a : Addr) (xs : List V) : Prop := (∃ o, H a = some (.frz o (.lst xs))) ∨
    ∃ (o : Obj) (its : Array Value) (n : Nat), K.lookup a = some o ∧ o.cls = .type "list" ∧ o.dict = none ∧ o.data = .seq its n ∧ its.size ≤ sizeLine ∧ Vals xs its.toList
theorem FzL.sq {K : PySem.W.Frag} {H : Hp} {a : Addr} {xs : List V} (h : FzL K H a xs) : SqL K H a xs := by
  rcases h with h | h
  · exact .inl (.inr h)
  · exact .inr h
mutual
inductive RepF (K : PySem.W.Frag) (dl : Dl) (H : Hp) : V → T → List Addr → Prop where
  | n : RepF K dl H .non .n []
  | b (x : Bool) : RepF K dl H (.bl x) (.b x) []
  | i (x : Int) : RepF K dl H (.int x) (.i x) []
  | s (x : Str) : RepF K dl H (.str x) (.s x) []
  | ty (x : String) : RepF K dl H (.ty x) (.ty x) []
  | t {a : Addr} {vs : List V} {ts : List T} {F : List Addr} : H a = some (.tup vs) → RepFs K dl H vs ts F → RepF K dl H (.ref a) (.t ts) F
  | l {a : Addr} {vs : List V} {ts : List T} {F : List Addr} : H a = some (.lst vs) → RepFs K dl H vs ts F → RepF K dl H (.ref a) (.l ts) (a :: F)
  | d {a : Addr} {vs : List (Key × V)} {ts : List (Key × T)} {F : List Addr} : H a = some (.dK vs) → RepFk K dl H vs ts F → RepF K dl H (.ref a) (.d ts) (a :: F)
  | x {a l : Addr} : (a, l) ∈ dl → RepF K dl H (.ref a) .deal []
  | z {a : Addr} {ns : List Int} : FzL K H a (ns.map V.int) → RepF K dl H (.ref a) (.z ns) []
  | q {a : Addr} {xs : List V} : H a = some (.lst xs) → RepF K dl H (.ref a) .q []
  | fd {a : Addr} {o : Obj} {vs : List (Key × V)} {ts : List (Key × T)} : H a = some (.frz o (.dK vs)) → RepFk K dl H vs ts [] → RepF K dl H (.ref a) (.fd o vs ts) []
  | k {a : Addr} {ws : List Str} : (∀ H' : Hp, SqT K H' a (ws.map V.str)) → RepF K dl H (.ref a) (.k ws) []
  | e {a C : Addr} {b : Bool} {ns : List Str} {vs : List V} {ts : List T} : ExH H a C b (ns.zip vs) → RepFs K dl H vs ts [] → RepF K dl H (.ref a) (.xc C ns ts) []
inductive RepFs (K : PySem.W.Frag) (dl : Dl) (H : Hp) : List V → List T → List Addr → Prop where
  | nil : RepFs K dl H [] [] []
  | cons {v : V} {x : T} {vs : List V} {ts : List T} {F G : List Addr} : RepF K dl H v x F → RepFs K dl H vs ts G → RepFs K dl H (v :: vs) (x :: ts) (F ++ G)
inductive RepFk (K : PySem.W.Frag) (dl : Dl) (H : Hp) : List (Key × V) → List (Key × T) → List Addr → Prop where
  | nil : RepFk K dl H [] [] []
  | cons {k : Key} {v : V} {x : T} {vs : List (Key × V)} {ts : List (Key × T)} {F G : List Addr} : RepF K dl H v x F → RepFk K dl H vs ts G → RepFk K dl H ((k, v) :: vs) ((k, x) :: ts) (F ++ G)
end
structure TF (H H' : Hp) : Prop where
  t : ∀ a vs, H a = some (.tup vs) → H' a = some (.tup vs)
  f : ∀ a o u, H a = some (.frz o u) → H' a = some (.frz o u)
  x : ∀ a φ, H a = some (.ext φ) → H' a = some (.ext φ)
  q : ∀ a xs, H a = some (.lst xs) → ∃ ys, H' a = some (.lst ys)
theorem ExH.tf {H H' : Hp} {a C : Addr} {b : Bool} {fs : List (Str × V)} (h : ExH H a C b fs) (k : TF H H') : ExH H' a C b fs := by
  rcases h with ⟨h1, h2⟩ | ⟨d, h1, h2, h3⟩
  · exact .inl ⟨h1, k.x _ _ h2⟩
  · exact .inr ⟨d, h1, k.x _ _ h2, k.x _ _ h3⟩
theorem SqT.tf {K : PySem.W.Frag} {H H' : Hp} {a : Addr} {vs : List V} (h : SqT K H a vs) (k : TF H H') : SqT K H' a vs := by
  rcases h with (h | ⟨o, h⟩) | h
  · exact .inl (.inl (k.t _ _ h))
  · exact .inl (.inr ⟨o, k.f _ _ _ h⟩)
  · exact .inr h
theorem FzL.tf {K : PySem.W.Frag} {H H' : Hp} {a : Addr} {vs : List V} (h : FzL K H a vs) (k : TF H H') : FzL K H' a vs := by
  rcases h with ⟨o, h⟩ | h
  · exact .inl ⟨o, k.f _ _ _ h⟩
  · exact .inr h
mutual
theorem RepF.stay {K : PySem.W.Frag} {dl dl' : Dl} {H H' : Hp} (k : TF H H') (hd : ∀ p ∈ dl, p ∈ dl') : ∀ {v : V} {t : T} {F : List Addr}, RepF K dl H v t F → (∀ b ∈ F, ∀ o, H b = some o → H' b = some o) → RepF K dl' H' v t F
  | _, _, _, .n, _ => .n
  | _, _, _, .b x, _ => .b x
  | _, _, _, .i x, _ => .i x
  | _, _, _, .s x, _ => .s x
  | _, _, _, .ty x, _ => .ty x
  | _, _, _, .t h r, q => .t (k.t _ _ h) (RepFs.stay k hd r q)
  | _, _, _, .l h r, q => .l (q _ List.mem_cons_self _ h) (RepFs.stay k hd r fun b hb => q b (List.mem_cons_of_mem _ hb))
  | _, _, _, .d h r, q => .d (q _ List.mem_cons_self _ h) (RepFk.stay k hd r fun b hb => q b (List.mem_cons_of_mem _ hb))
  | _, _, _, .x h, _ => .x (hd _ h)
  | _, _, _, .z h, _ => .z (h.tf k)
  | _, _, _, .k h, _ => .k h
  | _, _, _, .q h, _ => let ⟨_, e⟩ := k.q _ _ h; .q e
  | _, _, _, .fd h r, _ => .fd (k.f _ _ _ h) (RepFk.stay k hd r fun _ z => nomatch z)
  | _, _, _, .e h r, _ => .e (h.tf k) (RepFs.stay k hd r fun _ z => nomatch z)
theorem RepFs.stay {K : PySem.W.Frag} {dl dl' : Dl} {H H' : Hp} (k : TF H H') (hd : ∀ p ∈ dl, p ∈ dl') : ∀ {vs : List V} {ts : List T} {F : List Addr}, RepFs K dl H vs ts F → (∀ b ∈ F, ∀ o, H b = some o → H' b = some o) → RepFs K dl' H' vs ts F
  | _, _, _, .nil, _ => .nil
  | _, _, _, .cons h r, q => .cons (RepF.stay k hd h fun b hb => q b (List.mem_append_left _ hb)) (RepFs.stay k hd r fun b hb => q b (List.mem_append_right _ hb))
theorem RepFk.stay {K : PySem.W.Frag} {dl dl' : Dl} {H H' : Hp} (k : TF H H') (hd : ∀ p ∈ dl, p ∈ dl') : ∀ {vs : List (Key × V)} {ts : List (Key × T)} {F : List Addr}, RepFk K dl H vs ts F → (∀ b ∈ F, ∀ o, H b = some o → H' b = some o) → RepFk K dl' H' vs ts F
  | _, _, _, .nil, _ => .nil
  | _, _, _, .cons h r, q => .cons (RepF.stay k hd h fun b hb => q b (List.mem_append_left _ hb)) (RepFk.stay k hd r fun b hb => q b (List.mem_append_right _ hb))
end
mutual
theorem RepF.there {K : PySem.W.Frag} {dl : Dl} {H : Hp} : ∀ {v : V} {t : T} {F : List Addr}, RepF K dl H v t F → ∀ b ∈ F, (∃ xs, H b = some (.lst xs)) ∨ ∃ ks, H b = some (.dK ks)
  | _, _, _, .n => fun _ h => nomatch h
  | _, _, _, .b x => fun _ h => nomatch h
  | _, _, _, .i x => fun _ h => nomatch h
  | _, _, _, .s x => fun _ h => nomatch h
  | _, _, _, .ty x => fun _ h => nomatch h
  | _, _, _, .t _ r => RepFs.there r
  | _, _, _, .l h r => fun b hb => by
    rcases List.mem_cons.mp hb with e | hb
    · rw [e]; exact .inl ⟨_, h⟩
    · exact RepFs.there r b hb
  | _, _, _, .d h r => fun b hb => by
    rcases List.mem_cons.mp hb with e | hb
    · rw [e]; exact .inr ⟨_, h⟩
    · exact RepFk.there r b hb
  | _, _, _, .x _ => fun _ h => nomatch h
  | _, _, _, .z _ => fun _ h => nomatch h
  | _, _, _, .k _ => fun _ h => nomatch h
  | _, _, _, .q _ => fun _ h => nomatch h
  | _, _, _, .fd _ _ => fun _ h => nomatch h
  | _, _, _, .e _ _ => fun _ h => nomatch h
theorem RepFs.there {K : PySem.W.Frag} {dl : Dl} {H : Hp} : ∀ {vs : List V} {ts : List T} {F : List Addr}, RepFs K dl H vs ts F → ∀ b ∈ F, (∃ xs, H b = some (.lst xs)) ∨ ∃ ks, H b = some (.dK ks)
  | _, _, _, .nil => fun _ h => nomatch h
  | _, _, _, .cons h r => fun b hb => by
    rcases List.mem_append.mp hb with hb | hb
    · exact RepF.there h b hb
    · exact RepFs.there r b hb
theorem RepFk.there {K : PySem.W.Frag} {dl : Dl} {H : Hp} : ∀ {vs : List (Key × V)} {ts : List (Key × T)} {F : List Addr}, RepFk K dl H vs ts F → ∀ b ∈ F, (∃ xs, H b = some (.lst xs)) ∨ ∃ ks, H b = some (.dK ks)
  | _, _, _, .nil => fun _ h => nomatch h
  | _, _, _, .cons h r => fun b hb => by
    rcases List.mem_append.mp hb with hb | hb
    · exact RepF.there h b hb
    · exact RepFk.there r b hb
end
def Nd (dl : Dl) (b : Addr) : Prop := ∀ p ∈ dl, b ≠ p.1 ∧ b ≠ p.2
def Dls (dl : Dl) (H : Hp) : Prop := ∀ p ∈ dl, Deal H p.1 p.2
theorem Dls.nd {dl : Dl} {H : Hp} (D : Dls dl H) {b : Addr} {o : HO} (h : H b = some o) (h1 : ∀ xs, o ≠ .lst xs) (h2 : ∀ ks, o ≠ .dK ks) : Nd dl b := fun p hp => by
  obtain ⟨s, n, ls, Q⟩ := D p hp
  exact ⟨ne_of h Q.hd (h2 _), ne_of h Q.hl (h1 _)⟩
theorem Dls.nd0 {dl : Dl} {H : Hp} (D : Dls dl H) {b : Addr} (h : H b = none) : Nd dl b := fun p hp => by
  obtain ⟨s, n, ls, Q⟩ := D p hp
  exact ⟨(ne_of_none Q.hd h).symm, (ne_of_none Q.hl h).symm⟩
structure Evo (dl : Dl) (H H' : Hp) : Prop where
  k : ∀ b o, H b = some o → Nd dl b → H' b = some o
  d : Dls dl H'
theorem Evo.refl {dl : Dl} {H : Hp} (D : Dls dl H) : Evo dl H H := ⟨fun _ _ h _ => h, D⟩
theorem Evo.trans {dl : Dl} {H H1 H2 : Hp} (a : Evo dl H H1) (b : Evo dl H1 H2) : Evo dl H H2 := ⟨fun c o h n => b.k c o (a.k c o h n) n, b.d⟩
theorem Evo.tf {dl : Dl} {H H' : Hp} (e : Evo dl H H') (D : Dls dl H) : TF H H' :=
  ⟨fun a vs h => e.k a _ h (D.nd h (fun _ z => nomatch z) fun _ z => nomatch z), fun a o u h => e.k a _ h (D.nd h (fun _ z => nomatch z) fun _ z => nomatch z), fun a φ h => e.k a _ h (D.nd h (fun _ z => nomatch z) fun _ z => nomatch z), fun a xs h => by
    by_cases hn : Nd dl a
    · exact ⟨xs, e.k a _ h hn⟩
    · unfold Nd at hn
      obtain ⟨p, hp, z⟩ : ∃ p ∈ dl, ¬ (a ≠ p.1 ∧ a ≠ p.2) := Classical.byContradiction fun c => hn fun p hp => Classical.byContradiction fun z => c ⟨p, hp, z⟩
      obtain ⟨s, n, ls, Q⟩ := D p hp
      obtain ⟨s', n', ls', Q'⟩ := e.d p hp
      have h1 : a ≠ p.1 := ne_of h Q.hd (fun z => nomatch z)
      have h2 : a = p.2 := Classical.byContradiction fun z' => z ⟨h1, z'⟩
      exact ⟨_, by rw [h2]; exact Q'.hl⟩⟩
theorem Evo.new {dl : Dl} {H H1 : Hp} {p : Addr} {o : HO} (e : Evo dl H H1) (hp : H1 p = none) : Evo dl H (upd H1 p o) :=
  ⟨fun c u h n => by rw [upd_ne (ne_of_none (e.k c u h n) hp)]; exact e.k c u h n, fun q hq => (e.d q hq).new hp⟩
theorem Evo.free {dl : Dl} {H H' : Hp} (e : Evo dl H H') {p : Addr} (hp : H' p = none) : H p = none := by
  cases q : H p with
  | none => rfl
  | some o => rw [e.k p o q (e.d.nd0 hp)] at hp; cases hp
structure Rp (K : PySem.W.Frag) (dl : Dl) (H : Hp) (v : V) (t : T) (F : List Addr) : Prop where
  r : RepF K dl H v t F
  n : ∀ b ∈ F, Nd dl b
structure Rps (K : PySem.W.Frag) (dl : Dl) (H : Hp) (vs : List V) (ts : List T) (F : List Addr) : Prop where
  r : RepFs K dl H vs ts F
  n : ∀ b ∈ F, Nd dl b
theorem Rp.evo {K : PySem.W.Frag} {dl : Dl} {H H' : Hp} {v : V} {t : T} {F : List Addr} (h : Rp K dl H v t F) (D : Dls dl H) (e : Evo dl H H') : Rp K dl H' v t F :=
  ⟨h.r.stay (e.tf D) (fun _ q => q) fun b hb o q => e.k b o q (h.n b hb), h.n⟩
theorem Rps.evo {K : PySem.W.Frag} {dl : Dl} {H H' : Hp} {v : List V} {t : List T} {F : List Addr} (h : Rps K dl H v t F) (D : Dls dl H) (e : Evo dl H H') : Rps K dl H' v t F :=
  ⟨h.r.stay (e.tf D) (fun _ q => q) fun b hb o q => e.k b o q (h.n b hb), h.n⟩
inductive Sl where
  | no | o (t : T) | r (t : T)
abbrev Sq := List Sl
def Sl.get : Sl → Option T
  | .no => none
  | .o t => some t
  | .r t => some t
structure RdR (K : PySem.W.Frag) (dl : Dl) (H : Hp) (σ : St) (q : Sq) : Prop where
  d : Dls dl H
  g : ∀ (i : Nat) (x : Sl) (t : T), q[i]? = some x → x.get = some t → ∃ v F, σ[i]? = some (some v) ∧ Rp K dl H v t F
theorem RdR.evo {K : PySem.W.Frag} {dl : Dl} {H H' : Hp} {σ : St} {q : Sq} (h : RdR K dl H σ q) (e : Evo dl H H') : RdR K dl H' σ q :=
  ⟨e.d, fun i x t h1 h2 => let ⟨v, F, h3, h4⟩ := h.g i x t h1 h2; ⟨v, F, h3, h4.evo h.d e⟩⟩
abbrev QE := Sq → (T → Prop) → Prop
abbrev QT := Sq → (Bool → Prop) → Prop
abbrev QA := Sq → (List T → Prop) → Prop
def SimE (K : PySem.W.Frag) (te : TE) (tq : QE) : Prop := ∀ (dl : Dl) (H : Hp) (σ : St) (q : Sq) (Q : T → Prop) (R : V → Hp → Prop), RdR K dl H σ q → tq q Q →
  (∀ v t F H', Evo dl H H' → Rp K dl H' v t F → Q t → R v H') → te σ H R
def SimF (K : PySem.W.Frag) (te : TE) (tq : QE) : Prop := ∀ (dl : Dl) (H : Hp) (σ : St) (q : Sq) (Q : T → Prop) (R : V → Hp → Prop), RdR K dl H σ q → tq q Q →
  (∀ v t F H', Evo dl H H' → Rp K dl H' v t F → (∀ b ∈ F, H b = none) → F.Nodup → Q t → R v H') → te σ H R
def SimT (K : PySem.W.Frag) (te : TT) (tq : QT) : Prop := ∀ (dl : Dl) (H : Hp) (σ : St) (q : Sq) (Q : Bool → Prop) (R : Bool → Hp → Prop), RdR K dl H σ q → tq q Q →
  (∀ b H', Evo dl H H' → Q b → R b H') → te σ H R
def SimA (K : PySem.W.Frag) (n : Nat) (te : TA) (tq : QA) : Prop := ∀ (dl : Dl) (H : Hp) (σ : St) (q : Sq) (Q : List T → Prop) (R : List V → Hp → Prop), RdR K dl H σ q → tq q Q →
  (∀ vs ts F H', Evo dl H H' → Rps K dl H' vs ts F → vs.length = n → Q ts → R vs H') → te σ H R
def SimAF (K : PySem.W.Frag) (n : Nat) (te : TA) (tq : QA) : Prop := ∀ (dl : Dl) (H : Hp) (σ : St) (q : Sq) (Q : List T → Prop) (R : List V → Hp → Prop), RdR K dl H σ q → tq q Q →
  (∀ vs ts F H', Evo dl H H' → Rps K dl H' vs ts F → vs.length = n → (∀ b ∈ F, H b = none) → F.Nodup → Q ts → R vs H') → te σ H R
structure QPE (X : Cx) (K : PySem.W.Frag) (e : Expr) (te : TE) (tq : QE) : Prop where
  h : PE X e te
  s : SimE K te tq
structure QPF (X : Cx) (K : PySem.W.Frag) (e : Expr) (te : TE) (tq : QE) : Prop where
  h : PE X e te
  s : SimF K te tq
structure QPT (X : Cx) (K : PySem.W.Frag) (e : Expr) (te : TT) (tq : QT) : Prop where
  h : PT X e te
  s : SimT K te tq
structure QPW (X : Cx) (K : PySem.W.Frag) (e : Expr) (te : TT) (tq : QT) : Prop where
  h : PW X e te
  s : SimT K te tq
structure QPA (X : Cx) (K : PySem.W.Frag) (es : List Expr) (te : TA) (tq : QA) : Prop where
  h : PA X es te
  s : SimA K es.length te tq
structure QPAF (X : Cx) (K : PySem.W.Frag) (es : List Expr) (te : TA) (tq : QA) : Prop where
  h : PA X es te
  s : SimAF K es.length te tq
section
variable {X : Cx} {K : PySem.W.Frag} {a b c e : Expr} {es rest : List Expr} {ta tb tc te : TE} {qa qb qc qe : QE} {tA tB : TT} {qA qB : QT} {tl : TA} {ql : QA} {pos : Pos}
theorem QPF.w (h : QPF X K e te qe) : QPE X K e te qe := ⟨h.h, fun dl H σ q Q R rd hq k => h.s dl H σ q Q R rd hq fun v t F H' e r _ _ z => k v t F H' e r z⟩
def T.sc : T → Bool
  | .n => true | .b _ => true | .i _ => true | .s _ => true | .deal => true | .z _ => true | .ty _ => true | _ => false
mutual
def T.im : T → Bool
  | .t xs => T.ims xs
  | .l _ => false
  | .d _ => false
  | _ => true
def T.ims : List T → Bool
  | [] => true
  | x :: r => x.im && T.ims r
end
mutual
theorem RepF.im {dl : Dl} {H : Hp} : ∀ {v : V} {t : T} {F : List Addr}, RepF K dl H v t F → t.im = true → F = []
  | _, _, _, .n, _ => rfl
  | _, _, _, .b x, _ => rfl
  | _, _, _, .i x, _ => rfl
  | _, _, _, .s x, _ => rfl
  | _, _, _, .ty x, _ => rfl
  | _, _, _, .t _ r, h => RepFs.im r h
  | _, _, _, .l _ _, h => nomatch h
  | _, _, _, .d _ _, h => nomatch h
  | _, _, _, .x _, _ => rfl
  | _, _, _, .z _, _ => rfl
  | _, _, _, .k _, _ => rfl
  | _, _, _, .q _, _ => rfl
  | _, _, _, .fd _ _, _ => rfl
  | _, _, _, .e _ _, _ => rfl
theorem RepFs.im {dl : Dl} {H : Hp} : ∀ {v : List V} {t : List T} {F : List Addr}, RepFs K dl H v t F → T.ims t = true → F = []
  | _, _, _, .nil, _ => rfl
  | _, _, _, .cons h r, q => by
    have q : (_ && _) = true := q
    rw [Bool.and_eq_true] at q
    rw [RepF.im h q.1, RepFs.im r q.2]
    rfl
end
def qQ (qe : QE) : QE := fun q Q => qe q fun t => match t with | .l _ => Q .q | _ => False
theorem QPF.q (h : QPF X K e te qe) : QPF X K e te (qQ qe) := ⟨h.h, fun dl H σ q Q R rd hq k => h.s dl H σ q _ R rd hq fun v t F H' e1 r _ _ hz => by
  split at hz
  · cases r.r with
    | l h1 h2 => exact k _ .q [] H' e1 ⟨.q h1, fun _ z => nomatch z⟩ (fun _ z => nomatch z) List.nodup_nil hz
  · exact hz.elim⟩
def qIm (qe : QE) : QE := fun q Q => qe q fun t => t.im = true ∧ Q t
theorem QPE.f (h : QPE X K e te qe) : QPF X K e te (qIm qe) := ⟨h.h, fun dl H σ q Q R rd hq k => h.s dl H σ q _ R rd hq fun v t F H' e r ⟨z1, z2⟩ => by
  have f := r.r.im z1
  subst f
  exact k v t [] H' e r (fun _ z => nomatch z) List.nodup_nil z2⟩
def qVar (i : Nat) : QE := fun q Q => match q[i]? with
  | some (.o t) => Q t
  | some (.r t) => Q t
  | _ => False
theorem sim_var (i : Nat) : SimE K (tVar i) (qVar i) := by
  intro dl H σ q Q R rd hq k
  unfold qVar at hq
  split at hq
  · rename_i t e
    obtain ⟨v, F, h1, h2⟩ := rd.g i _ t e rfl
    exact ⟨v, h1, k v t F H (.refl rd.d) h2 hq⟩
  · rename_i t e
    obtain ⟨v, F, h1, h2⟩ := rd.g i _ t e rfl
    exact ⟨v, h1, k v t F H (.refl rd.d) h2 hq⟩
  · exact hq.elim
theorem qv (i : Nat) {x : Str} {pos : Pos} (hN : X.N[i]? = some x := by rfl) (hv : Vis X.env.scope x := by first | exact Or.inl rfl | exact Or.inr (Or.inl rfl) | exact Or.inr (Or.inr rfl)) (hd : (x == ("__debug__" : Str)) = false := by decide)
    (hcd : (x == ("__classdict__" : Str)) = false := by decide) : QPE X K (.Name x pos) (tVar i) (qVar i) := ⟨pe_var hN hv hd hcd, sim_var i⟩
def qC (t : T) : QE := fun _ Q => Q t
theorem sim_c {v : V} {t : T} (h : ∀ dl H, RepF K dl H v t []) : SimF K (tC v) (qC t) := fun dl H σ q Q R rd hq k => k v t [] H (.refl rd.d) ⟨h dl H, fun _ z => nomatch z⟩ (fun _ z => nomatch z) List.nodup_nil hq
theorem qe_int {i j pos} : QPF X K (.Constant (.int i) j pos) (tC (.int i)) (qC (.i i)) := ⟨pe_int, sim_c fun _ _ => .i i⟩
theorem qe_bl {b j pos} : QPF X K (.Constant (.bool b) j pos) (tC (.bl b)) (qC (.b b)) := ⟨pe_bl, sim_c fun _ _ => .b b⟩
theorem qe_non {j pos} : QPF X K (.Constant .none j pos) (tC .non) (qC .n) := ⟨pe_non, sim_c fun _ _ => .n⟩
theorem qe_str {x j pos} : QPF X K (.Constant (.str x) j pos) (tC (.str x)) (qC (.s x)) := ⟨pe_str, sim_c fun _ _ => .s x⟩
abbrev Q1 := T → (T → Prop) → Prop
abbrev Q2 := T → T → (T → Prop) → Prop
def SimO (K : PySem.W.Frag) (r : R2) (rq : Q2) : Prop := ∀ (dl : Dl) (H : Hp) (x y : V) (t u : T) (F G : List Addr) (Q : T → Prop) (R : V → Hp → Prop), Dls dl H → Rp K dl H x t F → Rp K dl H y u G → rq t u Q →
  (∀ v z F' H', Evo dl H H' → Rp K dl H' v z F' → Q z → R v H') → r x y H R
def SimOF (K : PySem.W.Frag) (r : R2) (rq : Q2) : Prop := ∀ (dl : Dl) (H : Hp) (x y : V) (t u : T) (F G : List Addr) (Q : T → Prop) (R : V → Hp → Prop), Dls dl H → Rp K dl H x t F → Rp K dl H y u G → rq t u Q →
  (∀ v z F' H', Evo dl H H' → Rp K dl H' v z F' → (∀ b ∈ F', H b = none) → F'.Nodup → Q z → R v H') → r x y H R
theorem SimOF.w {r : R2} {rq : Q2} (h : SimOF K r rq) : SimO K r rq := fun dl H x y t u F G Q R d a b hq k => h dl H x y t u F G Q R d a b hq fun v z F' H' e r _ _ z' => k v z F' H' e r z'
def qOp (rq : Q2) (qa qb : QE) : QE := fun q Q => qa q fun t => qb q fun u => rq t u Q
theorem sim_op {r : R2} {rq : Q2} (ho : SimO K r rq) (ha : SimE K ta qa) (hb : SimE K tb qb) : SimE K (tOp r ta tb) (qOp rq qa qb) := by
  intro dl H σ q Q R rd hq k
  refine ha dl H σ q _ _ rd hq fun v t F H1 e1 r1 hq1 => ?_
  refine hb dl H1 σ q _ _ (rd.evo e1) hq1 fun w u G H2 e2 r2 hq2 => ?_
  exact ho dl H2 v w t u F G Q R e2.d (r1.evo e1.d e2) r2 hq2 fun v' z F' H3 e3 r3 hz => k v' z F' H3 ((e1.trans e2).trans e3) r3 hz
theorem sim_opF {r : R2} {rq : Q2} (ho : SimOF K r rq) (ha : SimE K ta qa) (hb : SimE K tb qb) : SimF K (tOp r ta tb) (qOp rq qa qb) := by
  intro dl H σ q Q R rd hq k
  refine ha dl H σ q _ _ rd hq fun v t F H1 e1 r1 hq1 => ?_
  refine hb dl H1 σ q _ _ (rd.evo e1) hq1 fun w u G H2 e2 r2 hq2 => ?_
  exact ho dl H2 v w t u F G Q R e2.d (r1.evo e1.d e2) r2 hq2 fun v' z F' H3 e3 r3 f3 n3 hz => k v' z F' H3 ((e1.trans e2).trans e3) r3 (fun b hb => (e1.trans e2).free (f3 b hb)) n3 hz
theorem qe_opF {op : Operator} {r : R2} {rq : Q2} (ho : OpR X (binaryOp op) r) (hs : SimOF K r rq) (ha : QPE X K a ta qa) (hb : QPE X K b tb qb) : QPF X K (.BinOp a op b pos) (tOp r ta tb) (qOp rq qa qb) := ⟨pe_op ho ha.h hb.h, sim_opF hs ha.s hb.s⟩
end
end L2
namespace L2
open PySem PySem.Spec PyProof.Rows
section
variable {X : Cx} {K : PySem.W.Frag} {dl : Dl} {H : Hp} {v : V} {F : List Addr}
theorem RepF.int {x : Int} (h : RepF K dl H v (.i x) F) : v = .int x ∧ F = [] := by cases h; exact ⟨rfl, rfl⟩
theorem RepF.str {x : Str} (h : RepF K dl H v (.s x) F) : v = .str x ∧ F = [] := by cases h; exact ⟨rfl, rfl⟩
theorem RepF.bl {x : Bool} (h : RepF K dl H v (.b x) F) : v = .bl x ∧ F = [] := by cases h; exact ⟨rfl, rfl⟩
theorem RepF.non (h : RepF K dl H v .n F) : v = .non ∧ F = [] := by cases h; exact ⟨rfl, rfl⟩
theorem RepF.tup {ts : List T} (h : RepF K dl H v (.t ts) F) : ∃ a vs, v = .ref a ∧ H a = some (.tup vs) ∧ RepFs K dl H vs ts F := by cases h with | t h r => exact ⟨_, _, rfl, h, r⟩
theorem RepF.lst {ts : List T} (h : RepF K dl H v (.l ts) F) : ∃ a vs G, v = .ref a ∧ F = a :: G ∧ H a = some (.lst vs) ∧ RepFs K dl H vs ts G := by cases h with | l h r => exact ⟨_, _, _, rfl, rfl, h, r⟩
theorem RepF.dic {ts : List (Key × T)} (h : RepF K dl H v (.d ts) F) : ∃ a vs G, v = .ref a ∧ F = a :: G ∧ H a = some (.dK vs) ∧ RepFk K dl H vs ts G := by cases h with | d h r => exact ⟨_, _, _, rfl, rfl, h, r⟩
theorem RepF.dea (h : RepF K dl H v .deal F) : ∃ a l, v = .ref a ∧ (a, l) ∈ dl ∧ F = [] := by cases h with | x h => exact ⟨_, _, rfl, h, rfl⟩
theorem RepF.scr {ns : List Int} (h : RepF K dl H v (.z ns) F) : ∃ a, v = .ref a ∧ FzL K H a (ns.map V.int) ∧ F = [] := by cases h with | z h => exact ⟨_, rfl, h, rfl⟩
theorem RepFs.len : ∀ {vs : List V} {ts : List T} {F : List Addr}, RepFs K dl H vs ts F → vs.length = ts.length
  | _, _, _, .nil => rfl
  | _, _, _, .cons _ r => by simp [RepFs.len r]
theorem RepFk.len : ∀ {vs : List (Key × V)} {ts : List (Key × T)} {F : List Addr}, RepFk K dl H vs ts F → vs.length = ts.length
  | _, _, _, .nil => rfl
  | _, _, _, .cons _ r => by simp [RepFk.len r]
theorem RepFs.get : ∀ {vs : List V} {ts : List T} {F : List Addr} {i : Nat} {t : T}, RepFs K dl H vs ts F → ts[i]? = some t → ∃ v G, vs[i]? = some v ∧ RepF K dl H v t G ∧ ∀ b ∈ G, b ∈ F
  | _, _, _, _, _, .nil, h => by simp at h
  | _, _, _, 0, _, .cons h r, e => by
    simp at e
    subst e
    exact ⟨_, _, by simp, h, fun b hb => List.mem_append_left _ hb⟩
  | _, _, _, i + 1, t, .cons h r, e => by
    obtain ⟨v, G, h1, h2, h3⟩ := RepFs.get (i := i) (t := t) r (by simpa using e)
    exact ⟨v, G, by simpa using h1, h2, fun b hb => List.mem_append_right _ (h3 b hb)⟩
theorem RepFs.append : ∀ {vs ws : List V} {ts us : List T} {F G : List Addr}, RepFs K dl H vs ts F → RepFs K dl H ws us G → RepFs K dl H (vs ++ ws) (ts ++ us) (F ++ G)
  | _, _, _, _, _, _, .nil, h => h
  | _, _, _, _, _, _, .cons h r, h2 => by
    rw [List.append_assoc]
    exact .cons h (RepFs.append r h2)
theorem RepFs.nil_iff {vs : List V} {ts : List T} (h : RepFs K dl H vs ts F) : vs = [] ↔ ts = [] := by
  cases h with
  | nil => simp
  | cons _ _ => simp
theorem RepFs.drop : ∀ {vs : List V} {ts : List T} {F : List Addr} (n : Nat), RepFs K dl H vs ts F → ∃ G, RepFs K dl H (vs.drop n) (ts.drop n) G ∧ G.Sublist F
  | _, _, F, 0, h => ⟨F, h, List.Sublist.refl _⟩
  | _, _, _, _ + 1, .nil => ⟨[], .nil, List.Sublist.refl _⟩
  | _, _, _, n + 1, .cons (F := F1) h r => by
    obtain ⟨G, h1, h2⟩ := RepFs.drop n r
    exact ⟨G, h1, h2.trans (List.sublist_append_right _ _)⟩
theorem RepFs.take : ∀ {vs : List V} {ts : List T} {F : List Addr} (n : Nat), RepFs K dl H vs ts F → ∃ G, RepFs K dl H (vs.take n) (ts.take n) G ∧ G.Sublist F
  | _, _, F, 0, h => ⟨[], .nil, List.nil_sublist _⟩
  | _, _, _, _ + 1, .nil => ⟨[], .nil, List.Sublist.refl _⟩
  | _, _, _, n + 1, .cons (F := F1) h r => by
    obtain ⟨G, h1, h2⟩ := RepFs.take n r
    exact ⟨_, .cons h h1, h2.append_left _⟩
theorem RepFs.reverse : ∀ {vs : List V} {ts : List T} {F : List Addr}, RepFs K dl H vs ts F → ∃ G, RepFs K dl H vs.reverse ts.reverse G ∧ G.Perm F
  | _, _, _, .nil => ⟨[], .nil, .refl _⟩
  | _, _, _, .cons (F := F1) h r => by
    obtain ⟨G, h1, h2⟩ := RepFs.reverse r
    refine ⟨G ++ (F1 ++ []), ?_, ?_⟩
    · rw [List.reverse_cons, List.reverse_cons]
      exact h1.append (.cons h .nil)
    · rw [List.append_nil]
      exact (List.perm_append_comm).trans (h2.append_left _)
theorem Rp.sub {t : T} {F G : List Addr} (r : RepF K dl H v t G) (n : ∀ b ∈ F, Nd dl b) (h : ∀ b ∈ G, b ∈ F) : Rp K dl H v t G := ⟨r, fun b hb => n b (h b hb)⟩
theorem Rp.c {t : T} (r : RepF K dl H v t []) : Rp K dl H v t [] := ⟨r, fun _ z => nomatch z⟩
theorem Rps.tup {vs : List V} {ts : List T} {p : Addr} (h : Rps K dl H vs ts F) (D : Dls dl H) (hp : H p = none) : Rp K dl (upd H p (.tup vs)) (.ref p) (.t ts) F :=
  have h2 := h.evo D ((Evo.refl D).new (o := .tup vs) hp)
  ⟨.t upd_same h2.r, h2.n⟩
theorem Rps.lst {vs : List V} {ts : List T} {p : Addr} (h : Rps K dl H vs ts F) (D : Dls dl H) (hp : H p = none) : Rp K dl (upd H p (.lst vs)) (.ref p) (.l ts) (p :: F) :=
  have h2 := h.evo D ((Evo.refl D).new (o := .lst vs) hp)
  ⟨.l upd_same h2.r, fun b hb => by
    rcases List.mem_cons.mp hb with e | hb
    · rw [e]; exact D.nd0 hp
    · exact h2.n b hb⟩
theorem Rps.fresh {vs : List V} {ts : List T} {p : Addr} (h : Rps K dl H vs ts F) (hp : H p = none) (hn : F.Nodup) : (p :: F).Nodup := List.nodup_cons.mpr ⟨fun z => (by
  rcases h.r.there p z with ⟨_, e⟩ | ⟨_, e⟩
  · rw [hp] at e; cases e
  · rw [hp] at e; cases e), hn⟩
def qII (C : Int → Int → Prop) (g : Int → Int → T) : Q2 := fun t u Q => match t, u with
  | .i a, .i b => C a b ∧ Q (g a b)
  | _, _ => False
theorem sim_I {C : Int → Int → Prop} {g : Int → Int → V} {g' : Int → Int → T} (hg : ∀ a b dl H, RepF K dl H (g a b) (g' a b) []) : SimOF K (rI C g) (qII C g') := by
  intro dl H x y t u F G Q R D r1 r2 hq k
  unfold qII at hq
  split at hq
  · obtain ⟨rfl, rfl⟩ := r1.r.int
    obtain ⟨rfl, rfl⟩ := r2.r.int
    exact ⟨_, _, rfl, rfl, hq.1, k _ _ [] H (.refl D) (.c (hg _ _ _ _)) (fun _ z => nomatch z) List.nodup_nil hq.2⟩
  · exact hq.elim
def qI0 (g : Int → Int → T) : Q2 := fun t u Q => match t, u with
  | .i a, .i b => Q (g a b)
  | _, _ => False
theorem sim_I0 {g : Int → Int → V} {g' : Int → Int → T} (hg : ∀ a b dl H, RepF K dl H (g a b) (g' a b) []) : SimOF K (rI0 g) (qI0 g') := by
  intro dl H x y t u F G Q R D r1 r2 hq k
  unfold qI0 at hq
  split at hq
  · obtain ⟨rfl, rfl⟩ := r1.r.int
    obtain ⟨rfl, rfl⟩ := r2.r.int
    exact ⟨_, _, rfl, rfl, k _ _ [] H (.refl D) (.c (hg _ _ _ _)) (fun _ z => nomatch z) List.nodup_nil hq⟩
  · exact hq.elim
theorem op_catU : OpR X (binaryOp .Add) (fun x y H Q => ∃ a b xs ys, x = .ref a ∧ y = .ref b ∧ SqT X.K H a xs ∧ SqT X.K H b ys ∧ xs.length + ys.length ≤ sizeLine ∧
    (xs = [] → Q (.ref b) H) ∧ (xs ≠ [] → ys = [] → Q (.ref a) H) ∧ (xs ≠ [] → ys ≠ [] → ∀ p, H p = none → Q (.ref p) (upd H p (.tup (xs ++ ys))))) := by
  intro pins s σ H x y v u Q I rx ry h
  obtain ⟨a, b, xs, ys, rfl, rfl, ha, hb, hz, q0, q1, q2⟩ := h
  by_cases hx : xs = []
  · cases rx
    cases ry
    obtain ⟨its, r1, p1, _⟩ := I.tuple ha
    obtain ⟨its2, r2, p2, _⟩ := I.tuple hb
    have e : its = [] := r1.nil_iff.mpr hx
    subst e
    obtain ⟨⟨cls, dd, data, sl⟩, ho, hc, n, hd⟩ := id p1
    obtain ⟨⟨cls2, dd2, data2, sl2⟩, ho2, hc2, n2, hd2⟩ := id p2
    simp only at hc hd hc2 hd2
    subst hc hd hc2 hd2
    exact concat_meets ⟨_, ho, rfl⟩ ⟨_, ho2, rfl⟩ noFill_tuple_add seq_tuple_add PySem.F.slot_tuple_add PySem.F.entry_tuple_add (PySem.F.args_tuple_add_2 _ _)
      (tuple_addW0 a b ([] : List Value).toArray its2.toArray n n2 dd dd2 sl sl2 (by simp)) ⟨ho, ho2, ⟨.ref b, H, I, rfl, q0 hx⟩⟩
  · exact op_catT pins s σ H _ _ v u Q I rx ry ⟨a, b, xs, ys, rfl, rfl, ha, hb, hx, hz, q1 hx, q2 hx⟩
def rAdd4 (K : PySem.W.Frag) : R2 := fun x y H Q => rI0 (fun i j => .int (i + j)) x y H Q ∨ (∃ i j, x = .str i ∧ y = .str j ∧ i.length + j.length ≤ sizeLine ∧ Q (.str (i ++ j)) H) ∨ rCat x y H Q ∨
  (∃ a b xs ys, x = .ref a ∧ y = .ref b ∧ SqT K H a xs ∧ SqT K H b ys ∧ xs.length + ys.length ≤ sizeLine ∧
    (xs = [] → Q (.ref b) H) ∧ (xs ≠ [] → ys = [] → Q (.ref a) H) ∧ (xs ≠ [] → ys ≠ [] → ∀ p, H p = none → Q (.ref p) (upd H p (.tup (xs ++ ys)))))
theorem op_add4 (hK : X.K = K) : OpR X (binaryOp .Add) (rAdd4 K) := by subst hK; exact op_add.or (op_add_str.or (op_cat.or op_catU))
def qAdd : Q2 := fun t u Q => match t, u with
  | .i a, .i b => Q (.i (a + b))
  | .s a, .s b => a.length + b.length ≤ sizeLine ∧ Q (.s (a ++ b))
  | .l a, .l b => a.length + b.length ≤ sizeLine ∧ T.ims a = true ∧ T.ims b = true ∧ Q (.l (a ++ b))
  | .t a, .t b => a.length + b.length ≤ sizeLine ∧ T.ims a = true ∧ T.ims b = true ∧ Q (.t (a ++ b))
  | _, _ => False
theorem sim_add : SimOF K (rAdd4 K) qAdd := by
  intro dl H x y t u F G Q R D r1 r2 hq k
  have no : ∀ b : Addr, b ∈ ([] : List Addr) → H b = none := fun _ z => nomatch z
  unfold qAdd at hq
  split at hq
  · obtain ⟨rfl, rfl⟩ := r1.r.int
    obtain ⟨rfl, rfl⟩ := r2.r.int
    exact .inl ⟨_, _, rfl, rfl, k _ _ [] H (.refl D) (.c (.i _)) no List.nodup_nil hq⟩
  · obtain ⟨rfl, rfl⟩ := r1.r.str
    obtain ⟨rfl, rfl⟩ := r2.r.str
    exact .inr (.inl ⟨_, _, rfl, rfl, hq.1, k _ _ [] H (.refl D) (.c (.s _)) no List.nodup_nil hq.2⟩)
  · obtain ⟨a, vs, F1, rfl, rfl, h1, s1⟩ := r1.r.lst
    obtain ⟨b, ws, G1, rfl, rfl, h2, s2⟩ := r2.r.lst
    obtain rfl := s1.im hq.2.1
    obtain rfl := s2.im hq.2.2.1
    refine .inr (.inr (.inl ⟨a, b, vs, ws, rfl, rfl, h1, h2, by rw [s1.len, s2.len]; exact hq.1, fun p hp => ?_⟩))
    have rs : Rps K dl H (vs ++ ws) _ ([] ++ []) := ⟨s1.append s2, fun c hc => nomatch hc⟩
    exact k _ _ _ _ ((Evo.refl D).new hp) (rs.lst D hp) (fun b hb => by rw [List.mem_singleton.mp hb]; exact hp) (by simp) hq.2.2.2
  · obtain ⟨a, vs, rfl, h1, s1⟩ := r1.r.tup
    obtain ⟨b, ws, rfl, h2, s2⟩ := r2.r.tup
    obtain rfl := s1.im hq.2.1
    obtain rfl := s2.im hq.2.2.1
    refine .inr (.inr (.inr ⟨a, b, vs, ws, rfl, rfl, SqT.of h1, SqT.of h2, by rw [s1.len, s2.len]; exact hq.1, fun e => ?_, fun e1 e2 => ?_, fun _ _ p hp => ?_⟩))
    · refine k _ _ [] H (.refl D) r2 no List.nodup_nil ?_
      have z := s1.nil_iff.mp e
      subst z
      exact hq.2.2.2
    · refine k _ _ [] H (.refl D) r1 no List.nodup_nil ?_
      have z := s2.nil_iff.mp e2
      subst z
      have hq2 := hq.2.2.2
      rw [List.append_nil] at hq2
      exact hq2
    · have rs : Rps K dl H (vs ++ ws) _ ([] ++ []) := ⟨s1.append s2, fun c hc => nomatch hc⟩
      exact k _ _ _ _ ((Evo.refl D).new hp) (rs.tup D hp) no List.nodup_nil hq.2.2.2
  · exact hq.elim
end
section
variable {X : Cx} {K : PySem.W.Frag} {a b : Expr} {ta tb : TE} {qa qb : QE} {pos : Pos}
theorem qe_add (ha : QPE X K a ta qa) (hb : QPE X K b tb qb) (hK : X.K = K := by rfl) : QPF X K (.BinOp a .Add b pos) (tOp (rAdd4 K) ta tb) (qOp qAdd qa qb) := qe_opF (op_add4 hK) sim_add ha hb
theorem qe_sub (ha : QPE X K a ta qa) (hb : QPE X K b tb qb) : QPF X K (.BinOp a .Sub b pos) (tOp (rI0 fun i j => .int (i - j)) ta tb) (qOp (qI0 fun i j => .i (i - j)) qa qb) := qe_opF op_sub (sim_I0 fun _ _ _ _ => .i _) ha hb
theorem qe_pow (ha : QPE X K a ta qa) (hb : QPE X K b tb qb) : QPF X K (.BinOp a .Pow b pos) (tOp (rI CPow fun i j => .int (i ^ j.toNat)) ta tb) (qOp (qII CPow fun i j => .i (i ^ j.toNat)) qa qb) := qe_opF op_pow (sim_I fun _ _ _ _ => .i _) ha hb
end
end L2
namespace L2
open PySem PySem.Spec PyProof.Rows
section
variable {X : Cx} {K : PySem.W.Frag} {a b c e : Expr} {es rest : List Expr} {ta tb tc te : TE} {qa qb qc qe : QE} {tA tB : TT} {qA qB : QT} {tl : TA} {ql : QA} {pos : Pos}
def T.v : T → V
  | .n => .non | .b x => .bl x | .i x => .int x | .s x => .str x | _ => .ty ""
def T.fl : T → Bool
  | .n => true | .b _ => true | .i _ => true | .s _ => true | _ => false
theorem RepF.v {dl : Dl} {H : Hp} {v : V} {t : T} {F : List Addr} (h : RepF K dl H v t F) (f : t.fl = true) : v = t.v ∧ F = [] := by
  cases h <;> first | exact ⟨rfl, rfl⟩ | exact absurd (show false = true from f) Bool.false_ne_true
def qEq : Q2 := fun t u Q => (t.fl && u.fl && scal t.v u.v) = true ∧ Q (.b (decide (t.v = u.v)))
theorem sim_eq : SimOF K rEq qEq := by
  intro dl H x y t u F G Q R D r1 r2 hq k
  obtain ⟨h, hq⟩ := hq
  rw [Bool.and_eq_true, Bool.and_eq_true] at h
  obtain ⟨rfl, rfl⟩ := r1.r.v h.1.1
  obtain ⟨rfl, rfl⟩ := r2.r.v h.1.2
  exact ⟨h.2, k _ _ [] H (.refl D) (.c (.b _)) (fun _ z => nomatch z) List.nodup_nil hq⟩
def fls (xs : List T) : Bool := xs.all T.fl
theorem RepFs.vs {dl : Dl} {H : Hp} : ∀ {vs : List V} {ts : List T} {F : List Addr}, RepFs K dl H vs ts F → fls ts = true → vs = ts.map T.v ∧ F = []
  | _, _, _, .nil, _ => ⟨rfl, rfl⟩
  | _, _, _, .cons h r, f => by
    have f : (_ && _) = true := f
    rw [Bool.and_eq_true] at f
    obtain ⟨rfl, rfl⟩ := h.v f.1
    obtain ⟨rfl, rfl⟩ := RepFs.vs r f.2
    exact ⟨rfl, rfl⟩
theorem flat_v {ts : List T} (f : fls ts = true) : (ts.map T.v).all flatV = true := by
  rw [List.all_eq_true]
  intro x hx
  obtain ⟨t, ht, rfl⟩ := List.mem_map.mp hx
  have := List.all_eq_true.mp f t ht
  cases t <;> first | rfl | exact absurd this Bool.false_ne_true
theorem qe_cmp {op : CmpOp} {r : R2} {rq : Q2} (ho : OpR X (compareOp op) r) (hs : SimOF K r rq) (hm : behindInMarks op b = false) (ha : QPE X K a ta qa) (hb : QPE X K b tb qb) : QPF X K (.Compare a [op] [b] pos) (tOp r ta tb) (qOp rq qa qb) :=
  ⟨pe_cmpR ho ha.h hb.h hm, sim_opF hs ha.s hb.s⟩
def qTest (qe : QE) : QT := fun q Q => qe q fun t => match t with
  | .b x => Q x
  | _ => False
theorem sim_test (h : SimE K te qe) : SimT K (tTest te) (qTest qe) := by
  intro dl H σ q Q R rd hq k
  refine h dl H σ q _ _ rd hq fun v t F H' e r hz => ?_
  split at hz
  · obtain ⟨rfl, rfl⟩ := r.r.bl
    exact ⟨_, rfl, k _ H' e hz⟩
  · exact hz.elim
theorem qt_cmp {op : CmpOp} {r : R2} {rq : Q2} (ho : OpR X (compareOp op) r) (hs : SimOF K r rq) (hm : behindInMarks op b = false) (ha : QPE X K a ta qa) (hb : QPE X K b tb qb) : QPT X K (.Compare a [op] [b] pos) (tTest (tOp r ta tb)) (qTest (qOp rq qa qb)) :=
  ⟨pt_cmpR ho ha.h hb.h hm, sim_test (sim_op hs.w ha.s hb.s)⟩
def qTru (qe : QE) : QT := fun q Q => qe q fun t => match t with
  | .b x => Q x
  | .n => Q false
  | .i x => Q (x != 0)
  | .s x => x.length ≤ sizeLine ∧ Q ((x.length : Int) != 0)
  | .l xs => Q (!xs.isEmpty)
  | .t xs => Q (!xs.isEmpty)
  | .d xs => Q (!xs.isEmpty)
  | _ => False
theorem sim_tru (h : SimE K te qe) : SimT K (fun σ H Q => te σ H fun x H' => ∃ k, TruV K x H' k ∧ Q k H') (qTru qe) := by
  intro dl H σ q Q R rd hq k
  refine h dl H σ q _ _ rd hq fun v t F H' e r hz => ?_
  have emp : ∀ {α β : Type} {xs : List α} {ys : List β}, xs.length = ys.length → (!xs.isEmpty) = !ys.isEmpty := fun {α β xs ys} h => by
    cases xs <;> cases ys <;> first | rfl | (simp at h)
  split at hz
  · obtain ⟨rfl, rfl⟩ := r.r.bl; exact ⟨_, rfl, k _ H' e hz⟩
  · obtain ⟨rfl, rfl⟩ := r.r.non; exact ⟨_, rfl, k _ H' e hz⟩
  · obtain ⟨rfl, rfl⟩ := r.r.int; exact ⟨_, rfl, k _ H' e hz⟩
  · obtain ⟨rfl, rfl⟩ := r.r.str; exact ⟨_, ⟨hz.1, rfl⟩, k _ H' e hz.2⟩
  · obtain ⟨p, vs, G, rfl, _, h1, h2⟩ := r.r.lst
    exact ⟨_, .inl ⟨vs, SqL.of h1, rfl⟩, k _ H' e (by rw [emp h2.len]; exact hz)⟩
  · obtain ⟨p, vs, rfl, h1, h2⟩ := r.r.tup
    exact ⟨_, .inr (.inl ⟨vs, SqT.of h1, rfl⟩), k _ H' e (by rw [emp h2.len]; exact hz)⟩
  · obtain ⟨p, vs, G, rfl, _, h1, h2⟩ := r.r.dic
    exact ⟨_, .inr (.inr ⟨vs, h1, rfl⟩), k _ H' e (by rw [emp h2.len]; exact hz)⟩
  · exact hz.elim
theorem qt_truth (h : QPE X K e te qe) (he : ∀ whole, isTrue e X.env whole = (do let v ← whole; standAt e.pos; holding [v] (truthy v)) := by intro _; rfl) (hK : X.K = K := by rfl) :
    QPT X K e (fun σ H Q => te σ H fun x H' => ∃ k, TruV K x H' k ∧ Q k H') (qTru qe) := ⟨by subst hK; exact pt_truth h.h he, sim_tru h.s⟩
def qNot (t : QT) : QT := fun q Q => t q fun c => Q (!c)
def qOr (t u : QT) : QT := fun q Q => t q fun c => if c = true then Q true else u q Q
theorem sim_not (h : SimT K tA qA) : SimT K (tNot tA) (qNot qA) := fun dl H σ q _ R rd hq k => h dl H σ q _ _ rd hq fun b H' e hz => k _ H' e hz
theorem sim_or (h : SimT K tA qA) (h2 : SimT K tB qB) : SimT K (tOr tA tB) (qOr qA qB) := fun dl H σ q Q R rd hq k => h dl H σ q _ _ rd hq fun b H' e hz => by
  cases b with
  | true => exact k _ H' e hz
  | false => exact h2 dl H' σ q Q R (rd.evo e) hz fun c H2 e2 z => k c H2 (e.trans e2) z
theorem qt_not (h : QPT X K a tA qA) : QPT X K (.UnaryOp .Not a pos) (tNot tA) (qNot qA) := ⟨pt_not h.h, sim_not h.s⟩
theorem qw_or1 (h : QPT X K a tA qA) : QPW X K (.BoolOp .Or [a] pos) tA qA := ⟨pw_or1 h.h, h.s⟩
theorem qw_or (h : QPT X K a tA qA) (h2 : QPW X K (.BoolOp .Or (b :: rest) pos) tB qB) : QPW X K (.BoolOp .Or (a :: b :: rest) pos) (tOr tA tB) (qOr qA qB) := ⟨pw_or h.h h2.h, sim_or h.s h2.s⟩
theorem QPW.pt (h : QPW X K e tA qA) : QPT X K e tA qA := ⟨h.h.pt, h.s⟩
def qAndV (qa qb : QE) : QE := fun q Q => qa q fun t => match t with
  | .b c => if c = true then qb q Q else Q (.b false)
  | _ => False
theorem sim_andV (h : SimE K ta qa) (h2 : SimF K tb qb) : SimF K (tAndV ta tb) (qAndV qa qb) := fun dl H σ q Q R rd hq k => h dl H σ q _ _ rd hq fun v t F H' e r hz => by
  split at hz
  · rename_i c
    obtain ⟨rfl, rfl⟩ := r.r.bl
    refine ⟨c, rfl, ?_⟩
    cases c with
    | false => exact k _ _ [] H' e r (fun _ z => nomatch z) List.nodup_nil hz
    | true => exact h2 dl H' σ q Q R (rd.evo e) hz fun w u G H2 e2 r2 f2 n2 z => k w u G H2 (e.trans e2) r2 (fun b hb => e.free (f2 b hb)) n2 z
  · exact hz.elim
theorem qe_one {op} (h : QPF X K a ta qa) : QPF X K (.BoolOp op [a] pos) ta qa := ⟨pe_one h.h, h.s⟩
theorem qe_and (ha : QPE X K a ta qa) (hb : QPF X K (.BoolOp .And (b :: rest) pos) tb qb) : QPF X K (.BoolOp .And (a :: b :: rest) pos) (tAndV ta tb) (qAndV qa qb) := ⟨pe_and ha.h hb.h, sim_andV ha.s hb.s⟩
theorem qe_neg (ha : QPE X K a ta qa) : QPF X K (.UnaryOp .USub a pos) (tUn (rU fun i => .int (-i)) ta) (fun q Q => qa q fun t => match t with | .i x => Q (.i (-x)) | _ => False) := ⟨pe_un un_neg ha.h, fun dl H σ q Q R rd hq k => ha.s dl H σ q _ _ rd hq fun v t F H' e r hz => by
  split at hz
  · obtain ⟨rfl, rfl⟩ := r.r.int
    exact ⟨_, rfl, k _ _ [] H' e (.c (.i _)) (fun _ z => nomatch z) List.nodup_nil hz⟩
  · exact hz.elim⟩
def qNil : QA := fun _ Q => Q []
def qCons (qa : QE) (ql : QA) : QA := fun q Q => qa q fun t => ql q fun ts => Q (t :: ts)
theorem qa_nil : QPAF X K [] tNil qNil := ⟨pa_nil, fun dl H σ q Q R rd hq k => k [] [] [] H (.refl rd.d) ⟨.nil, fun _ z => nomatch z⟩ rfl (fun _ z => nomatch z) List.nodup_nil hq⟩
theorem QPAF.w (h : QPAF X K es tl ql) : QPA X K es tl ql := ⟨h.h, fun dl H σ q Q R rd hq k => h.s dl H σ q Q R rd hq fun vs ts F H' e r l _ _ z => k vs ts F H' e r l z⟩
theorem Rps.cons {dl : Dl} {H : Hp} {v : V} {t : T} {vs : List V} {ts : List T} {F G : List Addr} (h : Rp K dl H v t F) (r : Rps K dl H vs ts G) : Rps K dl H (v :: vs) (t :: ts) (F ++ G) := ⟨.cons h.r r.r, fun b hb => (List.mem_append.mp hb).elim (h.n b) (r.n b)⟩
theorem qa_cons (ha : QPE X K e te qe) (hr : QPA X K es tl ql) (hs : starEach (e :: es) X.env = (false, eval e X.env) :: starEach es X.env := by rfl) : QPA X K (e :: es) (tCons te tl) (qCons qe ql) :=
  ⟨pa_cons ha.h hr.h hs, fun dl H σ q Q R rd hq k => ha.s dl H σ q _ _ rd hq fun v t F H1 e1 r1 hz => hr.s dl H1 σ q _ _ (rd.evo e1) hz fun vs ts G H2 e2 r2 l2 z => k _ _ _ H2 (e1.trans e2) (.cons (r1.evo e1.d e2) r2) (by simp [l2]) z⟩
theorem qa_consF (ha : QPF X K e te qe) (hr : QPAF X K es tl ql) (hs : starEach (e :: es) X.env = (false, eval e X.env) :: starEach es X.env := by rfl) : QPAF X K (e :: es) (tCons te tl) (qCons qe ql) :=
  ⟨pa_cons ha.h hr.h hs, fun dl H σ q Q R rd hq k => ha.s dl H σ q _ _ rd hq fun v t F H1 e1 r1 f1 n1 hz => hr.s dl H1 σ q _ _ (rd.evo e1) hz fun vs ts G H2 e2 r2 l2 f2 n2 z =>
    k _ _ _ H2 (e1.trans e2) (.cons (r1.evo e1.d e2) r2) (by simp [l2]) (fun b hb => (List.mem_append.mp hb).elim (f1 b) fun hb => e1.free (f2 b hb)) (List.nodup_append.mpr ⟨n1, n2, fun x hx y hy exy => by
      subst exy
      have z := f2 x hy
      rcases r1.r.there x hx with ⟨_, e⟩ | ⟨_, e⟩
      · rw [z] at e; cases e
      · rw [z] at e; cases e⟩) z⟩
def qTup (ql : QA) : QE := fun q Q => ql q fun ts => Q (.t ts)
def qLst (ql : QA) : QE := fun q Q => ql q fun ts => Q (.l ts)
theorem qe_tup {x1} (h : QPAF X K es tl ql) (hz : es.length ≤ 1000 := by decide) : QPF X K (.Tuple es x1 pos) (tTup tl) (qTup ql) := ⟨pe_tup h.h, fun dl H σ q Q R rd hq k => h.s dl H σ q _ _ rd hq fun vs ts F H1 e1 r1 l1 f1 n1 z =>
  ⟨Nat.le_of_lt (small1000 (by omega)), fun p hp => k _ _ F _ (e1.new hp) (r1.tup e1.d hp) f1 n1 z⟩⟩
theorem qe_lst (h : QPAF X K es tl ql) (hz : es.length ≤ 1000 := by decide) : QPF X K (.List es pos) (tLst tl) (qLst ql) := ⟨pe_lst h.h, fun dl H σ q Q R rd hq k => h.s dl H σ q _ _ rd hq fun vs ts F H1 e1 r1 l1 f1 n1 z =>
  ⟨Nat.le_of_lt (small1000 (by omega)), fun p hp => k _ _ (p :: F) _ (e1.new hp) (r1.lst e1.d hp) (fun b hb => by
    rcases List.mem_cons.mp hb with e | hb
    · rw [e]; exact e1.free hp
    · exact f1 b hb) (r1.fresh hp n1) z⟩⟩
def qIx : Q2 := fun t u Q => match u with
  | .i k => match t with
    | .l xs => ∃ x, atI xs k = some x ∧ Q x
    | .t xs => ∃ x, atI xs k = some x ∧ Q x
    | .z ns => ∃ x, atI ns k = some x ∧ Q (.i x)
    | .s z => z.length ≤ sizeLine ∧ ∃ c, atI z.cps.toList k = some c ∧ Q (.s ⟨#[c]⟩)
    | _ => False
  | _ => False
theorem atI_len {α β : Type} {xs : List α} {ys : List β} {k : Int} {x : α} (h : atI xs k = some x) (hl : xs.length = ys.length) : ∃ j : Nat, xs[j]? = some x ∧ ixN ys.length k = some j := by
  unfold atI at h
  cases e : ixN xs.length k with
  | none => rw [e] at h; cases h
  | some j => rw [e] at h; exact ⟨j, h, by rw [← hl]; exact e⟩
theorem atI_of {α : Type} {xs : List α} {k : Int} {j : Nat} {x : α} (h : ixN xs.length k = some j) (hx : xs[j]? = some x) : atI xs k = some x := by unfold atI; rw [h]; exact hx
theorem sim_ix : SimO K (rIx K) qIx := by
  intro dl H x y t u F G Q R D r1 r2 hq k
  unfold qIx at hq
  split at hq
  · rename_i k0
    obtain ⟨rfl, rfl⟩ := r2.r.int
    split at hq
    · obtain ⟨p, vs, G, rfl, rfl, h1, h2⟩ := r1.r.lst
      obtain ⟨z, hz, hq⟩ := hq
      obtain ⟨j, hj, hi⟩ := atI_len hz h2.len.symm
      obtain ⟨v, G', hv, rv, hs⟩ := h2.get hj
      exact .inl ⟨p, vs, k0, v, rfl, rfl, SqL.of h1, atI_of hi hv, k v z G' H (.refl D) (Rp.sub rv r1.n fun b hb => List.mem_cons_of_mem _ (hs b hb)) hq⟩
    · obtain ⟨p, vs, rfl, h1, h2⟩ := r1.r.tup
      obtain ⟨z, hz, hq⟩ := hq
      obtain ⟨j, hj, hi⟩ := atI_len hz h2.len.symm
      obtain ⟨v, G', hv, rv, hs⟩ := h2.get hj
      exact .inr (.inl ⟨p, vs, k0, v, rfl, rfl, SqT.of h1, atI_of hi hv, k v z G' H (.refl D) (Rp.sub rv r1.n hs) hq⟩)
    · obtain ⟨p, rfl, h1, _⟩ := r1.r.scr
      obtain ⟨z, hz, hq⟩ := hq
      refine .inl ⟨p, _, k0, .int z, rfl, rfl, h1.sq, ?_, k _ _ [] H (.refl D) (.c (.i _)) hq⟩
      obtain ⟨j, hj, hi⟩ := atI_len (ys := (_ : List Int).map V.int) hz (by rw [List.length_map])
      exact atI_of hi (by rw [List.getElem?_map, hj]; rfl)
    · obtain ⟨rfl, rfl⟩ := r1.r.str
      obtain ⟨hl, c, hc, hq⟩ := hq
      exact .inr (.inr ⟨_, k0, c, rfl, rfl, hl, hc, k _ _ [] H (.refl D) (.c (.s _)) hq⟩)
    · exact hq.elim
  · exact hq.elim
theorem qe_ix (ha : QPE X K a ta qa) (hb : QPE X K b tb qb) (hs : PlainIx b := by intro _ _; rfl) (hK : X.K = K := by rfl) : QPE X K (.Subscript a b pos) (tOp (rIx K) ta tb) (qOp qIx qa qb) := ⟨by subst hK; exact pe_ix ix_seq ha.h hb.h hs, sim_op sim_ix ha.s hb.s⟩
end
end L2
namespace L2
open PySem PySem.Spec PyProof.Rows
section
variable {X : Cx} {K : PySem.W.Frag} {a b c e : Expr} {es rest : List Expr} {ta tb tc te : TE} {qa qb qc qe : QE} {tA tB : TT} {qA qB : QT} {tl : TA} {ql : QA} {pos p : Pos} {x : Str}
abbrev QC := List T → (T → Prop) → Prop
def SimC (K : PySem.W.Frag) (r : List V → Hp → VK → Prop) (rq : QC) : Prop := ∀ (dl : Dl) (H : Hp) (vs : List V) (ts : List T) (F : List Addr) (Q : T → Prop) (R : V → Hp → Prop), Dls dl H → Rps K dl H vs ts F → rq ts Q →
  (∀ v z F' H', Evo dl H H' → Rp K dl H' v z F' → (∀ b ∈ F', H b = none) → F'.Nodup → Q z → R v H') → r vs H R
def qCB (rq : QC) (ql : QA) : QE := fun q Q => ql q fun ts => rq ts Q
theorem sim_cb {n : Nat} {r : List V → Hp → VK → Prop} {rq : QC} (h : SimC K r rq) (hl : SimA K n tl ql) : SimF K (tCB r tl) (qCB rq ql) := fun dl H σ q Q R rd hq k => hl dl H σ q _ _ rd hq fun vs ts F H1 e1 r1 _ hz =>
  h dl H1 vs ts F Q R e1.d r1 hz fun v z F' H2 e2 r2 f2 n2 hz => k v z F' H2 (e1.trans e2) r2 (fun b hb => e1.free (f2 b hb)) n2 hz
theorem qe_callB {id : String} {r : List V → Hp → VK → Prop} {rq : QC} (hc : CallR X (.builtin id) r) (hs : SimC K r rq) (hg : Gl X x) (hm : X.mg x = none) (hv : bootBuiltins x = some (.builtin id)) (ha : QPA X K (e :: es) tl ql) (hn : x ≠ "__name__" := by decide) (hdb : (x == ("__debug__" : Str)) = false := by decide)
    (he : starEach (e :: es) X.env = (false, eval e X.env) :: starEach es X.env := by rfl) (hpl : (backTo pos (starEach es X.env)).any (·.1) = false := by rfl) : QPF X K (.Call (.Name x p) (e :: es) [] pos) (tCB r tl) (qCB rq ql) := ⟨pe_callB hc hg hm hv ha.h hn hdb he hpl, sim_cb hs ha.s⟩
theorem Rps.one {dl : Dl} {H : Hp} {vs : List V} {t : T} {F : List Addr} (h : Rps K dl H vs [t] F) : ∃ v, vs = [v] ∧ Rp K dl H v t F := by
  obtain ⟨r, n⟩ := h
  cases r with
  | cons r1 r2 =>
    cases r2
    rw [List.append_nil] at n
    rw [List.append_nil]
    exact ⟨_, rfl, r1, n⟩
theorem Rps.two {dl : Dl} {H : Hp} {vs : List V} {t u : T} {F : List Addr} (h : Rps K dl H vs [t, u] F) : ∃ v w F1 F2, vs = [v, w] ∧ Rp K dl H v t F1 ∧ Rp K dl H w u F2 := by
  obtain ⟨r, n⟩ := h
  cases r with
  | cons r1 r2 =>
    obtain ⟨w, rfl, h2⟩ := Rps.one ⟨r2, fun b hb => n b (List.mem_append_right _ hb)⟩
    exact ⟨_, w, _, _, rfl, ⟨r1, fun b hb => n b (List.mem_append_left _ hb)⟩, h2⟩
def bls : List T → Option (List Bool)
  | [] => some []
  | .b x :: r => (bls r).map (x :: ·)
  | _ => none
theorem RepFs.bls {dl : Dl} {H : Hp} : ∀ {vs : List V} {ts : List T} {F : List Addr} {bs : List Bool}, RepFs K dl H vs ts F → L2.bls ts = some bs → vs = bs.map V.bl
  | _, _, _, bs, .nil, h => by cases h; rfl
  | _, t :: ts, _, bs, .cons h r, q => by
    unfold L2.bls at q
    split at q
    · rename_i e; cases e
    · rename_i x r' e
      cases e
      obtain ⟨rfl, _⟩ := h.bl
      cases e2 : L2.bls ts with
      | none => rw [e2] at q; cases q
      | some bs' =>
        rw [e2] at q
        cases q
        rw [RepFs.bls r e2]
        rfl
    · cases q
theorem bls_map (bs : List Bool) : bls (bs.map T.b) = some bs := by
  induction bs with
  | nil => rfl
  | cons b r ih => show (bls (r.map T.b)).map (b :: ·) = _; rw [ih]; rfl
def qAll : QC := fun ts Q => match ts with
  | [.l xs] => ∃ bs, bls xs = some bs ∧ Q (.b (bs.all id))
  | _ => False
theorem call_allK (hK : X.K = K) (hc : X.calm = true) : CallR X (.builtin "all") (fun xs H Q => ∃ (l : Addr) (bs : List Bool), xs = [.ref l] ∧ SqL K H l (bs.map V.bl) ∧ Q (.bl (bs.all id)) H) := by subst hK; exact call_all hc
theorem sim_all : SimC K (fun xs H Q => ∃ (l : Addr) (bs : List Bool), xs = [.ref l] ∧ SqL K H l (bs.map V.bl) ∧ Q (.bl (bs.all id)) H) qAll := by
  intro dl H vs ts F Q R D r hq k
  unfold qAll at hq
  split at hq
  · obtain ⟨v, rfl, r'⟩ := r.one
    obtain ⟨p, vs, G, rfl, rfl, h1, h2⟩ := r'.r.lst
    obtain ⟨bs, hb, hq⟩ := hq
    have e := h2.bls hb
    subst e
    exact ⟨p, bs, rfl, SqL.of h1, k _ _ [] H (.refl D) (.c (.b _)) (fun _ z => nomatch z) List.nodup_nil hq⟩
  · exact hq.elim
def ins : List T → Option (List Int)
  | [] => some []
  | .i x :: r => (ins r).map (x :: ·)
  | _ => none
theorem RepFs.ins {dl : Dl} {H : Hp} : ∀ {vs : List V} {ts : List T} {F : List Addr} {bs : List Int}, RepFs K dl H vs ts F → L2.ins ts = some bs → vs = bs.map V.int
  | _, _, _, bs, .nil, h => by cases h; rfl
  | _, t :: ts, _, bs, .cons h r, q => by
    unfold L2.ins at q
    split at q
    · rename_i e; cases e
    · rename_i x r' e
      cases e
      obtain ⟨rfl, _⟩ := h.int
      cases e2 : L2.ins ts with
      | none => rw [e2] at q; cases q
      | some bs' =>
        rw [e2] at q
        cases q
        rw [RepFs.ins r e2]
        rfl
    · cases q
end
end L2
namespace L2
open PySem PySem.Spec PyProof.Rows
structure EndsQ where
  nx : Sq → Prop
  rt : T → Prop
  bk : Sq → Prop := fun _ => False
  ct : Sq → Prop := fun _ => False
abbrev QS := EndsQ → Sq → Prop
structure Rel (K : PySem.W.Frag) (dl : Dl) (H₀ : Hp) (hs : List (V × T)) (H : Hp) (σ : St) (q : Sq) (F : Nat → List Addr) : Prop where
  d : Dls dl H
  g : ∀ (i : Nat) (x : Sl) (t : T), q[i]? = some x → x.get = some t → ∃ v, σ[i]? = some (some v) ∧ Rp K dl H v t (F i)
  n : ∀ (i : Nat) (x : Sl), q[i]? = some x → x.get = none → F i = []
  z : ∀ (i : Nat), q.length ≤ i → F i = []
  o : ∀ (i : Nat) (t : T), q[i]? = some (.o t) → (F i).Nodup ∧ (∀ b ∈ F i, H₀ b = none) ∧ (∀ j, j ≠ i → ∀ b ∈ F i, b ∉ F j)
  h : ∀ p ∈ hs, ∃ Fp, Rp K dl H p.1 p.2 Fp ∧ ∀ (i : Nat) (t : T), q[i]? = some (.o t) → ∀ b ∈ F i, b ∉ Fp
  f : ∀ b o, H₀ b = some o → Nd dl b → H b = some o
  l : q.length = σ.length
def RelX (K : PySem.W.Frag) (dl : Dl) (H₀ : Hp) (hs : List (V × T)) (H : Hp) (σ : St) (q : Sq) : Prop := ∃ F, Rel K dl H₀ hs H σ q F
def There (H : Hp) (b : Addr) : Prop := (∃ xs, H b = some (.lst xs)) ∨ ∃ ks, H b = some (.dK ks)
theorem There.no {H : Hp} {b : Addr} (h : There H b) (e : H b = none) : False := by
  rcases h with ⟨_, h⟩ | ⟨_, h⟩
  · rw [e] at h; cases h
  · rw [e] at h; cases h
section
variable {X : Cx} {K : PySem.W.Frag} {dl : Dl} {H₀ H H' : Hp} {hs : List (V × T)} {σ : St} {q : Sq} {F : Nat → List Addr}
theorem Rel.rd (r : Rel K dl H₀ hs H σ q F) : RdR K dl H σ q := ⟨r.d, fun i x t h1 h2 => let ⟨v, e, p⟩ := r.g i x t h1 h2; ⟨v, F i, e, p⟩⟩
theorem Rel.fz (r : Rel K dl H₀ hs H σ q F) {b : Addr} (h : H b = none) : H₀ b = none := by
  cases e : H₀ b with
  | none => rfl
  | some o => rw [r.f b o e (r.d.nd0 h)] at h; cases h
theorem Rel.thereF (r : Rel K dl H₀ hs H σ q F) {i : Nat} {b : Addr} (hb : b ∈ F i) : There H b := by
  by_cases hi : i < q.length
  · have e : q[i]? = some q[i] := by simp [hi]
    cases ex : q[i].get with
    | none => rw [r.n i _ e ex] at hb; cases hb
    | some t =>
      obtain ⟨v, _, p⟩ := r.g i _ t e ex
      exact p.r.there b hb
  · rw [r.z i (by omega)] at hb; cases hb
theorem Rel.evo (r : Rel K dl H₀ hs H σ q F) (e : Evo dl H H') : Rel K dl H₀ hs H' σ q F where
  d := e.d
  g := fun i x t h1 h2 => let ⟨v, e1, p⟩ := r.g i x t h1 h2; ⟨v, e1, p.evo r.d e⟩
  n := r.n
  z := r.z
  o := r.o
  h := fun p hp => let ⟨Fp, h1, h2⟩ := r.h p hp; ⟨Fp, h1.evo r.d e, h2⟩
  f := fun b o h n => e.k b o (r.f b o h n) n
  l := r.l
def setF (F : Nat → List Addr) (i : Nat) (x : List Addr) : Nat → List Addr := fun j => if j = i then x else F j
theorem setF_same {i : Nat} {x : List Addr} : setF F i x i = x := if_pos rfl
theorem setF_ne {i j : Nat} {x : List Addr} (h : j ≠ i) : setF F i x j = F j := if_neg h
theorem get_set {α : Type} {xs : List α} {i j : Nat} {x y : α} (h : (xs.set i x)[j]? = some y) : (j = i ∧ y = x ∧ i < xs.length) ∨ (j ≠ i ∧ xs[j]? = some y) := by
  by_cases e : j = i
  · subst e
    rw [List.getElem?_set_self'] at h
    by_cases hl : j < xs.length
    · rw [List.getElem?_eq_getElem hl] at h
      exact .inl ⟨rfl, (Option.some.inj h).symm, hl⟩
    · rw [List.getElem?_eq_none (by omega)] at h; cases h
  · rw [List.getElem?_set_ne (fun z => e z.symm)] at h
    exact .inr ⟨e, h⟩
theorem Rel.put {i : Nat} {v : V} {t : T} {F' : List Addr} (r : Rel K dl H₀ hs H σ q F) (hi : i < q.length) (e : Evo dl H H') (hv : Rp K dl H' v t F') (hf : ∀ b ∈ F', H b = none) (hn : F'.Nodup) : Rel K dl H₀ hs H' (σ.set i (some v)) (q.set i (.o t)) (setF F i F') := by
  have r' := r.evo e
  have out : ∀ j, ∀ b ∈ F', b ∉ F j := fun j b hb hj => (r.thereF hj).no (hf b hb)
  refine ⟨e.d, fun j x u h1 h2 => ?_, fun j x h1 h2 => ?_, fun j hj => ?_, fun j u h1 => ?_, fun p hp => ?_, r'.f, by simp [r.l]⟩
  · rcases get_set h1 with ⟨rfl, rfl, _⟩ | ⟨ne, h1⟩
    · cases h2
      exact ⟨v, by rw [List.getElem?_set_self (by rw [← r.l]; exact hi)], by rw [setF_same]; exact hv⟩
    · obtain ⟨w, h3, h4⟩ := r'.g j x u h1 h2
      exact ⟨w, by rw [List.getElem?_set_ne (fun z => ne z.symm)]; exact h3, by rw [setF_ne ne]; exact h4⟩
  · rcases get_set h1 with ⟨rfl, rfl, _⟩ | ⟨ne, h1⟩
    · cases h2
    · rw [setF_ne ne]; exact r.n j x h1 h2
  · rw [List.length_set] at hj
    rw [setF_ne (by omega)]
    exact r.z j hj
  · rcases get_set h1 with ⟨rfl, _, _⟩ | ⟨ne, h1⟩
    · rw [setF_same]
      exact ⟨hn, fun b hb => r.fz (hf b hb), fun k hk b hb => by rw [setF_ne hk]; exact out k b hb⟩
    · rw [setF_ne ne]
      obtain ⟨o1, o2, o3⟩ := r.o j u h1
      refine ⟨o1, o2, fun k hk b hb => ?_⟩
      by_cases ek : k = i
      · subst ek
        rw [setF_same]
        exact fun z => out j b z hb
      · rw [setF_ne ek]; exact o3 k hk b hb
  · obtain ⟨Fp, h1, h2⟩ := r.h p hp
    refine ⟨Fp, h1.evo r.d e, fun j u hj b hb z => ?_⟩
    rcases get_set hj with ⟨rfl, _, _⟩ | ⟨ne, hj⟩
    · rw [setF_same] at hb
      exact There.no (h1.r.there b z) (hf b hb)
    · rw [setF_ne ne] at hb
      exact h2 j u hj b hb z
theorem Rel.putR {i : Nat} {v : V} {t : T} {F' : List Addr} (r : Rel K dl H₀ hs H σ q F) (hi : i < q.length) (hv : Rp K dl H v t F') (hf : ∀ (j : Nat) (u : T), q[j]? = some (.o u) → j ≠ i → ∀ b ∈ F j, b ∉ F') : Rel K dl H₀ hs H (σ.set i (some v)) (q.set i (.r t)) (setF F i F') := by
  refine ⟨r.d, fun j x u h1 h2 => ?_, fun j x h1 h2 => ?_, fun j hj => ?_, fun j u h1 => ?_, fun p hp => ?_, r.f, by simp [r.l]⟩
  · rcases get_set h1 with ⟨rfl, rfl, _⟩ | ⟨ne, h1⟩
    · cases h2
      exact ⟨v, by rw [List.getElem?_set_self (by rw [← r.l]; exact hi)], by rw [setF_same]; exact hv⟩
    · obtain ⟨w, h3, h4⟩ := r.g j x u h1 h2
      exact ⟨w, by rw [List.getElem?_set_ne (fun z => ne z.symm)]; exact h3, by rw [setF_ne ne]; exact h4⟩
  · rcases get_set h1 with ⟨rfl, rfl, _⟩ | ⟨ne, h1⟩
    · cases h2
    · rw [setF_ne ne]; exact r.n j x h1 h2
  · rw [List.length_set] at hj
    rw [setF_ne (by omega)]
    exact r.z j hj
  · rcases get_set h1 with ⟨rfl, e, _⟩ | ⟨ne, h1⟩
    · cases e
    · rw [setF_ne ne]
      obtain ⟨o1, o2, o3⟩ := r.o j u h1
      refine ⟨o1, o2, fun k hk b hb => ?_⟩
      have z := hf j u h1 ne b hb
      by_cases ek : k = i
      · subst ek
        rw [setF_same]
        exact z
      · rw [setF_ne ek]; exact o3 k hk b hb
  · obtain ⟨Fp, h1, h2⟩ := r.h p hp
    refine ⟨Fp, h1, fun j u hj b hb z => ?_⟩
    rcases get_set hj with ⟨rfl, e, _⟩ | ⟨ne, hj⟩
    · cases e
    · rw [setF_ne ne] at hb
      exact h2 j u hj b hb z
theorem Rel.hold {v : V} {t : T} {F' : List Addr} (r : Rel K dl H₀ hs H σ q F) (hv : Rp K dl H v t F') (hf : ∀ (j : Nat) (u : T), q[j]? = some (.o u) → ∀ b ∈ F j, b ∉ F') : Rel K dl H₀ ((v, t) :: hs) H σ q F :=
  ⟨r.d, r.g, r.n, r.z, r.o, fun p hp => by
    rcases List.mem_cons.mp hp with e | hp
    · subst e; exact ⟨F', hv, hf⟩
    · exact r.h p hp, r.f, r.l⟩
theorem Rel.write {i : Nat} {v : V} {t t' : T} {F' : List Addr} {p : Addr} {o : HO} (r : Rel K dl H₀ hs H σ q F) (hi : q[i]? = some (.o t)) (hv : σ[i]? = some (some v)) (hp : p ∈ F i) (ho : ∀ xs, H p = some (.lst xs) → ∃ ys, o = .lst ys) (hr : Rp K dl (upd H p o) v t' F') (hn : F'.Nodup)
    (hf : ∀ b ∈ F', b ∈ F i ∨ (H₀ b = none ∧ (∀ j, b ∉ F j) ∧ ∀ w u Fp, Rp K dl H w u Fp → (w, u) ∈ hs → b ∉ Fp)) : Rel K dl H₀ hs (upd H p o) σ (q.set i (.o t')) (setF F i F') := by
  obtain ⟨o1, o2, o3⟩ := r.o i t hi
  have hil : i < q.length := (List.getElem?_eq_some_iff.mp hi).1
  obtain ⟨v', hv', rp⟩ := r.g i _ t hi rfl
  have pn : Nd dl p := rp.n p hp
  have pth := r.thereF hp
  have tf : TF H (upd H p o) := ⟨fun a vs h => (by
    rw [upd_ne]; exact h
    intro z; subst z
    rcases pth with ⟨_, e⟩ | ⟨_, e⟩ <;> rw [h] at e <;> cases e), fun a ob u h => (by
    rw [upd_ne]; exact h
    intro z; subst z
    rcases pth with ⟨_, e⟩ | ⟨_, e⟩ <;> rw [h] at e <;> cases e), fun a φ h => (by
    rw [upd_ne]; exact h
    intro z; subst z
    rcases pth with ⟨_, e⟩ | ⟨_, e⟩ <;> rw [h] at e <;> cases e), fun a xs h => (by
    by_cases z : a = p
    · subst z
      obtain ⟨ys, e⟩ := ho xs h
      exact ⟨ys, by rw [upd_same, e]⟩
    · exact ⟨xs, by rw [upd_ne z]; exact h⟩)⟩
  have st : ∀ {w : V} {u : T} {Fw : List Addr}, Rp K dl H w u Fw → p ∉ Fw → Rp K dl (upd H p o) w u Fw := fun {w u Fw} h np =>
    ⟨h.r.stay tf (fun _ z => z) fun b hb ob e => (by
      have ne : b ≠ p := by
        intro z
        subst z
        exact np hb
      rw [upd_ne ne]
      exact e), h.n⟩
  refine ⟨fun d hd => (r.d d hd).other (pn d hd).1 (pn d hd).2, fun j x u h1 h2 => ?_, fun j x h1 h2 => ?_, fun j hj => ?_, fun j u h1 => ?_, fun w hw => ?_, fun b ob hb nb => ?_, by simp [r.l]⟩
  · rcases get_set h1 with ⟨rfl, rfl, _⟩ | ⟨ne, h1⟩
    · cases h2
      exact ⟨v, hv, by rw [setF_same]; exact hr⟩
    · obtain ⟨w, h3, h4⟩ := r.g j x u h1 h2
      exact ⟨w, h3, by rw [setF_ne ne]; exact st h4 (o3 j ne p hp)⟩
  · rcases get_set h1 with ⟨rfl, rfl, _⟩ | ⟨ne, h1⟩
    · cases h2
    · rw [setF_ne ne]; exact r.n j x h1 h2
  · rw [List.length_set] at hj
    rw [setF_ne (by omega)]
    exact r.z j hj
  · rcases get_set h1 with ⟨rfl, e, _⟩ | ⟨ne, h1⟩
    · rw [setF_same]
      refine ⟨hn, fun b hb => ?_, fun k hk b hb => ?_⟩
      · rcases hf b hb with z | z
        · exact o2 b z
        · exact z.1
      · rw [setF_ne hk]
        rcases hf b hb with z | z
        · exact o3 k hk b z
        · exact z.2.1 k
    · rw [setF_ne ne]
      obtain ⟨p1, p2, p3⟩ := r.o j u h1
      refine ⟨p1, p2, fun k hk b hb => ?_⟩
      by_cases ek : k = i
      · subst ek
        rw [setF_same]
        intro z
        rcases hf b z with z | z
        · exact o3 j ne b z hb
        · exact z.2.1 j hb
      · rw [setF_ne ek]; exact p3 k hk b hb
  · obtain ⟨Fp, h1, h2⟩ := r.h w hw
    refine ⟨Fp, st h1 (h2 i t hi p hp), fun j u hj b hb z => ?_⟩
    rcases get_set hj with ⟨rfl, e, _⟩ | ⟨ne, hj⟩
    · rw [setF_same] at hb
      rcases hf b hb with y | y
      · exact h2 j t hi b y z
      · exact y.2.2 w.1 w.2 Fp h1 hw z
    · rw [setF_ne ne] at hb
      exact h2 j u hj b hb z
  · rw [upd_ne]
    · exact r.f b ob hb nb
    · intro z
      subst z
      rw [o2 b hp] at hb
      cases hb
end
structure EndsOk (K : PySem.W.Frag) (dl : Dl) (H₀ : Hp) (hs : List (V × T)) (Dq : EndsQ) (D : Ends) : Prop where
  nx : ∀ H σ q, RelX K dl H₀ hs H σ q → Dq.nx q → D.nx σ H
  bk : ∀ H σ q, RelX K dl H₀ hs H σ q → Dq.bk q → D.bk σ H
  ct : ∀ H σ q, RelX K dl H₀ hs H σ q → Dq.ct q → D.ct σ H
  rt : ∀ v t F H, Dls dl H → Rp K dl H v t F → (∀ b ∈ F, H₀ b = none) → F.Nodup → (∀ b o, H₀ b = some o → Nd dl b → H b = some o) → Dq.rt t → D.rt v H
def SimS (K : PySem.W.Frag) (ts : TS) (qs : QS) : Prop := ∀ (dl : Dl) (H₀ : Hp) (hs : List (V × T)) (H : Hp) (σ : St) (q : Sq) (Dq : EndsQ) (D : Ends), RelX K dl H₀ hs H σ q → qs Dq q → EndsOk K dl H₀ hs Dq D → ts D σ H
structure QPS (X : Cx) (K : PySem.W.Frag) (st : Stmt) (ts : TS) (qs : QS) : Prop where
  h : PS X st ts
  s : SimS K ts qs
structure QPSs (X : Cx) (K : PySem.W.Frag) (st : List Stmt) (ts : TS) (qs : QS) : Prop where
  h : PSs X st ts
  s : SimS K ts qs
section
variable {X : Cx} {K : PySem.W.Frag} {st : Stmt} {rest sa sb : List Stmt} {t u : TS} {qt qu : QS} {e c : Expr} {te : TE} {qe : QE} {tc : TT} {qc : QT} {pos : Pos}
def qNext : QS := fun D q => D.nx q
def qSeq (t u : QS) : QS := fun D q => t { D with nx := u D } q
theorem qss_nil : QPSs X K [] tNext qNext := ⟨pss_nil, fun _ _ _ H σ q _ _ r hq E => E.nx H σ q r hq⟩
theorem qss_cons (h1 : QPS X K st t qt) (h2 : QPSs X K rest u qu) : QPSs X K (st :: rest) (tSeq t u) (qSeq qt qu) := ⟨pss_cons h1.h h2.h, fun dl H₀ hs H σ q Dq D r hq E =>
  h1.s dl H₀ hs H σ q _ _ r hq ⟨fun H σ q r' hq' => h2.s dl H₀ hs H σ q _ _ r' hq' E, E.bk, E.ct, E.rt⟩⟩
theorem qss_one (h1 : QPS X K st t qt) : QPSs X K [st] t qt := ⟨pss_one h1.h, h1.s⟩
theorem qs_ret (he : QPF X K e te qe) : QPS X K (.Return (some e) pos) (tRet te) (fun D q => qe q D.rt) := ⟨ps_ret he.h, fun dl H₀ hs H σ q Dq D ⟨F, r⟩ hq E =>
  he.s dl H σ q _ _ r.rd hq fun v t F' H' e1 r1 f1 n1 hz => E.rt v t F' H' e1.d r1 (fun b hb => r.fz (f1 b hb)) n1 (r.evo e1).f hz⟩
theorem qs_retO {i : Nat} (he : PE X e (tVar i)) : QPS X K (.Return (some e) pos) (tRet (tVar i)) (fun D q => match q[i]? with | some (.o t) => D.rt t | _ => False) := ⟨ps_ret he, fun dl H₀ hs H σ q Dq D ⟨F, r⟩ hq E => by
  split at hq
  · rename_i t e1
    obtain ⟨v, hv, rp⟩ := r.g i _ t e1 rfl
    obtain ⟨o1, o2, o3⟩ := r.o i t e1
    exact ⟨v, hv, E.rt v t (F i) H r.d rp o2 o1 r.f hq⟩
  · exact hq.elim⟩
def qIfS (c : QT) (t u : QS) : QS := fun D q => c q fun b => if b = true then t D q else u D q
theorem qs_if (hc : QPT X K c tc qc) (ha : QPSs X K sa t qt) (hb : QPSs X K sb u qu) : QPS X K (.If c sa sb pos) (tIfS tc t u) (qIfS qc qt qu) := ⟨ps_if hc.h ha.h hb.h, fun dl H₀ hs H σ q Dq D ⟨F, r⟩ hq E =>
  hc.s dl H σ q _ _ r.rd hq fun b H' e1 hz => by
    cases b with
    | true => exact ha.s dl H₀ hs H' σ q Dq D ⟨F, r.evo e1⟩ hz E
    | false => exact hb.s dl H₀ hs H' σ q Dq D ⟨F, r.evo e1⟩ hz E⟩
def qSet (i : Nat) (qe : QE) : QS := fun D q => qe q fun t => D.nx (q.set i (.o t))
theorem Rel.putX {dl : Dl} {H₀ H H' : Hp} {hs : List (V × T)} {σ : St} {q : Sq} {F : Nat → List Addr} {i : Nat} {v : V} {t : T} {F' : List Addr} (r : Rel K dl H₀ hs H σ q F) (e : Evo dl H H') (hv : Rp K dl H' v t F') (hf : ∀ b ∈ F', H b = none) (hn : F'.Nodup) : RelX K dl H₀ hs H' (σ.set i (some v)) (q.set i (.o t)) := by
  by_cases hi : i < q.length
  · exact ⟨_, r.put hi e hv hf hn⟩
  · have hl := r.l
    rw [List.set_eq_of_length_le (by omega), List.set_eq_of_length_le (by omega)]
    exact ⟨F, r.evo e⟩
theorem sim_set {i : Nat} (he : SimF K te qe) : SimS K (tAsg te (gName i)) (qSet i qe) := fun dl H₀ hs H σ q Dq D ⟨F, r⟩ hq E => he dl H σ q _ _ r.rd hq fun v t F' H' e1 r1 f1 n1 hz => E.nx H' _ _ (r.putX e1 r1 f1 n1) hz
theorem qs_set {i : Nat} {x : Str} {pos' : Pos} (hN : X.N.Nodup) (hi : X.N[i]? = some x) (hx : Loc X.env.scope x) (he : QPF X K e te qe) (hs : swapsWith e (some (.Name x pos')) pos.line X.env = pure false := by rfl) (hf : X.fn x = true ∨ X.env.scope.names.lookup x = some .local := by first | exact .inl rfl | exact .inr rfl | assumption) :
    QPS X K (.Assign [.Name x pos'] e pos) (tAsg te (gName i)) (qSet i qe) := ⟨ps_set hN hi hx he.h hs hf, sim_set he.s⟩
end
end L2
namespace L2
open PySem PySem.Spec PyProof.Rows
abbrev PSp := List T → (T → Prop) → Prop
def spQ (K : PySem.W.Frag) (ps : PSp) : Sp := fun vs H Q _ => ∃ (dl : Dl) (ts : List T) (F : List Addr) (Qp : T → Prop), Dls dl H ∧ Rps K dl H vs ts F ∧ ps ts Qp ∧
  ∀ v t F' H', Evo dl H H' → Rp K dl H' v t F' → (∀ b ∈ F', H b = none) → F'.Nodup → Qp t → Q v H'
section
variable {X : Cx} {K : PySem.W.Frag} {e : Expr} {es : List Expr} {tl : TA} {ql : QA} {pos p : Pos} {x : Str} {k : Nat} {f : Addr} {fd : FuncData} {prs : List Str} {ps : PSp}
def qCall (ps : PSp) (ql : QA) : QE := fun q Q => ql q fun ts => ps ts Q
theorem sim_call {n : Nat} (ha : SimA K n tl ql) : SimF K (tCall (spQ K ps) [] E0 tl) (qCall ps ql) := fun dl H σ q Q R rd hq k => ha dl H σ q _ _ rd hq fun vs ts F H1 e1 r1 _ hz => by
  show spQ K ps (vs ++ []) H1 R E0
  rw [List.append_nil]
  exact ⟨dl, ts, F, Q, e1.d, r1, hz, fun v t F' H' e r f n hz => k v t F' H' (e1.trans e) r (fun b hb => e1.free (f b hb)) n hz⟩
theorem qe_call (F : FnOk X.prog X.w X.K X.mg X.base CX0 k f fd prs (spQ K ps)) (hr : Room k X.A) (hg : Gl X x) (hm : X.mg x = some (.ref f)) (hk : PySem.W.keepIn X.K (.ref f) = true) (hb : Binds X.K fd prs []) (ha : QPA X K (e :: es) tl ql)
    (hdb : (x == ("__debug__" : Str)) = false := by decide) (he : starEach (e :: es) X.env = (false, eval e X.env) :: starEach es X.env := by rfl) (hpl : (backTo pos (starEach es X.env)).any (·.1) = false := by rfl) :
    QPF X K (.Call (.Name x p) (e :: es) [] pos) (tCall (spQ K ps) [] E0 tl) (qCall ps ql) := ⟨pe_call F hr hg hm hk hb .nil pass0 ha.h hdb he hpl, sim_call ha.s⟩
end
theorem rel_start {K : PySem.W.Frag} {dl : Dl} {H : Hp} {vs : List V} {ts : List T} {F : List Addr} {n : Nat} (D : Dls dl H) (r : Rps K dl H vs ts F) (hn : vs.length ≤ n) : RelX K dl H [] H (vs.map some ++ List.replicate (n - vs.length) none) (ts.map Sl.r ++ List.replicate (n - vs.length) .no) := by
  have hl := r.r.len
  have main : ∀ {vs : List V} {ts : List T} {F : List Addr}, RepFs K dl H vs ts F → (∀ b ∈ F, Nd dl b) → ∃ Fs : Nat → List Addr, (∀ (i : Nat) (t : T), ts[i]? = some t → ∃ v, vs[i]? = some v ∧ Rp K dl H v t (Fs i)) ∧ ∀ i, ts.length ≤ i → Fs i = [] := by
    intro vs ts F h
    induction ts generalizing vs F with
    | nil => intro _; exact ⟨fun _ => [], fun i t e => by simp at e, fun _ _ => rfl⟩
    | cons t ts ih =>
      cases h with
      | @cons v0 _ vs0 _ F1 G1 h1 h2 =>
        intro hn
        obtain ⟨Fs, g1, g2⟩ := ih h2 fun b hb => hn b (List.mem_append_right _ hb)
        refine ⟨fun i => match i with | 0 => F1 | i + 1 => Fs i, fun i u e => ?_, fun i hi => ?_⟩
        · cases i with
          | zero =>
            simp at e
            subst e
            exact ⟨_, by simp, h1, fun b hb => hn b (List.mem_append_left _ hb)⟩
          | succ i =>
            obtain ⟨v, e1, e2⟩ := g1 i u (by simpa using e)
            exact ⟨v, by simpa using e1, e2⟩
        · cases i with
          | zero => simp at hi
          | succ i => exact g2 i (by simpa using hi)
  obtain ⟨Fs, g1, g2⟩ := main r.r r.n
  have lk : ∀ (i : Nat) (y : Sl), (ts.map Sl.r ++ List.replicate (n - vs.length) Sl.no)[i]? = some y → (∃ t, ts[i]? = some t ∧ y = .r t) ∨ (ts.length ≤ i ∧ y = .no) := fun i y h => by
    by_cases hi : i < ts.length
    · rw [List.getElem?_append_left (by simpa using hi), List.getElem?_map, List.getElem?_eq_getElem hi] at h
      exact .inl ⟨ts[i], by simp, (Option.some.inj h).symm⟩
    · rw [List.getElem?_append_right (by simpa using hi), List.getElem?_replicate] at h
      split at h
      · exact .inr ⟨by omega, (Option.some.inj h).symm⟩
      · cases h
  refine ⟨Fs, D, fun i y t h1 h2 => ?_, fun i y h1 h2 => ?_, fun i hi => ?_, fun i t h1 => ?_, fun p hp => (by cases hp), fun b o h _ => h, by simp [hl]⟩
  · rcases lk i y h1 with ⟨u, e, rfl⟩ | ⟨_, rfl⟩
    · cases h2
      obtain ⟨v, e1, e2⟩ := g1 i t e
      refine ⟨v, ?_, e2⟩
      have hi : i < vs.length := (List.getElem?_eq_some_iff.mp e1).1
      rw [List.getElem?_append_left (by simpa using hi), List.getElem?_map, e1]
      rfl
    · cases h2
  · rcases lk i y h1 with ⟨u, e, rfl⟩ | ⟨hi, rfl⟩
    · cases h2
    · exact g2 i hi
  · refine g2 i ?_
    simp at hi
    omega
  · rcases lk i _ h1 with ⟨u, e, z⟩ | ⟨_, z⟩ <;> cases z
theorem Fun.okQ {P : Program} {w : World} {K : PySem.W.Frag} {mg : Str → Option Value} {base : Heap} {x qual : Str} {st : Stmt} {f : Addr} {fd : FuncData} {N ps : List Str} {k : Nat} {psp : PSp} (F : Fun K x qual st f fd) (S : FnScope N ps (defScope st)) (len : ∀ ts Q, psp ts Q → ts.length = ps.length)
    (hbody : ∀ (cdv : Value) (A : Around) (outer : List Env) (s : Shared) (H : Hp) (E : XK), Room k (A.deeper (envOfC qual (defScope st) s.heap.objs.size f cdv)) →
      ∃ t qs, QPSs (cxOf CX0 P w K mg base N qual (defScope st) f cdv A outer s H E).nox K (defBody st) t qs ∧ ∀ ts Q, psp ts Q → qs { nx := fun _ => Q .n, rt := Q } (ts.map Sl.r ++ List.replicate (N.length - ts.length) .no)) : FnOk P w K mg base CX0 (k + 1) f fd ps (spQ K psp) := by
  have hPN : ps.length ≤ N.length := by have := congrArg List.length S.pre; rw [List.length_take] at this; omega
  refine F.ok S (fun vs H Q E h => ?_) (fun cdv A outer s H vs Q E hr h => ?_)
  · obtain ⟨dl, ts, F, Qp, _, r, h, _⟩ := h
    rw [r.r.len]; exact len ts Qp h
  · obtain ⟨dl, ts, Fp, Qp, D, r, h, fin⟩ := h
    obtain ⟨t, qs, hb, hq⟩ := hbody cdv A outer s H E hr
    refine ⟨t, hb.h, ?_⟩
    have hlen := len ts Qp h
    have hl := r.r.len
    have z := hq ts Qp h
    have R := rel_start (n := N.length) D r (by omega)
    rw [← hl] at z
    refine hb.s dl H [] H _ _ _ _ R z ⟨fun H' σ q ⟨F, r'⟩ hz => ?_, fun _ _ _ _ hz => hz.elim, fun _ _ _ _ hz => hz.elim, fun v t F H' D' r' f' n' fr hz => ?_⟩
    · exact fin .non .n [] H' ⟨r'.f, r'.d⟩ ⟨.n, fun _ z => nomatch z⟩ (fun _ z => nomatch z) List.nodup_nil hz
    · exact fin v t F H' ⟨fr, D'⟩ r' f' n' hz
end L2
namespace L2
open PySem PySem.Spec PyProof.Rows
structure ItOk (K : PySem.W.Frag) (dl : Dl) (J : It) (xs : List T) (hv : List (V × T)) : Prop where
  go : ∀ (H : Hp) (i : Nat), Dls dl H → (∀ p ∈ hv, ∃ F, Rp K dl H p.1 p.2 F) → i < xs.length → J.go i H
  yld : ∀ (H : Hp) (i : Nat) (x : T) (fp : V × T → List Addr) (v : V) (H' : Hp), Dls dl H → (∀ p ∈ hv, Rp K dl H p.1 p.2 (fp p)) → xs[i]? = some x → J.yld i H v H' → Evo dl H H' ∧ ∃ F, Rp K dl H' v x F ∧ ∀ b ∈ F, H b = none ∨ ∃ p ∈ hv, b ∈ fp p
  stop : ∀ (H : Hp), Dls dl H → (∀ p ∈ hv, ∃ F, Rp K dl H p.1 p.2 F) → J.stop xs.length H
section
variable {X : Cx} {K : PySem.W.Frag} {dl : Dl}
theorem it_list {a : Addr} {xs : List T} : ItOk K dl (Itl K a) xs [(.ref a, .l xs)] where
  go := fun H i D h hi => by
    obtain ⟨F, r⟩ := h _ (List.mem_singleton.mpr rfl)
    obtain ⟨p, vs, G, e, _, h1, h2⟩ := r.r.lst
    cases e
    exact ⟨vs, vs[i]'(by rw [h2.len]; exact hi), SqL.of h1, by simp [h2.len, hi]⟩
  yld := fun H i x fp v H' D h hx y => by
    have r := h _ (List.mem_singleton.mpr rfl)
    obtain ⟨p, vs, G, e, eF, h1, h2⟩ := r.r.lst
    cases e
    obtain ⟨rfl, y⟩ := y
    obtain ⟨w, G', hw, rw', hs⟩ := h2.get hx
    have e2 := y vs (SqL.of h1)
    rw [hw] at e2
    cases e2
    have sub : ∀ b ∈ G', b ∈ fp (V.ref a, T.l xs) := fun b hb => by
      rw [eF]
      exact List.mem_cons_of_mem _ (hs b hb)
    exact ⟨.refl D, G', ⟨rw', fun b hb => r.n b (sub b hb)⟩, fun b hb => .inr ⟨_, List.mem_singleton.mpr rfl, sub b hb⟩⟩
  stop := fun H D h => by
    obtain ⟨F, r⟩ := h _ (List.mem_singleton.mpr rfl)
    obtain ⟨p, vs, G, e, _, h1, h2⟩ := r.r.lst
    cases e
    exact ⟨vs, SqL.of h1, by rw [h2.len]; exact Nat.le_refl _⟩
theorem it_rng {lo : Int} {n : Nat} : ItOk K dl (Itr lo n) ((List.range n).map fun i => .i (lo + (i : Nat))) [] where
  go := fun H i D h hi => by
    show i < n
    simpa using hi
  yld := fun H i x fp v H' D h hx y => by
    obtain ⟨rfl, rfl⟩ := y
    rw [List.getElem?_map] at hx
    cases e : (List.range n)[i]? with
    | none => rw [e] at hx; cases hx
    | some j =>
      rw [e] at hx
      have hj : j = i := by
        have := List.getElem?_eq_some_iff.mp e
        obtain ⟨h1, h2⟩ := this
        simp at h2
        exact h2.symm
      subst hj
      cases hx
      exact ⟨.refl D, [], .c (.i _), fun _ z => nomatch z⟩
  stop := fun H D h => by show n ≤ _; simp
abbrev QI := Sq → (List T → Prop) → Prop
def SimI (K : PySem.W.Frag) (wi : TI) (iq : QI) : Prop := ∀ (dl : Dl) (H : Hp) (σ : St) (q : Sq) (Q : List T → Prop) (R : It → Hp → Prop), RdR K dl H σ q → iq q Q →
  (∀ xs J hv H', Evo dl H H' → ItOk K dl J xs hv → (∀ p ∈ hv, ∃ F, Rp K dl H' p.1 p.2 F) → Q xs → R J H') → wi σ H R
structure QPI (X : Cx) (K : PySem.W.Frag) (tg iter : Expr) (wi : TI) (iq : QI) : Prop where
  h : PI X tg iter wi
  s : SimI K wi iq
abbrev QJ := Sq → (List T → Sq → Prop) → Prop
def SimJ (K : PySem.W.Frag) (wi : TI) (iq : QJ) : Prop := ∀ (dl : Dl) (H₀ : Hp) (hs : List (V × T)) (H : Hp) (σ : St) (q : Sq) (Q : List T → Sq → Prop) (R : It → Hp → Prop), RelX K dl H₀ hs H σ q → iq q Q →
  (∀ xs J hv H' q', RelX K dl H₀ (hv ++ hs) H' σ q' → ItOk K dl J xs hv → Q xs q' → R J H') → wi σ H R
structure QPJ (X : Cx) (K : PySem.W.Frag) (tg iter : Expr) (wi : TI) (iq : QJ) : Prop where
  h : PI X tg iter wi
  s : SimJ K wi iq
variable {tg e a b : Expr} {te ta tb : TE} {qe qa qb : QE} {tl : TA} {ql : QA} {pos p : Pos}
theorem pi_listK (hK : X.K = K) (h : PE X e te) : PI X tg e (iList K te) := by subst hK; exact pi_list h
def asL (qe : QE) : QI := fun q Q => qe q fun t => match t with | .l xs => Q xs | _ => False
theorem qi_list (h : QPE X K e te qe) (hK : X.K = K := by rfl) : QPI X K tg e (iList K te) (asL qe) := ⟨pi_listK hK h.h, fun dl H σ q Q R rd hq k => h.s dl H σ q _ _ rd hq fun v t F H' e1 r hz => by
  split at hz
  · obtain ⟨p, vs, G, rfl, rfl, h1, h2⟩ := r.r.lst
    exact ⟨p, rfl, ⟨vs, SqL.of h1⟩, k _ _ _ H' e1 it_list (fun p hp => by rw [List.mem_singleton.mp hp]; exact ⟨_, r⟩) hz⟩
  · exact hz.elim⟩
def rngT (lo : Int) (n : Nat) : List T := (List.range n).map fun i => .i (lo + (i : Nat))
theorem rng_at {lo : Int} {n i : Nat} {x : T} (h : (rngT lo n)[i]? = some x) : x = .i (lo + (i : Nat)) ∧ i < n := by
  unfold rngT at h
  rw [List.getElem?_map] at h
  obtain ⟨j, hj, rfl⟩ := Option.map_eq_some_iff.mp h
  obtain ⟨h1, h2⟩ := List.getElem?_eq_some_iff.mp hj
  simp at h1 h2
  subst h2
  exact ⟨rfl, h1⟩
theorem rng_len {lo : Int} {n : Nat} : (rngT lo n).length = n := by simp [rngT]
def asR1 (ql : QA) : QI := fun q Q => ql q fun ts => match ts with | [.i n] => -(2 ^ 62) ≤ n ∧ n < 2 ^ 62 ∧ Q (rngT 0 n.toNat) | _ => False
theorem qi_range1 (hg : Gl X "range") (hm : X.mg "range" = none) (ha : QPA X K [a] tl ql) (hs : starEach [a] X.env = [(false, eval a X.env)] := by rfl) : QPI X K tg (.Call (.Name "range" p) [a] [] pos) (iRng1 tl) (asR1 ql) := ⟨pi_range1 hg hm ha.h hs, fun dl H σ q Q R rd hq k => ha.s dl H σ q _ _ rd hq fun vs ts F H' e1 r _ hz => by
  split at hz
  · obtain ⟨v, rfl, r'⟩ := r.one
    obtain ⟨rfl, _⟩ := r'.r.int
    exact ⟨_, rfl, hz.1, hz.2.1, k _ _ [] H' e1 it_rng (fun _ z => nomatch z) hz.2.2⟩
  · exact hz.elim⟩
def asJ (iq : QI) : QJ := fun q Q => iq q fun xs => Q xs q
theorem qj_range1 (hg : Gl X "range") (hm : X.mg "range" = none) (ha : QPA X K [a] tl ql) (hs : starEach [a] X.env = [(false, eval a X.env)] := by rfl) : QPJ X K tg (.Call (.Name "range" p) [a] [] pos) (iRng1 tl) (asJ (asR1 ql)) := ⟨pi_range1 hg hm ha.h hs, fun dl H₀ hs H σ q Q R ⟨F0, r0⟩ hq k => ha.s dl H σ q _ _ r0.rd hq fun vs ts F H' e1 r _ hz => by
  split at hz
  · obtain ⟨v, rfl, r'⟩ := r.one
    obtain ⟨rfl, _⟩ := r'.r.int
    exact ⟨_, rfl, hz.1, hz.2.1, k _ _ [] H' q ⟨F0, r0.evo e1⟩ it_rng hz.2.2⟩
  · exact hz.elim⟩
inductive Tg where
  | nm (i : Nat) | tp (is : List Nat)
def putS (q : Sq) : List Nat → List T → Option Sq
  | [], [] => some q
  | i :: is, x :: xs => if i < q.length then putS (q.set i (.r x)) is xs else none
  | _, _ => none
def Tg.put (g : Tg) (x : T) (q : Sq) : Option Sq := match g with
  | .nm i => if i < q.length then some (q.set i (.r x)) else none
  | .tp is => match x with | .t xs => putS q is xs | _ => none
def gNames : List Nat → TGs
  | [] => gNil
  | i :: is => gCons (gName i) (gNames is)
def Tg.h (K : PySem.W.Frag) : Tg → TG
  | .nm i => gName i
  | .tp is => gTup K is.length (gNames is)
theorem rel_names {H₀ H : Hp} {hs : List (V × T)} : ∀ {is : List Nat} {vs : List V} {xs : List T} {G : List Addr} {σ : St} {q q' : Sq} {F : Nat → List Addr} {R : St → Hp → Prop}, Rel K dl H₀ hs H σ q F → RepFs K dl H vs xs G → (∀ b ∈ G, Nd dl b) →
    (∀ (j : Nat) (u : T), q[j]? = some (.o u) → ∀ b ∈ F j, b ∉ G) → putS q is xs = some q' → (∀ σ', RelX K dl H₀ hs H σ' q' → R σ' H) → gNames is vs σ H R
  | [], vs, xs, G, σ, q, q', F, R, r, rs, _, _, hp, k => by
    cases xs with
    | cons _ _ => cases hp
    | nil =>
      cases rs
      cases hp
      exact ⟨rfl, k σ ⟨F, r⟩⟩
  | i :: is, vs, xs, G, σ, q, q', F, R, r, rs, hn, ho, hp, k => by
    cases xs with
    | nil => cases hp
    | cons x xs =>
      cases rs with
      | cons r1 r2 =>
        unfold putS at hp
        by_cases hi : i < q.length
        · rw [if_pos hi] at hp
          refine ⟨_, _, rfl, ?_⟩
          have r' := r.putR hi ⟨r1, fun b hb => hn b (List.mem_append_left _ hb)⟩ fun j u hj _ b hb z => ho j u hj b hb (List.mem_append_left _ z)
          refine rel_names r' r2 (fun b hb => hn b (List.mem_append_right _ hb)) (fun j u hj b hb z => ?_) hp k
          rcases get_set hj with ⟨_, z', _⟩ | ⟨ne, hj⟩
          · cases z'
          · rw [setF_ne ne] at hb
            exact ho j u hj b hb (List.mem_append_right _ z)
        · rw [if_neg hi] at hp; cases hp
theorem rel_tg {H₀ H : Hp} {hs : List (V × T)} {g : Tg} {v : V} {x : T} {G : List Addr} {σ : St} {q q' : Sq} {F : Nat → List Addr} {R : St → Hp → Prop} (r : Rel K dl H₀ hs H σ q F) (rx : Rp K dl H v x G)
    (ho : ∀ (j : Nat) (u : T), q[j]? = some (.o u) → ∀ b ∈ F j, b ∉ G) (hp : g.put x q = some q') (k : ∀ σ', RelX K dl H₀ hs H σ' q' → R σ' H) : g.h K v σ H R := by
  cases g with
  | nm i =>
    replace hp : (if i < q.length then some (q.set i (.r x)) else none) = some q' := hp
    by_cases hi : i < q.length
    · rw [if_pos hi] at hp
      cases hp
      exact k _ ⟨_, r.putR hi rx fun j u hj _ => ho j u hj⟩
    · rw [if_neg hi] at hp; cases hp
  | tp is =>
    cases x with
    | t xs =>
      replace hp : putS q is xs = some q' := hp
      obtain ⟨p, vs, rfl, h1, h2⟩ := rx.r.tup
      have hl : ∀ {is : List Nat} {xs : List T} {q q' : Sq}, putS q is xs = some q' → xs.length = is.length := fun {is} => by
        induction is with
        | nil => intro xs q q' h; cases xs with
          | nil => rfl
          | cons _ _ => cases h
        | cons i is ih => intro xs q q' h; cases xs with
          | nil => cases h
          | cons x xs =>
            unfold putS at h
            by_cases hi : i < q.length
            · rw [if_pos hi] at h; simp [ih h]
            · rw [if_neg hi] at h; cases h
      exact ⟨p, vs, rfl, SqT.of h1, by rw [h2.len]; exact hl hp, rel_names r h2 rx.n ho hp k⟩
    | _ => cases hp
end
end L2
namespace L2
open PySem PySem.Spec PyProof.Rows
section
variable {X : Cx} {K : PySem.W.Frag} {dl : Dl} {H₀ H : Hp} {hs : List (V × T)} {σ : St} {q : Sq} {F : Nat → List Addr}
theorem Rel.unholds {hv : List (V × T)} (r : Rel K dl H₀ (hv ++ hs) H σ q F) : Rel K dl H₀ hs H σ q F := ⟨r.d, r.g, r.n, r.z, r.o, fun p hp => r.h p (List.mem_append_right _ hp), r.f, r.l⟩
theorem Rel.fps {hv : List (V × T)} (r : Rel K dl H₀ (hv ++ hs) H σ q F) : ∃ fp : V × T → List Addr, ∀ p ∈ hv, Rp K dl H p.1 p.2 (fp p) ∧ ∀ (i : Nat) (t : T), q[i]? = some (.o t) → ∀ b ∈ F i, b ∉ fp p := by
  classical
  refine ⟨fun p => if h : p ∈ hv then (r.h p (List.mem_append_left _ h)).choose else [], fun p hp => ?_⟩
  have z := (r.h p (List.mem_append_left _ hp)).choose_spec
  simp only [dif_pos hp]
  exact z
def qFor (iq : QJ) (g : Tg) (qb : QS) : QS := fun D q => iq q fun xs q0 => ∃ I : Nat → Sq → Prop, I 0 q0 ∧ (∀ i x q, xs[i]? = some x → I i q → ∃ q', g.put x q = some q' ∧ qb { D with nx := I (i + 1), ct := I (i + 1), bk := D.nx } q') ∧ ∀ q, I xs.length q → D.nx q
theorem qs_for {tg iter : Expr} {body : List Stmt} {wi : TI} {iq : QJ} {g : Tg} {tb : TS} {qb : QS} {pos : Pos} (hp : PassesOwn (model X.prog X.w) X.A X.env X.xe) (hc : X.calm = true) (hi : QPJ X K tg iter wi iq) (hg : PG X tg (g.h K)) (hb : QPSs X K body tb qb)
    (hs : ∀ x, foldedSetIterable iter X.env x = pure x := by intro _; rfl) : QPS X K (.For tg iter body [] pos) (tFor wi (g.h K) tb) (qFor iq g qb) := ⟨ps_for hp hc hi.h hg hb.h hs, fun dl H₀ hs H σ q Dq D r hq E => by
  refine hi.s dl H₀ hs H σ q _ _ r hq fun xs J hv H1 q1 r1 it hz => ?_
  obtain ⟨I, i0, turn, fin⟩ := hz
  refine ⟨fun i m σ H => m = xs.length - i ∧ i ≤ xs.length ∧ ∃ q, RelX K dl H₀ (hv ++ hs) H σ q ∧ I i q, ⟨xs.length, by simp, Nat.zero_le _, q1, r1, i0⟩, ?_⟩
  rintro i m σ H ⟨rfl, hi', q, ⟨F, r⟩, hI⟩
  have held : ∀ p ∈ hv, ∃ F, Rp K dl H p.1 p.2 F := fun p hp => let ⟨Fp, h, _⟩ := r.h p (List.mem_append_left _ hp); ⟨Fp, h⟩
  by_cases hlt : i < xs.length
  · refine .inr ⟨it.go H i r.d held hlt, fun σ' H' => ∃ q, RelX K dl H₀ (hv ++ hs) H' σ' q ∧ I (i + 1) q, fun σ' H' h => ⟨xs.length - (i + 1), by omega, rfl, hlt, h⟩, fun v H' y => ?_⟩
    obtain ⟨fp, hfp⟩ := r.fps
    have hx : xs[i]? = some xs[i] := by simp [hlt]
    obtain ⟨e1, G, rx, hG⟩ := it.yld H i xs[i] fp v H' r.d (fun p hp => (hfp p hp).1) hx y
    obtain ⟨q', hq', hz⟩ := turn i xs[i] q hx hI
    refine rel_tg (r.evo e1) rx (fun j u hj b hb z => ?_) hq' fun σ2 r2 => hb.s dl H₀ (hv ++ hs) H' σ2 q' _ _ r2 hz ⟨fun H σ q r n => ⟨q, r, n⟩, fun H σ q ⟨F, r⟩ n => E.nx H σ q ⟨F, r.unholds⟩ n, fun H σ q r n => ⟨q, r, n⟩, E.rt⟩
    rcases hG b z with h | ⟨p, hp, h⟩
    · exact (r.thereF hb).no h
    · exact (hfp p hp).2 j u hj b hb h
  · have e : i = xs.length := by omega
    subst e
    exact .inl ⟨it.stop H r.d held, E.nx H σ q ⟨F, r.unholds⟩ (fin q hI)⟩⟩
def captQ (cap : List (Option Nat)) (q : Sq) : Sq := cap.map fun o => match o with
  | none => .no
  | some i => match q[i]? with
    | some (.o t) => .r t
    | some (.r t) => .r t
    | _ => .no
theorem rd_capt {cap : List (Option Nat)} (r : RdR K dl H σ q) : RdR K dl H (capt cap σ) (captQ cap q) := ⟨r.d, fun j x t h1 h2 => by
  unfold captQ at h1
  rw [List.getElem?_map] at h1
  cases e : cap[j]? with
  | none => rw [e] at h1; cases h1
  | some o =>
    rw [e] at h1
    cases o with
    | none => cases h1; cases h2
    | some i =>
      have go : ∀ y : Sl, q[i]? = some y → y.get = some t → ∃ v F, (capt cap σ)[j]? = some (some v) ∧ Rp K dl H v t F := fun y hy ht => by
        obtain ⟨v, F, h3, h4⟩ := r.g i y t hy ht
        refine ⟨v, F, ?_, h4⟩
        unfold capt
        rw [List.getElem?_map, e]
        show some ((σ[i]?).join) = _
        rw [h3]
        rfl
      replace h1 : (match q[i]? with | some (.o t) => Sl.r t | some (.r t) => .r t | _ => .no) = x := Option.some.inj h1
      split at h1
      · rename_i u eq; subst h1; cases h2; exact go _ eq rfl
      · rename_i u eq; subst h1; cases h2; exact go _ eq rfl
      · subst h1; cases h2⟩
theorem RdR.set {i : Nat} {v : V} {x : T} {G : List Addr} (r : RdR K dl H σ q) (hl : i < σ.length) (rx : Rp K dl H v x G) : RdR K dl H (σ.set i (some v)) (q.set i (.r x)) := ⟨r.d, fun j y t h1 h2 => by
  rcases get_set h1 with ⟨rfl, rfl, _⟩ | ⟨ne, h1⟩
  · cases h2
    exact ⟨v, G, by rw [List.getElem?_set_self hl], rx⟩
  · obtain ⟨w, F, h3, h4⟩ := r.g j y t h1 h2
    exact ⟨w, F, by rw [List.getElem?_set_ne (fun z => ne z.symm)]; exact h3, h4⟩⟩
theorem RdR.any {i : Nat} {o : Option V} (r : RdR K dl H σ q) (hn : q[i]? = some .no) : RdR K dl H (σ.set i o) q := ⟨r.d, fun j y t h1 h2 => by
  obtain ⟨w, F, h3, h4⟩ := r.g j y t h1 h2
  refine ⟨w, F, ?_, h4⟩
  rw [List.getElem?_set_ne]
  · exact h3
  · intro z
    subst z
    rw [hn] at h1
    cases h1
    cases h2⟩
def Tg.ixs : Tg → List Nat
  | .nm i => [i]
  | .tp is => is
theorem rd_names : ∀ {is : List Nat} {vs : List V} {xs : List T} {G : List Addr} {σ : St} {q q0 q' : Sq} {R : St → Hp → Prop}, RdR K dl H σ q → RdR K dl H σ q0 → σ.length = q.length → RepFs K dl H vs xs G → (∀ b ∈ G, Nd dl b) → (∀ i ∈ is, q0[i]? = some .no) → putS q is xs = some q' →
    (∀ σ', RdR K dl H σ' q' → RdR K dl H σ' q0 → σ'.length = σ.length → R σ' H) → gNames is vs σ H R
  | [], vs, xs, G, σ, q, q0, q', R, r, r0, _, rs, _, _, hp, k => by
    cases xs with
    | cons _ _ => cases hp
    | nil =>
      cases rs
      cases hp
      exact ⟨rfl, k σ r r0 rfl⟩
  | i :: is, vs, xs, G, σ, q, q0, q', R, r, r0, hl, rs, hn, hf, hp, k => by
    cases xs with
    | nil => cases hp
    | cons x xs =>
      cases rs with
      | cons r1 r2 =>
        unfold putS at hp
        by_cases hi : i < q.length
        · rw [if_pos hi] at hp
          refine ⟨_, _, rfl, ?_⟩
          refine rd_names (r.set (by omega) ⟨r1, fun b hb => hn b (List.mem_append_left _ hb)⟩) (r0.any (hf i List.mem_cons_self)) (by simp [hl]) r2 (fun b hb => hn b (List.mem_append_right _ hb)) (fun j hj => hf j (List.mem_cons_of_mem _ hj)) hp fun σ' a b c => k σ' a b (by simpa using c)
        · rw [if_neg hi] at hp; cases hp
theorem putS_len : ∀ {is : List Nat} {xs : List T} {q q' : Sq}, putS q is xs = some q' → xs.length = is.length
  | [], [], _, _, _ => rfl
  | [], _ :: _, _, _, h => by cases h
  | _ :: _, [], _, _, h => by cases h
  | i :: is, x :: xs, q, q', h => by
    unfold putS at h
    by_cases hi : i < q.length
    · rw [if_pos hi] at h; simp [putS_len h]
    · rw [if_neg hi] at h; cases h
theorem rd_tg {g : Tg} {v : V} {x : T} {G : List Addr} {q' : Sq} {R : St → Hp → Prop} (r : RdR K dl H σ q) (hl : σ.length = q.length) (rx : Rp K dl H v x G) (hf : ∀ i ∈ g.ixs, q[i]? = some .no) (hp : g.put x q = some q')
    (k : ∀ σ', RdR K dl H σ' q' → RdR K dl H σ' q → σ'.length = σ.length → R σ' H) : g.h K v σ H R := by
  cases g with
  | nm i =>
    replace hp : (if i < q.length then some (q.set i (.r x)) else none) = some q' := hp
    by_cases hi : i < q.length
    · rw [if_pos hi] at hp
      cases hp
      exact k _ (r.set (by omega) rx) (r.any (hf i (List.mem_singleton.mpr rfl))) (by simp)
    · rw [if_neg hi] at hp; cases hp
  | tp is =>
    cases x with
    | t xs =>
      replace hp : putS q is xs = some q' := hp
      obtain ⟨p, vs, rfl, h1, h2⟩ := rx.r.tup
      exact ⟨p, vs, rfl, SqT.of h1, by rw [h2.len]; exact putS_len hp, rd_names r r hl h2 rx.n hf hp k⟩
    | _ => cases hp
def qTst0 : QT := fun _ Q => Q true
theorem sim_tst0 : SimT K tTst0 qTst0 := fun dl H σ q Q R rd hq k => k true H (.refl rd.d) hq
def qComp (cap : List (Option Nat)) (iq : QI) (g : Tg) (tst : QT) (qe : QE) : QE := fun q Q => iq q fun xs => xs.length < sizeLine ∧ ∃ I : Nat → List T → Prop, I 0 [] ∧
  (∀ i x ys, xs[i]? = some x → I i ys → ∃ q', g.put x (captQ cap q) = some q' ∧ tst q' fun b => if b = true then qe q' fun y => I (i + 1) (ys ++ [y]) else I (i + 1) ys) ∧ ∀ ys, I xs.length ys → Q (.l ys)
theorem sim_comp {cap : List (Option Nat)} {wi : TI} {iq : QI} {g : Tg} {tst : TT} {qtst : QT} {te : TE} {qe : QE} (hi : SimI K wi iq) (ht : SimT K tst qtst) (he : SimF K te qe) (hf : (g.ixs.all fun i => cap[i]? == some none) = true) : SimF K (tComp cap wi (g.h K) tst te) (qComp cap iq g qtst qe) := by
  intro dl H σ q Q R rd hq k
  refine hi dl H σ q _ _ rd hq fun xs J hv H1 e1 it held hz => ?_
  obtain ⟨hlen, I, i0, turn, fin⟩ := hz
  have rd1 := rd_capt (cap := cap) (rd.evo e1)
  have hno : ∀ i ∈ g.ixs, (captQ cap q)[i]? = some .no := fun i hi => by
    have z := List.all_eq_true.mp hf i hi
    have z : cap[i]? = some none := by simpa using z
    unfold captQ
    rw [List.getElem?_map, z]
    rfl
  have hcl : (capt cap σ).length = (captQ cap q).length := by simp [capt, captQ]
  refine ⟨fun i m vs σ' H' => m = xs.length - i ∧ i ≤ xs.length ∧ ∃ ts F, Evo dl H1 H' ∧ RdR K dl H' σ' (captQ cap q) ∧ σ'.length = (captQ cap q).length ∧ (∀ p ∈ hv, ∃ F, Rp K dl H' p.1 p.2 F) ∧ Rps K dl H' vs ts F ∧ (∀ b ∈ F, H b = none) ∧ F.Nodup ∧ vs.length ≤ i ∧ I i ts,
    ⟨xs.length, by simp, Nat.zero_le _, [], [], .refl e1.d, rd1, hcl, held, ⟨.nil, fun _ z => nomatch z⟩, (fun _ z => nomatch z), List.nodup_nil, Nat.le_refl _, i0⟩, ?_⟩
  rintro i m vs σ' H' ⟨rfl, hi', ts, F, e2, rd2, hl2, held2, rs, fr, nd, hvl, hI⟩
  by_cases hlt : i < xs.length
  · refine .inr ⟨it.go H' i e2.d held2 hlt, by omega, fun vs2 σ2 H2 => ∃ ts F, Evo dl H1 H2 ∧ RdR K dl H2 σ2 (captQ cap q) ∧ σ2.length = (captQ cap q).length ∧ (∀ p ∈ hv, ∃ F, Rp K dl H2 p.1 p.2 F) ∧ Rps K dl H2 vs2 ts F ∧ (∀ b ∈ F, H b = none) ∧ F.Nodup ∧ vs2.length ≤ i + 1 ∧ I (i + 1) ts,
      fun vs2 σ2 H2 h => ⟨xs.length - (i + 1), by omega, rfl, hlt, h⟩, fun v H2 y => ?_⟩
    have hx : xs[i]? = some xs[i] := by simp [hlt]
    obtain ⟨fp, hfp⟩ : ∃ fp : V × T → List Addr, ∀ p ∈ hv, Rp K dl H' p.1 p.2 (fp p) := by
      classical
      refine ⟨fun p => if h : p ∈ hv then (held2 p h).choose else [], fun p hp => ?_⟩
      simp only [dif_pos hp]
      exact (held2 p hp).choose_spec
    obtain ⟨e3, G, rx, hG⟩ := it.yld H' i xs[i] fp v H2 e2.d hfp hx y
    obtain ⟨q', hq', hz⟩ := turn i xs[i] ts hx hI
    have held3 : ∀ {H3 : Hp}, Evo dl H' H3 → ∀ p ∈ hv, ∃ F, Rp K dl H3 p.1 p.2 F := fun {H3} e p hp => let ⟨F, r⟩ := held2 p hp; ⟨F, r.evo e2.d e⟩
    refine rd_tg (rd2.evo e3) hl2 rx hno hq' fun σ3 r3 r30 l3 => ?_
    refine ht dl H2 σ3 q' _ _ r3 hz fun b H4 e4 hz => ?_
    cases b with
    | false => exact ⟨ts, F, (e2.trans e3).trans e4, r30.evo e4, by omega, held3 (e3.trans e4), (rs.evo e2.d e3).evo e3.d e4, fr, nd, by omega, hz⟩
    | true =>
      refine he dl H4 σ3 q' _ _ (r3.evo e4) hz fun w t G' H5 e5 rw' f5 n5 hz => ?_
      have E := (e2.trans e3).trans (e4.trans e5)
      have rs5 := ((rs.evo e2.d e3).evo e3.d (e4.trans e5))
      refine ⟨ts ++ [t], F ++ (G' ++ []), E, r30.evo (e4.trans e5), by omega, held3 (e3.trans (e4.trans e5)), ⟨rs5.r.append (.cons rw'.r .nil), fun b hb => ?_⟩, fun b hb => ?_, ?_, by simp; omega, hz⟩
      · rcases List.mem_append.mp hb with hb | hb
        · exact rs.n b hb
        · rw [List.append_nil] at hb; exact rw'.n b hb
      · rcases List.mem_append.mp hb with hb | hb
        · exact fr b hb
        · rw [List.append_nil] at hb
          exact ((e1.trans e2).trans (e3.trans e4)).free (f5 b hb)
      · rw [List.append_nil]
        refine List.nodup_append.mpr ⟨nd, n5, fun x hx y hy exy => ?_⟩
        subst exy
        have rs4 := (rs.evo e2.d e3).evo e3.d e4
        exact There.no (rs4.r.there x hx) (f5 x hy)
  · have e : i = xs.length := by omega
    subst e
    refine .inl ⟨it.stop H' e2.d held2, by omega, fun D hD => ?_⟩
    exact k _ _ _ _ ((e1.trans e2).new hD) (rs.lst e2.d hD) (fun b hb => by
      rcases List.mem_cons.mp hb with e | hb
      · rw [e]; exact (e1.trans e2).free hD
      · exact fr b hb) (rs.fresh hD nd) (fin ts hI)
structure QB (X : Cx) (K : PySem.W.Frag) (N' : List Str) (sc : Scope) (tg : Expr) (g : Tg) (ifs : List Expr) (tst : TT) (qtst : QT) (elt : Expr) (te : TE) (qe : QE) : Prop where
  b : ∀ cl C s₂ H₂ fp, PG (blk X N' sc cl C s₂ H₂ fp) tg (g.h K) ∧ PTs (blk X N' sc cl C s₂ H₂ fp) ifs tst ∧ PE (blk X N' sc cl C s₂ H₂ fp) elt te
  t : SimT K tst qtst
  e : SimF K te qe
theorem qb_mk0 {N' : List Str} {sc : Scope} {tg elt : Expr} {g : Tg} {te : TE} {qe : QE} (h : ∀ cl C s₂ H₂ fp, PG (blk X N' sc cl C s₂ H₂ fp) tg (g.h K) ∧ QPF (blk X N' sc cl C s₂ H₂ fp) K elt te qe) : QB X K N' sc tg g [] tTst0 qTst0 elt te qe :=
  ⟨fun cl C s₂ H₂ fp => ⟨(h cl C s₂ H₂ fp).1, pts_nil, (h cl C s₂ H₂ fp).2.h⟩, sim_tst0, (h [] 0 X.s₀ (fun _ => none) []).2.s⟩
theorem qe_comp {tg iter elt : Expr} {ifs : List Expr} {sc : Scope} {pos : Pos} {N' : List Str} {cap : List (Option Nat)} {wi : TI} {iq : QI} {g : Tg} {tst : TT} {qtst : QT} {te : TE} {qe : QE} (hc : X.calm = true) (hi : QPI X K tg iter wi iq) (hcap : Caps X sc N' cap) (hb : QB X K N' sc tg g ifs tst qtst elt te qe)
    (hf : (g.ixs.all fun i => cap[i]? == some none) = true := by rfl)
    (hkind : sc.kind = .function := by rfl) (hcell : ∀ y ∈ sc.names, y.2 ≠ .cell := by decide) (hnames : ∀ y ∈ sc.names, y.2 = .local → sc.names.lookup y.1 = some .local := by decide)
    (hfree : (sc.names.all fun y => y.2 != .free || (X.env.kindOf y.1 == some .cell || X.env.kindOf y.1 == some .free)) = true := by rfl)
    (hs : ∀ x, foldedSetIterable iter X.env x = pure x := by intro _; rfl) : QPF X K (.ListComp elt [⟨tg, iter, ifs, 0⟩] sc pos) (tComp cap wi (g.h K) tst te) (qComp cap iq g qtst qe) :=
  ⟨pe_comp hc hi.h hcap hb.b hkind hcell hnames hfree hs, sim_comp hi.s hb.t hb.e hf⟩
theorem qs_comp {i : Nat} {y : Str} {tg iter elt : Expr} {ifs : List Expr} {sc : Scope} {pos spos py : Pos} {N' : List Str} {cap : List (Option Nat)} {wi : TI} {iq : QI} {g : Tg} {tst : TT} {qtst : QT} {te : TE} {qe : QE} (hN : X.N.Nodup) (hi' : X.N[i]? = some y) (hy : Loc X.env.scope y)
    (hc : X.calm = true) (hi : QPI X K tg iter wi iq) (hcap : Caps X sc N' cap) (hb : QB X K N' sc tg g ifs tst qtst elt te qe)
    (hf' : (g.ixs.all fun i => cap[i]? == some none) = true := by rfl)
    (hsw : swapsWith (.ListComp elt [⟨tg, iter, ifs, 0⟩] sc pos) (some (.Name y py)) spos.line X.env = pure true := by rfl)
    (hf : X.fn y = true ∨ X.env.scope.names.lookup y = some .local := by first | exact .inl rfl | exact .inr rfl | assumption)
    (hkind : sc.kind = .function := by rfl) (hcell : ∀ y ∈ sc.names, y.2 ≠ .cell := by decide) (hnames : ∀ y ∈ sc.names, y.2 = .local → sc.names.lookup y.1 = some .local := by decide)
    (hfree : (sc.names.all fun y => y.2 != .free || (X.env.kindOf y.1 == some .cell || X.env.kindOf y.1 == some .free)) = true := by rfl)
    (hs : ∀ x, foldedSetIterable iter X.env x = pure x := by intro _; rfl) : QPS X K (.Assign [.Name y py] (.ListComp elt [⟨tg, iter, ifs, 0⟩] sc pos) spos) (tAsg (tComp cap wi (g.h K) tst te) (gName i)) (qSet i (qComp cap iq g qtst qe)) :=
  ⟨ps_comp hN hi' hy hc hi.h hcap hb.b hsw hf hkind hcell hnames hfree hs, sim_set (sim_comp hi.s hb.t hb.e hf')⟩
end
end L2
namespace L2
open PySem PySem.Spec PyProof.Rows
section
variable {X : Cx} {K : PySem.W.Frag} {dl : Dl} {H₀ H : Hp} {hs : List (V × T)} {σ : St} {q : Sq} {F : Nat → List Addr} {e o : Expr} {te : TE} {qe : QE} {pos apos cpos : Pos}
mutual
theorem RepF.uniq : ∀ {v : V} {t : T} {F F' : List Addr}, RepF K dl H v t F → RepF K dl H v t F' → F = F'
  | _, _, _, _, .n, h => by cases h; rfl
  | _, _, _, _, .b _, h => by cases h; rfl
  | _, _, _, _, .i _, h => by cases h; rfl
  | _, _, _, _, .s _, h => by cases h; rfl
  | _, _, _, _, .ty _, h => by cases h; rfl
  | _, _, _, _, .x _, h => by cases h; rfl
  | _, _, _, _, .z _, h => by cases h; rfl
  | _, _, _, _, .k _, h => by cases h; rfl
  | _, _, _, _, .q _, h => by cases h; rfl
  | _, _, _, _, .fd _ _, h => by cases h; rfl
  | _, _, _, _, .e _ _, h => by cases h; rfl
  | _, _, _, _, .t h1 r1, h => by
    cases h with
    | t h2 r2 =>
      rw [h1] at h2
      cases h2
      exact RepFs.uniq r1 r2
  | _, _, _, _, .l h1 r1, h => by
    cases h with
    | l h2 r2 =>
      rw [h1] at h2
      cases h2
      rw [RepFs.uniq r1 r2]
  | _, _, _, _, .d h1 r1, h => by
    cases h with
    | d h2 r2 =>
      rw [h1] at h2
      cases h2
      rw [RepFk.uniq r1 r2]
theorem RepFs.uniq : ∀ {v : List V} {t : List T} {F F' : List Addr}, RepFs K dl H v t F → RepFs K dl H v t F' → F = F'
  | _, _, _, _, .nil, h => by cases h; rfl
  | _, _, _, _, .cons h1 r1, h => by
    cases h with
    | cons h2 r2 => rw [RepF.uniq h1 h2, RepFs.uniq r1 r2]
theorem RepFk.uniq : ∀ {v : List (Key × V)} {t : List (Key × T)} {F F' : List Addr}, RepFk K dl H v t F → RepFk K dl H v t F' → F = F'
  | _, _, _, _, .nil, h => by cases h; rfl
  | _, _, _, _, .cons h1 r1, h => by
    cases h with
    | cons h2 r2 => rw [RepF.uniq h1 h2, RepFk.uniq r1 r2]
end
theorem Rel.heldOut {H' : Hp} (r : Rel K dl H₀ hs H σ q F) (e : Evo dl H H') {p : V × T} (hp : p ∈ hs) {Fp : List Addr} (h : Rp K dl H' p.1 p.2 Fp) {b : Addr} (hb : H b = none) : b ∉ Fp := fun z => by
  obtain ⟨Fq, h1, _⟩ := r.h p hp
  have e1 := (h1.evo r.d e).r.uniq h.r
  subst e1
  exact There.no (h1.r.there b z) hb
theorem Rel.relist {i : Nat} {p : Addr} {ws : List V} {xs ys : List T} {G G' : List Addr} {H' : Hp} (r : Rel K dl H₀ hs H σ q F) (hi : q[i]? = some (.o (.l xs))) (hv : σ[i]? = some (some (.ref p))) (hF : F i = p :: G) (e : Evo dl H H')
    (rs : RepFs K dl H' ws ys G') (hn : G'.Nodup) (hG : ∀ b ∈ G', b ∈ G ∨ (H b = none ∧ Nd dl b)) : RelX K dl H₀ hs (upd H' p (.lst ws)) σ (q.set i (.o (.l ys))) := by
  have r' := r.evo e
  obtain ⟨o1, o2, o3⟩ := r.o i _ hi
  obtain ⟨v', hv', rp⟩ := r'.g i _ _ hi rfl
  rw [hv] at hv'
  cases hv'
  obtain ⟨p2, vs2, G2, e2, eF, h1, h2⟩ := rp.r.lst
  cases e2
  rw [hF] at eF
  cases eF
  rw [hF] at o1
  have pG : p ∉ G := (List.nodup_cons.mp o1).1
  have pth : There H p := r.thereF (i := i) (by rw [hF]; exact List.mem_cons_self)
  have pG' : p ∉ G' := fun z => by
    rcases hG p z with z | z
    · exact pG z
    · exact pth.no z.1
  have pn : Nd dl p := rp.n p (by rw [hF]; exact List.mem_cons_self)
  have tf : TF H' (upd H' p (.lst ws)) := ⟨fun a us h => (by
    rw [upd_ne]; exact h
    intro z; subst z
    rw [h] at h1; cases h1), fun a ob u h => (by
    rw [upd_ne]; exact h
    intro z; subst z
    rw [h] at h1; cases h1), fun a φ h => (by
    rw [upd_ne]; exact h
    intro z; subst z
    rw [h] at h1; cases h1), fun a xs' h => (by
    by_cases z : a = p
    · subst z
      exact ⟨_, upd_same⟩
    · exact ⟨xs', by rw [upd_ne z]; exact h⟩)⟩
  have rs2 : RepFs K dl (upd H' p (.lst ws)) ws ys G' := rs.stay tf (fun _ z => z) fun b hb ob eb => by
    have ne : b ≠ p := by
      intro z
      subst z
      exact pG' hb
    rw [upd_ne ne]; exact eb
  refine ⟨_, r'.write (t' := .l ys) (F' := p :: G') hi hv (by rw [hF]; exact List.mem_cons_self) (fun _ _ => ⟨_, rfl⟩) ⟨.l upd_same rs2, fun b hb => ?_⟩ (List.nodup_cons.mpr ⟨pG', hn⟩) fun b hb => ?_⟩
  · rcases List.mem_cons.mp hb with z | hb
    · rw [z]; exact pn
    · rcases hG b hb with z | z
      · exact rp.n b (by rw [hF]; exact List.mem_cons_of_mem _ z)
      · exact z.2
  · rcases List.mem_cons.mp hb with z | hb
    · rw [z, hF]; exact .inl List.mem_cons_self
    · rcases hG b hb with z | z
      · rw [hF]; exact .inl (List.mem_cons_of_mem _ z)
      · exact .inr ⟨r.fz z.1, fun j hj => (r.thereF hj).no z.1, fun w u Fp h1 h2 => r.heldOut e (p := (w, u)) h2 h1 z.1⟩
def qAppend (i : Nat) (qe : QE) : QS := fun D q => match q[i]? with
  | some (.o (.l xs)) => xs.length < sizeLine ∧ qe q fun t => D.nx (q.set i (.o (.l (xs ++ [t]))))
  | _ => False
theorem mt_appendK (hK : X.K = K) {i : Nat} (ho : PE X o (tVar i)) (he : PE X e te) (hbase : attributeBase o "append" X.env (eval o X.env) = eval o X.env := by rfl)
    (hfew : ((backTo cpos (starEach [e] X.env)).all (fun x => !x.1) && (backToKw cpos (keywordEach [] X.env)).all (fun x => x.1.isSome)
      && decide (([e] : List Expr).length + ([] : List Keyword).length + (if ([] : List Keyword).isEmpty then 0 else 1) < 30)) = true := by rfl)
    (hline : (apos.endLine == cpos.line) = true := by rfl) (hs : starEach [e] X.env = (false, eval e X.env) :: starEach [] X.env := by rfl) (hplain : (backTo cpos (starEach [] X.env)).any (·.1) = false := by rfl) :
    PE X (.Call (.Attribute o "append" apos) [e] [] cpos) (tBM K "list" rAppend (tVar i) (tCons te tNil)) := by
  subst hK
  exact pe_bm PySem.F.plainAttrs_list PySem.F.slot_list_append PySem.F.type_list_append mt_append ho (pa_cons he pa_nil hs) hbase hfew hline hs hplain
theorem sim_append {i : Nat} (he : SimF K te qe) : SimS K (tDrop (tBM K "list" rAppend (tVar i) (tCons te tNil))) (qAppend i qe) := fun dl H₀ hs H σ q Dq D ⟨F, r⟩ hq E => by
  unfold qAppend at hq
  split at hq
  · rename_i xs ei
    obtain ⟨hz, hq⟩ := hq
    obtain ⟨v, hv, rp⟩ := r.g i _ _ ei rfl
    obtain ⟨o1, o2, o3⟩ := r.o i _ ei
    obtain ⟨p, vs, G, rfl, eF, h1, h2⟩ := rp.r.lst
    refine ⟨_, hv, .inl ⟨rfl, vs, SqL.of h1⟩, he dl H σ q _ _ r.rd hq fun w t F' H' e1 r1 f1 n1 hz' => ?_⟩
    have pn : Nd dl p := rp.n p (by rw [eF]; exact List.mem_cons_self)
    refine ⟨p, vs, w, rfl, rfl, e1.k p _ h1 pn, by rw [h2.len]; exact hz, ?_⟩
    have hG : ∀ b ∈ G, Nd dl b := fun b hb => rp.n b (by rw [eF]; exact List.mem_cons_of_mem _ hb)
    have rs2 : RepFs K dl H' vs xs G := h2.stay (e1.tf r.d) (fun _ z => z) fun b hb o eo => e1.k b o eo (hG b hb)
    refine E.nx _ σ _ (r.relist ei hv eF e1 (rs2.append (.cons r1.r .nil)) ?_ fun b hb => ?_) hz'
    · rw [List.append_nil]
      rw [eF] at o1
      refine List.nodup_append.mpr ⟨(List.nodup_cons.mp o1).2, n1, fun x hx y hy exy => ?_⟩
      subst exy
      exact There.no (h2.there x hx) (f1 x hy)
    · rcases List.mem_append.mp hb with hb | hb
      · exact .inl hb
      · rw [List.append_nil] at hb
        exact .inr ⟨f1 b hb, r1.n b hb⟩
  · exact hq.elim
theorem qs_append {i : Nat} {spos : Pos} (ho : PE X o (tVar i)) (he : QPF X K e te qe) (hK : X.K = K := by rfl) (hbase : attributeBase o "append" X.env (eval o X.env) = eval o X.env := by rfl)
    (hfew : ((backTo cpos (starEach [e] X.env)).all (fun x => !x.1) && (backToKw cpos (keywordEach [] X.env)).all (fun x => x.1.isSome)
      && decide (([e] : List Expr).length + ([] : List Keyword).length + (if ([] : List Keyword).isEmpty then 0 else 1) < 30)) = true := by rfl)
    (hline : (apos.endLine == cpos.line) = true := by rfl) (hs : starEach [e] X.env = (false, eval e X.env) :: starEach [] X.env := by rfl) (hplain : (backTo cpos (starEach [] X.env)).any (·.1) = false := by rfl)
    (hsw : swapsWith (.Call (.Attribute o "append" apos) [e] [] cpos) none spos.line X.env = pure false := by rfl) :
    QPS X K (.Expr (.Call (.Attribute o "append" apos) [e] [] cpos) spos) (tDrop (tBM K "list" rAppend (tVar i) (tCons te tNil))) (qAppend i qe) := ⟨ps_expr (mt_appendK hK ho he.h hbase hfew hline hs hplain) hsw, sim_append he.s⟩
end
end L2
namespace L2
open PySem PySem.Spec PyProof.Rows
section
variable {X : Cx} {K : PySem.W.Frag} {dl : Dl} {H₀ H : Hp} {hs : List (V × T)} {σ : St} {q : Sq} {F : Nat → List Addr} {a b e o c : Expr} {te ta tb tk tv : TE} {qe qa qb qk qv : QE} {pos apos cpos : Pos}
theorem RepFs.last : ∀ {ts : List T} {x : T} {vs : List V} {F : List Addr}, RepFs K dl H vs (ts ++ [x]) F → ∃ us w F1 F2, vs = us ++ [w] ∧ RepFs K dl H us ts F1 ∧ RepF K dl H w x F2 ∧ F = F1 ++ F2
  | [], x, vs, F, h => by
    cases h with
    | cons h1 h2 =>
      cases h2
      exact ⟨[], _, [], _, rfl, .nil, h1, by simp⟩
  | t :: ts, x, vs, F, h => by
    cases h with
    | cons h1 h2 =>
      obtain ⟨us, w, F1, F2, rfl, r1, r2, rfl⟩ := RepFs.last h2
      exact ⟨_ :: us, w, _, F2, rfl, .cons h1 r1, r2, by rw [List.append_assoc]⟩
def T.key : T → Option Key
  | .i x => some (.inl x)
  | .s x => some (.inr x)
  | _ => none
theorem RepF.key {v : V} {t : T} {F : List Addr} {k : Key} (h : RepF K dl H v t F) (e : t.key = some k) : v = kV k := by
  cases h <;> first | (cases e; rfl) | cases e
def putT (ks : List (Key × T)) (k : Key) (t : T) : List (Key × T) := if (ks.any fun p => decide (p.1 = k)) = true then ks.map (fun p => if p.1 = k then (p.1, t) else p) else ks ++ [(k, t)]
mutual
def T.imk : List (Key × T) → Bool
  | [] => true
  | (_, x) :: r => x.im && T.imk r
end
theorem RepFk.im : ∀ {vs : List (Key × V)} {ts : List (Key × T)} {F : List Addr}, RepFk K dl H vs ts F → T.imk ts = true → F = []
  | _, _, _, .nil, _ => rfl
  | _, _, _, .cons h r, q => by
    have q : (_ && _) = true := q
    rw [Bool.and_eq_true] at q
    rw [RepF.im h q.1, RepFk.im r q.2]
    rfl
theorem RepFk.keys : ∀ {vs : List (Key × V)} {ts : List (Key × T)} {F : List Addr}, RepFk K dl H vs ts F → ∀ k : Key, (vs.any fun p => decide (p.1 = k)) = ts.any fun p => decide (p.1 = k)
  | _, _, _, .nil, _ => rfl
  | _, _, _, .cons h r, k => by rw [List.any_cons, List.any_cons, RepFk.keys r k]
theorem RepFk.put {k : Key} {w : V} {t : T} (hw : RepF K dl H w t []) : ∀ {vs : List (Key × V)} {ts : List (Key × T)}, RepFk K dl H vs ts [] → RepFk K dl H (putK vs k w) (putT ts k t) [] := by
  have mp : ∀ {vs : List (Key × V)} {ts : List (Key × T)} {F : List Addr}, RepFk K dl H vs ts F → F = [] → RepFk K dl H (vs.map fun p => if p.1 = k then (p.1, w) else p) (ts.map fun p => if p.1 = k then (p.1, t) else p) [] := by
    intro vs ts F h
    induction ts generalizing vs F with
    | nil => intro _; cases h; exact .nil
    | cons p ts ih =>
      cases h with
      | @cons k0 v x vs _ F1 F2 h1 h2 =>
        intro e
        obtain ⟨e1, e2⟩ := List.append_eq_nil_iff.mp e
        subst e1 e2
        have z := ih h2 rfl
        rw [List.map_cons, List.map_cons]
        by_cases e0 : k0 = k
        · show RepFk K dl H ((if k0 = k then (k0, w) else (k0, v)) :: _) ((if k0 = k then (k0, t) else (k0, x)) :: _) ([] ++ [])
          rw [if_pos e0, if_pos e0]
          exact .cons hw z
        · show RepFk K dl H ((if k0 = k then (k0, w) else (k0, v)) :: _) ((if k0 = k then (k0, t) else (k0, x)) :: _) ([] ++ [])
          rw [if_neg e0, if_neg e0]
          exact .cons h1 z
  have sn : ∀ {vs : List (Key × V)} {ts : List (Key × T)} {F : List Addr}, RepFk K dl H vs ts F → RepFk K dl H (vs ++ [(k, w)]) (ts ++ [(k, t)]) F := by
    intro vs ts F h
    induction ts generalizing vs F with
    | nil => cases h; exact .cons (F := []) hw .nil
    | cons p ts ih =>
      cases h with
      | cons h1 h2 => exact .cons h1 (ih h2)
  intro vs ts h
  unfold putK putT
  rw [h.keys k]
  split
  · exact mp h rfl
  · exact sn h
def txs : List T → Option (List Str)
  | [] => some []
  | .s x :: r => (txs r).map (x :: ·)
  | _ => none
theorem RepFs.txs : ∀ {vs : List V} {ts : List T} {F : List Addr} {bs : List Str}, RepFs K dl H vs ts F → L2.txs ts = some bs → vs = bs.map V.str
  | _, _, _, bs, .nil, h => by cases h; rfl
  | _, t :: ts, _, bs, .cons h r, q => by
    unfold L2.txs at q
    split at q
    · rename_i e; cases e
    · rename_i x r' e
      cases e
      obtain ⟨rfl, _⟩ := h.str
      cases e2 : L2.txs ts with
      | none => rw [e2] at q; cases q
      | some bs' =>
        rw [e2] at q
        cases q
        rw [RepFs.txs r e2]
        rfl
    · cases q
theorem txs_map (bs : List Str) : txs (bs.map T.s) = some bs := by
  induction bs with
  | nil => rfl
  | cons b r ih => show (txs (r.map T.s)).map (b :: ·) = _; rw [ih]; rfl
def qJoin (qo qe : QE) : QE := fun q Q => qo q fun s => match s with
  | .s sep => qe q fun t => match t with
    | .l xs => ∃ ys, txs xs = some ys ∧ (ys.map (·.length)).sum + ys.length * sep.length ≤ 16777216 ∧ Q (.s (Txt.join sep ys))
    | _ => False
  | _ => False
theorem qe_join {qo : QE} {to : TE} (ho : QPE X K o to qo) (he : QPE X K e te qe) (hK : X.K = K := by rfl) (hbase : attributeBase o "join" X.env (eval o X.env) = eval o X.env := by rfl)
    (hfew : ((backTo cpos (starEach [e] X.env)).all (fun x => !x.1) && (backToKw cpos (keywordEach [] X.env)).all (fun x => x.1.isSome)
      && decide (([e] : List Expr).length + ([] : List Keyword).length + (if ([] : List Keyword).isEmpty then 0 else 1) < 30)) = true := by rfl)
    (hline : (apos.endLine == cpos.line) = true := by rfl) (hs : starEach [e] X.env = (false, eval e X.env) :: starEach [] X.env := by rfl) (hplain : (backTo cpos (starEach [] X.env)).any (·.1) = false := by rfl) :
    QPF X K (.Call (.Attribute o "join" apos) [e] [] cpos) (tBM K "str" (rJoin K) to (tCons te tNil)) (qJoin qo qe) := ⟨by
  subst hK
  exact pe_bm PySem.F.plainAttrs_str PySem.F.slot_str_join PySem.F.type_str_join mt_join ho.h (pa_cons he.h pa_nil hs) hbase hfew hline hs hplain, fun dl H σ q Q R rd hq k => ho.s dl H σ q _ _ rd hq fun v t F H1 e1 r1 hq => by
    split at hq
    · obtain ⟨rfl, _⟩ := r1.r.str
      refine ⟨rfl, he.s dl H1 σ q _ _ (rd.evo e1) hq fun w u F2 H2 e2 r2 hq => ?_⟩
      split at hq
      · obtain ⟨ys, hy, hz, hq⟩ := hq
        obtain ⟨p, vs, G, rfl, eF, h1, h2⟩ := r2.r.lst
        have ev := h2.txs hy
        subst ev
        exact ⟨_, p, ys, rfl, rfl, SqL.of h1, hz, k _ _ [] H2 (e1.trans e2) (.c (.s _)) (fun _ z => nomatch z) List.nodup_nil hq⟩
      · exact hq.elim
    · exact hq.elim⟩
end
end L2
namespace L2
open PySem PySem.Spec PyProof.Rows
def eqVs (vs ws : List V) : Bool := vs.length == ws.length && (List.range vs.length).all fun j => match vs[j]?, ws[j]? with | some x, some y => eqV x y | _, _ => false
section
variable {X : Cx} {K : PySem.W.Frag}
theorem Vals.at' {vs : List V} {its : List Value} (r : Vals vs its) {j : Nat} (h : j < its.toArray.size) : ∃ v, vs[j]? = some v ∧ RelV v its.toArray[j] := by
  have hl := r.length
  have hj : j < its.length := by simpa using h
  have hv : j < vs.length := by omega
  obtain ⟨u, h1, h2⟩ := r.get (i := j) (x := vs[j]) (by simp [hv])
  have : its[j]? = some its[j] := by simp [hj]
  rw [this] at h1
  cases h1
  exact ⟨vs[j], by simp [hv], by simpa using h2⟩
theorem flat_at {vs : List V} {j : Nat} {v : V} (h : vs.all flatV = true) (e : vs[j]? = some v) : flatV v = true := List.all_eq_true.mp h v (List.mem_of_getElem? e)
def rEqF (K : PySem.W.Frag) : R2 := fun x y H Q => ∃ p q vs ws, x = .ref p ∧ y = .ref q ∧ ((SqL K H p vs ∧ SqL K H q ws) ∨ (SqT K H p vs ∧ SqT K H q ws)) ∧ vs.all flatV = true ∧ ws.all flatV = true ∧ Q (.bl (eqVs vs ws)) H
theorem op_eqF (hu : X.A.units + 1 < cLine) : OpR X (compareOp .Eq) (rEqF X.K) := by
  intro pins s σ H x y v u Q I rx ry h
  obtain ⟨p, q, vs, ws, rfl, rfl, hs, f1, f2, k⟩ := h
  cases rx
  cases ry
  rcases hs with ⟨h1, h2⟩ | ⟨h1, h2⟩
  · obtain ⟨its, r1, p1, _⟩ := I.list h1
    obtain ⟨its2, r2, p2, _⟩ := I.list h2
    have l1 := r1.length
    have l2 := r2.length
    by_cases hl : its.length = its2.length
    · refine SeqAt.eq_listAt (e := fun j => match vs[j]?, ws[j]? with | some x, some y => eqV x y | _, _ => false) p1.isList p2.isList (by simpa using hl) (by omega) (fun j g1 g2 => ?_) ⟨.bl _, H, I, rfl, ?_⟩
      · obtain ⟨a, ea, ra⟩ := r1.at' g1
        obtain ⟨b, eb, rb⟩ := r2.at' g2
        simp only [ea, eb]
        exact eqAt_V ra rb (flat_at f1 ea) (flat_at f2 eb)
      · have e : eqVs vs ws = (List.range its.toArray.size).all fun j => match vs[j]?, ws[j]? with | some x, some y => eqV x y | _, _ => false := by
          unfold eqVs
          rw [show (vs.length == ws.length) = true from by simp; omega, Bool.true_and, List.size_toArray, l1]
        rw [← e]
        exact k
    · refine SeqAt.eq_list_lengthsAt p1.isList p2.isList (by simpa using hl) (by omega) ⟨.bl _, H, I, rfl, ?_⟩
      have e : eqVs vs ws = false := by
        unfold eqVs
        rw [show (vs.length == ws.length) = false from by simp; omega, Bool.false_and]
      rw [← e]
      exact k
  · obtain ⟨its, r1, p1, _⟩ := I.tuple h1
    obtain ⟨its2, r2, p2, _⟩ := I.tuple h2
    have l1 := r1.length
    have l2 := r2.length
    refine SeqAt.eq_tupleAt (e := fun j => match vs[j]?, ws[j]? with | some x, some y => eqV x y | _, _ => false) (show s.heap.IsTuple p its.toArray from p1) (show s.heap.IsTuple q its2.toArray from p2) (by omega) (fun j g1 g2 => ?_) ⟨.bl _, H, I, rfl, ?_⟩
    · obtain ⟨a, ea, ra⟩ := r1.at' g1
      obtain ⟨b, eb, rb⟩ := r2.at' g2
      simp only [ea, eb]
      exact eqAt_V ra rb (flat_at f1 ea) (flat_at f2 eb)
    · have e : eqVs vs ws = ((List.range (min its.toArray.size its2.toArray.size)).all (fun j => match vs[j]?, ws[j]? with | some x, some y => eqV x y | _, _ => false) && its.toArray.size == its2.toArray.size) := by
        unfold eqVs
        rw [List.size_toArray, List.size_toArray, ← l1, ← l2, Bool.and_comm]
        by_cases hl : vs.length = ws.length
        · rw [hl, Nat.min_self]
        · rw [show (vs.length == ws.length) = false from by simpa using hl, Bool.and_false, Bool.and_false]
      rw [← e]
      exact k
def eqF (xs ys : List T) : Bool := eqVs (xs.map T.v) (ys.map T.v)
def qEq3 : Q2 := fun t u Q => match t, u with
  | .l xs, .l ys => (fls xs && fls ys) = true ∧ Q (.b (eqF xs ys))
  | .t xs, .t ys => (fls xs && fls ys) = true ∧ Q (.b (eqF xs ys))
  | t, u => qEq t u Q
def rEq3 (K : PySem.W.Frag) : R2 := fun x y H Q => rEq x y H Q ∨ rEqF K x y H Q
theorem op_eq3 (hu : X.A.units + 1 < cLine) (hK : X.K = K) : OpR X (compareOp .Eq) (rEq3 K) := by subst hK; exact op_eq.or (op_eqF hu)
theorem sim_eq3 : SimOF K (rEq3 K) qEq3 := by
  intro dl H x y t u F G Q R D r1 r2 hq k
  unfold qEq3 at hq
  split at hq
  · obtain ⟨p, vs, G1, rfl, rfl, h1, h2⟩ := r1.r.lst
    obtain ⟨p', vs', G2, rfl, rfl, h3, h4⟩ := r2.r.lst
    obtain ⟨f, hq⟩ := hq
    rw [Bool.and_eq_true] at f
    obtain ⟨rfl, rfl⟩ := h2.vs f.1
    obtain ⟨rfl, rfl⟩ := h4.vs f.2
    exact .inr ⟨p, p', _, _, rfl, rfl, .inl ⟨SqL.of h1, SqL.of h3⟩, flat_v f.1, flat_v f.2, k _ _ [] H (.refl D) (.c (.b _)) (fun _ z => nomatch z) List.nodup_nil hq⟩
  · obtain ⟨p, vs, rfl, h1, h2⟩ := r1.r.tup
    obtain ⟨p', vs', rfl, h3, h4⟩ := r2.r.tup
    obtain ⟨f, hq⟩ := hq
    rw [Bool.and_eq_true] at f
    obtain ⟨rfl, rfl⟩ := h2.vs f.1
    obtain ⟨rfl, rfl⟩ := h4.vs f.2
    exact .inr ⟨p, p', _, _, rfl, rfl, .inr ⟨SqT.of h1, SqT.of h3⟩, flat_v f.1, flat_v f.2, k _ _ [] H (.refl D) (.c (.b _)) (fun _ z => nomatch z) List.nodup_nil hq⟩
  · exact .inl (sim_eq dl H x y t u F G Q R D r1 r2 hq k)
end
end L2
namespace PySem
open Sem (wp)
section
variable {prog : Program} {w : World} {A : Around} {E : Value → Shared → Prop}
end
end PySem
namespace PySem
open Sem (wp)
namespace F
end F
section
variable {prog : Program} {w : World} {A : Around} {R : Result → Shared → Prop} {I : Addr} {fp wr : List Addr} {n : Nat} {P : Nat → Value → Prop} {St : Nat → Heap → Prop} {κ : Type} [DecidableEq κ] {knd : KeyKind prog w κ}
end
end PySem
namespace PySem
open Sem (wp)
section
variable {prog : Program} {w : World} {A : Around} {E : Value → Shared → Prop} {s : Shared} {κ : Type} [DecidableEq κ] {knd : KeyKind prog w κ}
end
end PySem
namespace L2
open PySem PySem.Spec PyProof.Rows
section
variable {X : Cx} {K : PySem.W.Frag}
end
end L2
namespace L2
open PySem PySem.Spec PyProof.Rows
def pairsT : List T → Option (List (Key × T))
  | [] => some []
  | .t [k, x] :: r => match k.key, pairsT r with
    | some k, some r => some ((k, x) :: r)
    | _, _ => none
  | _ => none
section
variable {X : Cx} {K : PySem.W.Frag} {dl : Dl} {H : Hp}
theorem RepFs.pairs : ∀ {vs : List V} {xs : List T} {F : List Addr} {kts : List (Key × T)}, RepFs K dl H vs xs F → F = [] → pairsT xs = some kts →
    ∃ (ps : List Addr) (kvs : List (Key × V)), vs = ps.map V.ref ∧ ps.length = kvs.length ∧ (∀ (i : Nat) (a : Addr) (kv : Key × V), ps[i]? = some a → kvs[i]? = some kv → H a = some (.tup [kV kv.1, kv.2])) ∧ RepFk K dl H kvs kts []
  | _, _, _, kts, .nil, _, h => by
    cases h
    exact ⟨[], [], rfl, rfl, fun i a kv h => by simp at h, .nil⟩
  | _, x :: xs, _, kts, .cons (F := F1) h r, e, q => by
    obtain ⟨e1, e2⟩ := List.append_eq_nil_iff.mp e
    unfold pairsT at q
    split at q
    · rename_i z; cases z
    · rename_i k y r' z
      cases z
      split at q
      · rename_i k0 r0 ek er
        cases q
        obtain ⟨ps, kvs, rfl, hl, ht, hk⟩ := RepFs.pairs r e2 er
        obtain ⟨a, ws, rfl, ha, hws⟩ := h.tup
        cases hws with
        | @cons w1 _ _ _ G1 G2 w1r w2r =>
          cases w2r with
          | @cons w2 _ _ _ G3 G4 h2 h3 =>
            cases h3
            have e3 := w1r.key ek
            subst e3
            obtain ⟨z1, z2⟩ := List.append_eq_nil_iff.mp e1
            rw [List.append_nil] at z2
            subst z1 z2
            refine ⟨a :: ps, (k0, w2) :: kvs, rfl, by simp [hl], fun i b kv h1 h2 => ?_, .cons (F := []) h2 hk⟩
            cases i with
            | zero =>
              simp at h1 h2
              subst h1 h2
              exact ha
            | succ i => exact ht i b kv (by simpa using h1) (by simpa using h2)
      · cases q
    · cases q
end
end L2
namespace L2
open PySem PySem.Spec PyProof.Rows
section
variable {X : Cx} {K : PySem.W.Frag} {a b : Expr} {ta tb : TE} {qa qb : QE} {pos : Pos}
def psDraw : PSp := fun ts Q => match ts with
  | [.deal, .i m] => 0 < m ∧ m < 18446744073709551616 ∧ ∀ r, 0 ≤ r → r < m → Q (.i r)
  | _ => False
theorem draw_q {P : Program} {w : World} {K : PySem.W.Frag} {mg : Str → Option Value} {base : Heap} {k : Nat} {f : Addr} {fd : FuncData} {ps : List Str} (F : FnOk P w K mg base CX0 k f fd ps spDraw) : FnOk P w K mg base CX0 k f fd ps (spQ K psDraw) := by
  refine F.imp fun vs H Q E h => ?_
  obtain ⟨dl, ts, Fp, Qp, D, r, h, fin⟩ := h
  unfold psDraw at h
  split at h
  · obtain ⟨v, w', F1, F2, rfl, r1, r2⟩ := r.two
    obtain ⟨a, l, rfl, hm, _⟩ := r1.r.dea
    obtain ⟨rfl, _⟩ := r2.r.int
    refine ⟨a, l, _, rfl, D _ hm, h.1, h.2.1, fun r H' r0 r1' D' K' => fin _ _ [] H' ⟨fun b o e n => K' b o e (n _ hm).1 (n _ hm).2, fun p hp => ?_⟩ (.c (.i _)) (fun _ z => nomatch z) List.nodup_nil (h.2.2 r r0 r1')⟩
    by_cases e : p = (a, l)
    · rw [e]; exact D'
    · obtain ⟨s1, n1, l1, Q1⟩ := D p hp
      obtain ⟨s2, n2, l2, Q2⟩ := D _ hm
      obtain ⟨s3, n3, l3, Q3⟩ := D'
      have pa : p.1 ≠ a := fun z => by
        have z1 := Q1.hd
        have z2 := Q2.hd
        rw [z] at z1
        rw [z1] at z2
        have z3 : dk s1 n1 p.2 = dk s2 n2 l := by injection (Option.some.inj z2)
        have z4 := congrArg (fun kv => valV kv (.inr "left" : Key)) z3
        simp only [dk_left] at z4
        exact e (Prod.ext z (V.ref.inj (Option.some.inj z4)))
      have pl : p.1 ≠ l := ne_of Q1.hd Q2.hl (fun z => nomatch z)
      have p2a : p.2 ≠ a := ne_of Q1.hl Q2.hd (fun z => nomatch z)
      by_cases p2l : p.2 = l
      · exact ⟨s1, n1, l3, K' _ _ Q1.hd pa pl, by rw [p2l]; exact Q3.hl, Q1.s0, Q1.s1, Q1.n0, Q3.l0⟩
      · exact ⟨s1, n1, l1, K' _ _ Q1.hd pa pl, K' _ _ Q1.hl p2a p2l, Q1.s0, Q1.s1, Q1.n0, Q1.l0⟩
  · exact h.elim
end
end L2
namespace L2
open PySem PySem.Spec PyProof.Rows
section
variable {X : Cx} {K : PySem.W.Frag} {a b c e o : Expr} {ta tb tk tv te : TE} {qa qb qk qv qe : QE} {pos pos' : Pos}
theorem RepFs.set {dl : Dl} {H : Hp} {w : V} {t : T} (hw : RepF K dl H w t []) : ∀ {vs : List V} {xs : List T} {F : List Addr} (j : Nat), RepFs K dl H vs xs F → F = [] → RepFs K dl H (vs.set j w) (xs.set j t) []
  | _, _, _, _, .nil, _ => .nil
  | _, _, _, 0, .cons h r, e => by
    obtain ⟨e1, e2⟩ := List.append_eq_nil_iff.mp e
    subst e1 e2
    exact .cons (F := []) hw r
  | _, _, _, j + 1, .cons h r, e => by
    obtain ⟨e1, e2⟩ := List.append_eq_nil_iff.mp e
    subst e1 e2
    exact .cons (F := []) h (RepFs.set hw j r rfl)
end
end L2
namespace L2
open PySem PySem.Spec PyProof.Rows
section
variable {X : Cx} {K : PySem.W.Frag} {dl : Dl}
def zipT (xs ys : List T) : List T := (xs.zip ys).map fun p => .t [p.1, p.2]
theorem zipT_at {xs ys : List T} {i : Nat} {z : T} (h : (zipT xs ys)[i]? = some z) : ∃ x y, xs[i]? = some x ∧ ys[i]? = some y ∧ z = .t [x, y] := by
  unfold zipT at h
  rw [List.getElem?_map] at h
  obtain ⟨p, hp, rfl⟩ := Option.map_eq_some_iff.mp h
  rw [List.getElem?_zip_eq_some] at hp
  exact ⟨p.1, p.2, hp.1, hp.2, rfl⟩
theorem zipT_len {xs ys : List T} : (zipT xs ys).length = min xs.length ys.length := by simp [zipT]
variable {tg e a b : Expr} {te ta tb : TE} {qe qa qb : QE} {tl : TA} {ql : QA} {pos p : Pos}
theorem pi_zipK {elts : List Expr} {x1} {pos' : Pos} {ta : TA} {t1 t2 : Bool} (hK : X.K = K) (hg : Gl X "zip") (hm : X.mg "zip" = none) (hboot : bootBuiltins "zip" = some (.type "zip")) (ha : PA X [a, b] ta) (hs : starEach [a, b] X.env = [(false, eval a X.env), (false, eval b X.env)]) (hs2 : starEach [b] X.env = [(false, eval b X.env)]) :
    PI X (.Tuple elts x1 pos') (.Call (.Name "zip" p) [a, b] [] pos) (iZip K t1 t2 ta) := by subst hK; exact pi_zip hg hm hboot ha hs hs2
end
end L2
namespace L2
open PySem PySem.Spec PyProof.Rows
section
variable {X : Cx} {K : PySem.W.Frag} {e a b : Expr} {tl : TA} {ql : QA} {pos p pos2 p2 : Pos} {dl : Dl}
end
end L2
namespace L2
open PySem PySem.Spec PyProof.Rows
def spLawQ (K : PySem.W.Frag) : Sp := fun vs H Q _ => ∃ (a : Addr) (ns : List Int), vs = [.ref a] ∧ FzL K H a (ns.map V.int) ∧ ns.length ≤ 63 ∧ ∀ H', Q (.bl true) H'
theorem fz_of {K : PySem.W.Frag} {H : Hp} {a : Addr} {xs : List V} (h : Only H) (hS : SqL K H a xs) : FzL K H a xs := by
  rcases hS with (z | ⟨o, z⟩) | z
  · rcases h a with e | ⟨o, ys, e⟩
    · rw [e] at z; cases z
    · rw [e] at z; cases z
  · exact .inl ⟨o, z⟩
  · exact .inr z
theorem FzL.same {K : PySem.W.Frag} {H H' : Hp} {a : Addr} {xs : List V} (h : FzL K H a xs) (s : Same H H') : FzL K H' a xs := by
  rcases h with ⟨o, z⟩ | z
  · exact .inl ⟨o, s _ _ z⟩
  · exact .inr z
theorem Fun.lawQ {P : Program} {w : World} {K : PySem.W.Frag} {mg : Str → Option Value} {base : Heap} {x qual : Str} {st : Stmt} {f : Addr} {fd : FuncData} {N : List Str} {k n : Nat} {s1 : Stmt} {rest : List Stmt} (F : Fun K x qual st f fd) (S : FnScope N ["_law_script"] (defScope st)) (hN : N.length = n + 2) (hst : defBody st = s1 :: rest)
    (hbody : ∀ (cdv : Value) (A : Around) (outer : List Env) (s : Shared) (H : Hp) (E : XK), Room k (A.deeper (envOfC qual (defScope st) s.heap.objs.size f cdv)) →
      ∃ t1 t qs, PS (cxOf CX0 P w K mg base N qual (defScope st) f cdv A outer s H E).nox s1 t1 ∧ QPSs (cxOf CX0 P w K mg base N qual (defScope st) f cdv A outer s H E).nox K rest t qs ∧
        (∀ (a : Addr) (ns : List Int) (D : Ends), SqL K H a (ns.map V.int) → ns.length ≤ 63 → (∀ (d l : Addr) (H' : Hp), H d = none → H l = none → Deal H' d l → Same H H' → D.nx ([some (.ref a), some (.ref d)] ++ List.replicate n none) H') → t1 D ([some (.ref a), none] ++ List.replicate n none) H) ∧
        ∀ ns : List Int, ns.length ≤ 63 → qs { nx := fun _ => False, rt := fun t => t = .b true } ([.r (.z ns), .r .deal] ++ List.replicate n .no)) : FnOk P w K mg base CX0 (k + 1) f fd ["_law_script"] (spLawQ K) := by
  refine F.ok S (fun vs H Q E h => ?_) (fun cdv A outer s H vs Q E hr h => ?_)
  · obtain ⟨a, ns, rfl, _⟩ := h; rfl
  · obtain ⟨a, ns, rfl, hS, hlen, k⟩ := h
    obtain ⟨t1, t, qs, h1, hb, r1, hq⟩ := hbody cdv A outer s H E hr
    rw [hst]
    refine ⟨_, pss_cons h1 hb.h, ?_⟩
    have es : start N [V.ref a] = [some (.ref a), none] ++ List.replicate n none := by
      unfold start
      rw [hN]
      rfl
    rw [es]
    refine r1 a ns _ hS.sq hlen fun d l H' hd hl D1 sm => ?_
    have Dq : Dls [(d, l)] H' := fun p hp => by rw [List.mem_singleton.mp hp]; exact D1
    have rp : Rps K [(d, l)] H' [.ref a, .ref d] [.z ns, .deal] ([] ++ ([] ++ [])) := ⟨.cons (.z (hS.same sm)) (.cons (.x (l := l) (List.mem_singleton.mpr rfl)) .nil), fun _ z => nomatch z⟩
    have R := rel_start (n := n + 2) Dq rp (by simp)
    refine hb.s [(d, l)] H' [] H' _ _ _ _ R (hq ns hlen) ⟨fun _ _ _ _ z => z.elim, fun _ _ _ _ z => z.elim, fun _ _ _ _ z => z.elim, fun v t F H2 _ r' _ _ _ hz => ?_⟩
    subst hz
    obtain ⟨rfl, _⟩ := r'.r.bl
    exact k H2
end L2
namespace L2
open PySem PySem.Spec PyProof.Rows
section
variable {X : Cx} {K : PySem.W.Frag} {o e : Expr} {apos cpos pos : Pos} {tl te : TE} {ql qe : QE}
end
section
open AutoSeq1 (wpAny_loadPart')
open MeetsSeq MeetsSeq2 MeetsSeq3
section
variable {X : Cx} {K : PySem.W.Frag}
theorem RepFs.ints {dl : Dl} {H : Hp} {vs : List V} {ns : List Int} {F : List Addr} (h : RepFs K dl H vs (ns.map T.i) F) : vs = ns.map V.int := by
  obtain ⟨e, _⟩ := h.vs (by unfold fls; rw [List.all_map, List.all_eq_true]; exact fun _ _ => rfl)
  rw [e, List.map_map]
  rfl
end
end
end L2
namespace L2
open PySem PySem.Spec PyProof.Rows
section
variable {X : Cx} {K : PySem.W.Frag} {dl : Dl}
variable {tg e a b c : Expr} {te ta tb : TE} {qe qa qb : QE} {tl : TA} {ql : QA} {pos p : Pos}
theorem Rps.three {dl : Dl} {H : Hp} {vs : List V} {t u z : T} {F : List Addr} (h : Rps K dl H vs [t, u, z] F) : ∃ v w x F1 F2 F3, vs = [v, w, x] ∧ Rp K dl H v t F1 ∧ Rp K dl H w u F2 ∧ Rp K dl H x z F3 := by
  obtain ⟨r, n⟩ := h
  cases r with
  | cons r1 r2 =>
    obtain ⟨w, x, F2, F3, rfl, h2, h3⟩ := Rps.two ⟨r2, fun b hb => n b (List.mem_append_right _ hb)⟩
    exact ⟨_, w, x, _, _, _, rfl, ⟨r1, fun b hb => n b (List.mem_append_left _ hb)⟩, h2, h3⟩
theorem RepFs.snoc {H : Hp} {v : V} {t : T} (hv : RepF K dl H v t []) : ∀ {vs : List V} {ts : List T} {F : List Addr}, RepFs K dl H vs ts F → F = [] → RepFs K dl H (vs ++ [v]) (ts ++ [t]) []
  | _, _, _, .nil, _ => .cons (F := []) (G := []) hv .nil
  | _, _, _, .cons h r, e => by
    obtain ⟨e1, e2⟩ := List.append_eq_nil_iff.mp e
    subst e1
    exact .cons (F := []) (G := []) h (RepFs.snoc hv r e2)
theorem RepFk.vs {H : Hp} : ∀ {vs : List (Key × V)} {ts : List (Key × T)} {F : List Addr}, RepFk K dl H vs ts F → (ts.all fun p => p.2.fl) = true → vs = ts.map fun p => (p.1, p.2.v)
  | _, _, _, .nil, _ => rfl
  | _, _, _, .cons h r, f => by
    rw [List.all_cons, Bool.and_eq_true] at f
    rw [List.map_cons, ← RepFk.vs r f.2, (h.v f.1).1]
variable {o : Expr} {apos cpos : Pos}
end
end L2
namespace L2
open PySem PySem.Spec PyProof.Rows
section
variable {X : Cx} {K : PySem.W.Frag} {dl : Dl} {H : Hp} {v : V} {F : List Addr}
theorem RepFk.ks : ∀ {vs : List (Key × V)} {ts : List (Key × T)} {F : List Addr}, RepFk K dl H vs ts F → vs.map (·.1) = ts.map (·.1)
  | _, _, _, .nil => rfl
  | _, _, _, .cons _ r => by rw [List.map_cons, List.map_cons, RepFk.ks r]
variable {tg e a b : Expr} {te ta tb : TE} {qe qa qb : QE} {pos : Pos}
theorem Deal.oth {H : Hp} {d l a : Addr} {o : HO} (D : Deal H d l) (h1 : a ≠ d) (h2 : a ≠ l) : Deal (upd H a o) d l := by
  obtain ⟨s, n, ls, Q⟩ := D
  exact ⟨s, n, ls, by rw [upd_ne h1.symm]; exact Q.hd, by rw [upd_ne h2.symm]; exact Q.hl, Q.s0, Q.s1, Q.n0, Q.l0⟩
theorem RepF.flat {t : T} (h : t.fl = true) : RepF K dl H t.v t [] := by
  cases t with
  | n => exact .n
  | b x => exact .b x
  | i x => exact .i x
  | s x => exact .s x
  | _ => exact absurd (show false = true from h) Bool.false_ne_true
theorem RepFs.flat : ∀ {xs : List T}, fls xs = true → RepFs K dl H (xs.map T.v) xs []
  | [], _ => .nil
  | x :: r, h => by
    have h : (_ && _) = true := h
    rw [Bool.and_eq_true] at h
    exact .cons (F := []) (G := []) (RepF.flat h.1) (RepFs.flat h.2)
end
end L2
namespace L2
open PySem PySem.Spec PyProof.Rows
section
variable {X : Cx} {K : PySem.W.Frag} {dl : Dl} {H : Hp} {v : V} {F : List Addr}
theorem RepF.exc {C : Addr} {ns : List Str} {ts : List T} (h : RepF K dl H v (.xc C ns ts) F) : ∃ a b vs, v = .ref a ∧ F = [] ∧ ExH H a C b (ns.zip vs) ∧ RepFs K dl H vs ts [] := by cases h with | e h r => exact ⟨_, _, _, rfl, rfl, h, r⟩
theorem RepFs.lookup {f : Str} : ∀ {ns : List Str} {vs : List V} {ts : List T} {F : List Addr} {u : T}, RepFs K dl H vs ts F → (ns.zip ts).lookup f = some u → ∃ w G, (ns.zip vs).lookup f = some w ∧ RepF K dl H w u G ∧ ∀ b ∈ G, b ∈ F
  | [], _, _, _, _, _, h => by simp at h
  | _ :: _, _, _, _, _, .nil, h => by simp at h
  | n :: ns, _, _, _, u, .cons h1 r, h => by
    rw [List.zip_cons_cons, List.lookup_cons] at h ⊢
    cases e : (f == n) with
    | true =>
      rw [e] at h
      cases h
      exact ⟨_, _, rfl, h1, fun b hb => List.mem_append_left _ hb⟩
    | false =>
      rw [e] at h
      obtain ⟨w, G, a1, a2, a3⟩ := RepFs.lookup (ns := ns) r h
      exact ⟨w, G, a1, a2, fun b hb => List.mem_append_right _ (a3 b hb)⟩
end
def qFldX (K : PySem.W.Frag) (fn : List Str) (f : Str) (qe : QE) : QE := fun q Q => qe q fun t => match t with
  | .xc C ns ts => ∃ bm ini u, XCls K fn C bm ini ∧ (ns.zip ts).lookup f = some u ∧ Q u
  | _ => False
section
variable {X : Cx} {K : PySem.W.Frag} {e : Expr} {es : List Expr} {te : TE} {qe : QE} {tl : TA} {ql : QA} {pos p p2 : Pos} {f x y : Str} {fn fsN ps : List Str} {C C' fa : Addr} {bm bm' : List Value} {ini' : Option Addr} {k : Nat} {fd : FuncData}
theorem sim_fldX (hf : f ∈ fn) (fo : FOk f) (h : SimE K te qe) : SimF K (tFldX K fn te f) (qFldX K fn f qe) := by
  intro dl H σ q Q R rd hq k
  refine h dl H σ q _ _ rd hq fun v t F H1 e1 r1 hz => ?_
  split at hz
  · obtain ⟨bm, ini, u, c, l, hz⟩ := hz
    obtain ⟨a, b, vs, rfl, rfl, ex, rs⟩ := r1.r.exc
    obtain ⟨w, G, l2, rw', hG⟩ := rs.lookup l
    have hG0 : G = [] := List.eq_nil_iff_forall_not_mem.mpr fun b hb => nomatch hG b hb
    subst hG0
    exact ⟨a, _, b, bm, ini, _, w, rfl, ex, c, hf, fo, l2, k w u [] H1 e1 ⟨rw', fun _ z => nomatch z⟩ (fun _ z => nomatch z) List.nodup_nil hz⟩
  · exact hz.elim
theorem qe_fldX (hK : X.K = K) (hf : f ∈ fn) (fo : FOk f) (he : QPE X K e te qe) (hb : attributeBase e f X.env (eval e X.env) = eval e X.env := by rfl) : QPF X K (.Attribute e f pos) (tFldX K fn te f) (qFldX K fn f qe) := by
  subst hK
  exact ⟨pe_fldX he.h hb, sim_fldX hf fo he.s⟩
def qMakeX (C : Addr) (fsN : List Str) (ql : QA) : QE := fun q Q => ql q fun ts => T.ims ts = true ∧ ts.length = fsN.length ∧ ts.length ≤ 1000 ∧ Q (.xc C fsN ts)
theorem evo_made {dl : Dl} {H : Hp} {a d : Addr} {o1 o2 : HO} (D : Dls dl H) (ha : H a = none) (hd : H d = none) (ne : d ≠ a) : Evo dl H (upd (upd H d o1) a o2) := ((Evo.refl D).new hd).new (by rw [upd_ne (Ne.symm ne)]; exact ha)
theorem sim_makeX {n : Nat} (h : SimA K n tl ql) : SimF K (tMakeX C fsN tl) (qMakeX C fsN ql) := by
  intro dl H σ q Q R rd hq k
  refine h dl H σ q _ _ rd hq fun vs ts F H1 e1 r1 _ hz => ?_
  obtain ⟨z1, z2, z3, z4⟩ := hz
  have f := r1.r.im z1
  subst f
  have hl := r1.r.len
  refine ⟨hl.trans z2, by rw [hl]; exact z3, fun a d ha hd ne => ?_⟩
  have ev := evo_made (o1 := .ext (XD d (fsN.zip vs))) (o2 := .ext (XAt a C (some d) true)) e1.d ha hd ne
  have r2 := r1.evo e1.d ev
  exact k _ _ [] _ (e1.trans ev) ⟨.e (.inr ⟨d, ne, upd_same, by rw [upd_ne ne, upd_same]⟩) r2.r, fun _ z => nomatch z⟩ (fun _ z => nomatch z) List.nodup_nil z4
theorem qe_makeX (hK : X.K = K) (M : XCls K fn C bm (some fa)) (hfn : PySem.W.isFn K (.ref fa) = true) (kp : PySem.W.keepIn K (.ref C) = true) (F : FnOk X.prog X.w X.K X.mg X.base CX0 k fa fd ps (spIni C fsN)) (hr : Room (k + 1) X.A) (hg : Gl X x) (hm : X.mg x = some (.ref C)) (hb : Binds X.K fd ps [])
    (ha : QPA X K (e :: es) tl ql) (hdb : (x == ("__debug__" : Str)) = false := by decide) (he : starEach (e :: es) X.env = (false, eval e X.env) :: starEach es X.env := by rfl) (hpl : (backTo pos (starEach es X.env)).any (·.1) = false := by rfl) :
    QPF X K (.Call (.Name x p) (e :: es) [] pos) (tMakeX C fsN tl) (qMakeX C fsN ql) := by
  subst hK
  exact ⟨pe_makeX M hfn kp F hr hg hm hb ha.h hdb he hpl, sim_makeX ha.s⟩
def rIsX (K : PySem.W.Frag) (fn : List Str) (c : Value) : List V → Hp → VK → Prop := fun xs H Q => ∃ a C b fs bm ini r y, xs = [.ref a, y] ∧ RelV y c ∧ ExH H a C b fs ∧ XCls K fn C bm ini ∧ PySem.W.kitOne K (.ref C) c = some r ∧ Q (.bl r) H
theorem relV_ref {a : Addr} {u : Value} (h : RelV (.ref a) u) : u = .ref a := h
theorem call_isX {c : Value} (hc : ∀ y u, RelV y u → RelV y c → u = c) : CallR X (.builtin "isinstance") (rIsX X.K fn c) := by
  intro pins s σ H xs us Q I r h
  obtain ⟨a, C, b, fs, bm, ini, rb, y, rfl, ry, ex, cx, ek, q⟩ := h
  cases r with
  | cons h1 r2 =>
    cases r2 with
    | cons h2 r3 =>
      cases r3
      cases (relV_ref h1)
      cases hc _ _ h2 ry
      exact isx_ok I ex cx ek fun tk => ⟨.bl rb, H, I.tok tk, rfl, q⟩
def qIsX (K : PySem.W.Frag) (fn : List Str) (c : Value) (qe : QE) : QE := fun q Q => qe q fun t => match t with
  | .xc C _ _ => ∃ bm ini, XCls K fn C bm ini ∧ Q (.b ((Value.ref C :: bm).contains c))
  | _ => False
theorem sim_isX {c : Value} {y : V} (ry : RelV y c) (hk : ∀ C bm ini, XCls K fn C bm ini → PySem.W.kitOne K (.ref C) c = some ((Value.ref C :: bm).contains c)) (h : SimE K te qe) : SimF K (tCB (rIsX K fn c) (tCons te (tCons (tC y) tNil))) (qIsX K fn c qe) := by
  intro dl H σ q Q R rd hq k
  refine h dl H σ q _ _ rd hq fun v t F H1 e1 r1 hz => ?_
  split at hz
  · obtain ⟨bm, ini, cx, hz⟩ := hz
    obtain ⟨a, b, vs, rfl, rfl, ex, rs⟩ := r1.r.exc
    exact ⟨a, _, b, _, bm, ini, _, y, rfl, ry, ex, cx, hk _ bm ini cx, k _ _ [] H1 e1 ⟨.b _, fun _ z => nomatch z⟩ (fun _ z => nomatch z) List.nodup_nil hz⟩
  · exact hz.elim
theorem qe_isX (hK : X.K = K) (c' : XCls K fn C' bm' ini') (hg : Gl X "isinstance") (hm : X.mg "isinstance" = none) (hg2 : Gl X y) (hm2 : X.mg y = some (.ref C')) (h : QPE X K e te qe) (hd : (y == ("__debug__" : Str)) = false := by decide)
    (he : starEach [e, .Name y p2] X.env = (false, eval e X.env) :: starEach [.Name y p2] X.env := by rfl) (he2 : starEach [.Name y p2] X.env = (false, eval (.Name y p2) X.env) :: starEach [] X.env := by rfl) (hpl : (backTo pos (starEach [.Name y p2] X.env)).any (·.1) = false := by rfl) :
    QPF X K (.Call (.Name "isinstance" p) [e, .Name y p2] [] pos) (tCB (rIsX K fn (.ref C')) (tCons te (tCons (tC (.ref C')) tNil))) (qIsX K fn (.ref C') qe) := by
  subst hK
  exact ⟨pe_callB (call_isX fun y u h1 h2 => by
    cases y with
    | ref b => cases (relV_ref h1); cases (relV_ref h2); rfl
    | non => cases (show Value.ref C' = Value.none from h2)
    | bl b => cases (show Value.ref C' = Value.bool b from h2)
    | int i => obtain ⟨_, z⟩ := (show ∃ t, Value.ref C' = Value.int i t from h2); cases z
    | str i => obtain ⟨_, z⟩ := (show ∃ t, Value.ref C' = Value.str i t from h2); cases z
    | flt i => obtain ⟨_, z⟩ := (show ∃ t, Value.ref C' = Value.float i t from h2); cases z
    | ty n => cases (show Value.ref C' = Value.type n from h2)
    | byt i => (obtain ⟨_, z⟩ := h2; cases z)) hg hm rfl (pa_cons h.h (pa_cons (pe_globR hg2 hm2 hd) pa_nil he2) he) (by decide) (by decide) he hpl, sim_isX (y := .ref C') rfl (fun C bm ini c => kit_exc c c') h.s⟩
theorem qe_isT {n : String} (hK : X.K = K) (hT : PySem.W.kitMeta n = true) (hg : Gl X "isinstance") (hm : X.mg "isinstance" = none) (hg2 : Gl X y) (hm2 : X.mg y = none) (hv : bootBuiltins y = some (.type n)) (h : QPE X K e te qe) (hn : y ≠ "__name__" := by decide) (hd : (y == ("__debug__" : Str)) = false := by decide)
    (he : starEach [e, .Name y p2] X.env = (false, eval e X.env) :: starEach [.Name y p2] X.env := by rfl) (he2 : starEach [.Name y p2] X.env = (false, eval (.Name y p2) X.env) :: starEach [] X.env := by rfl) (hpl : (backTo pos (starEach [.Name y p2] X.env)).any (·.1) = false := by rfl) :
    QPF X K (.Call (.Name "isinstance" p) [e, .Name y p2] [] pos) (tCB (rIsX K fn (.type n)) (tCons te (tCons (tC (.ty n)) tNil))) (qIsX K fn (.type n) qe) := by
  subst hK
  exact ⟨pe_callB (call_isX fun y u h1 h2 => by
    cases y with
    | ref b => cases (relV_ref h2)
    | non => cases (show Value.type n = Value.none from h2)
    | bl b => cases (show Value.type n = Value.bool b from h2)
    | int i => obtain ⟨_, z⟩ := (show ∃ t, Value.type n = Value.int i t from h2); cases z
    | str i => obtain ⟨_, z⟩ := (show ∃ t, Value.type n = Value.str i t from h2); cases z
    | flt i => obtain ⟨_, z⟩ := (show ∃ t, Value.type n = Value.float i t from h2); cases z
    | byt i => (obtain ⟨_, z⟩ := h2; cases z)
    | ty m =>
      have z1 : u = Value.type m := h1
      have z2 : Value.type n = Value.type m := h2
      rw [z1, z2]) hg hm rfl (pa_cons h.h (pa_cons (pe_bltn hg2 hm2 hv rfl hn hd) pa_nil he2) he) (by decide) (by decide) he hpl, sim_isX (y := .ty n) rfl (fun C bm ini c => by
        rw [kit_excT c hT, List.contains_cons]; rfl) h.s⟩
end
end L2
namespace L2
open PySem PySem.Spec PyProof.Rows
abbrev QW := Addr → List Str → List T → Prop
abbrev QX := Sq → (T → Prop) → QW → Prop
def SimX (K : PySem.W.Frag) (te : (St → XK) → TE) (qx : QX) : Prop := ∀ (dl : Dl) (H : Hp) (σ : St) (q : Sq) (Q : T → Prop) (W : QW) (R : V → Hp → Prop) (Es : St → XK), RdR K dl H σ q → qx q Q W →
  (∀ v t F H', Evo dl H H' → Rp K dl H' v t F → (∀ b ∈ F, H b = none) → F.Nodup → Q t → R v H') → (∀ a C ns us H', Evo dl H H' → Rp K dl H' (.ref a) (.xc C ns us) [] → W C ns us → Es σ (.ref C) (some a) H') → te Es σ H R
structure QPX (X : Cx) (K : PySem.W.Frag) (e : Expr) (te : (St → XK) → TE) (qx : QX) : Prop where
  h : ∀ Es, PassesS (CX1 X.prog X.w) X Es → PE X e (te Es)
  s : SimX K te qx
abbrev QSX := (Sq → QW) → QS
def XOk (K : PySem.W.Frag) (dl : Dl) (H₀ : Hp) (hs : List (V × T)) (W : Sq → QW) (Es : St → XK) : Prop := ∀ H σ q a C ns us, RelX K dl H₀ hs H σ q → Rp K dl H (.ref a) (.xc C ns us) [] → W q C ns us → Es σ (.ref C) (some a) H
def SimSX (K : PySem.W.Frag) (ts : (St → XK) → TS) (qs : QSX) : Prop := ∀ (dl : Dl) (H₀ : Hp) (hs : List (V × T)) (H : Hp) (σ : St) (q : Sq) (Dq : EndsQ) (D : Ends) (W : Sq → QW) (Es : St → XK), RelX K dl H₀ hs H σ q → qs W Dq q → EndsOk K dl H₀ hs Dq D → XOk K dl H₀ hs W Es → ts Es D σ H
structure QPSX (X : Cx) (K : PySem.W.Frag) (st : Stmt) (ts : (St → XK) → TS) (qs : QSX) : Prop where
  h : ∀ Es, PassesS (CX1 X.prog X.w) X Es → RaisesX X Es → PS X st (ts Es)
  s : SimSX K ts qs
structure QPSsX (X : Cx) (K : PySem.W.Frag) (st : List Stmt) (ts : (St → XK) → TS) (qs : QSX) : Prop where
  h : ∀ Es, PassesS (CX1 X.prog X.w) X Es → RaisesX X Es → PSs X st (ts Es)
  s : SimSX K ts qs
section
variable {X : Cx} {K : PySem.W.Frag} {st : Stmt} {rest sa sb : List Stmt} {e c : Expr} {es : List Expr} {pos p cpos : Pos} {te : TE} {qe : QE} {tx : (St → XK) → TE} {qx : QX} {tc : TT} {qc : QT} {t u : TS} {qt qu : QS} {ts us : (St → XK) → TS} {qs qr : QSX} {tl : TA} {ql : QA}
theorem qssx_of (h : QPSs X K rest t qt) : QPSsX X K rest (fun _ => t) (fun _ => qt) := ⟨fun _ _ _ => h.h, fun dl H₀ hs H σ q Dq D _ _ r hq E _ => h.s dl H₀ hs H σ q Dq D r hq E⟩
theorem qssx_one (h : QPSX X K st ts qs) : QPSsX X K [st] ts qs := ⟨fun Es a b => pss_one (h.h Es a b), h.s⟩
theorem qssx_cons (h1 : QPSX X K st ts qs) (h2 : QPSsX X K rest us qr) : QPSsX X K (st :: rest) (fun Es => tSeq (ts Es) (us Es)) (fun W D q => qs W { D with nx := fun q' => qr W D q' } q) :=
  ⟨fun Es a b => pss_cons (h1.h Es a b) (h2.h Es a b), fun dl H₀ hs H σ q Dq D W Es r hq E x => h1.s dl H₀ hs H σ q _ _ W Es r hq ⟨fun H σ q r' hq' => h2.s dl H₀ hs H σ q _ _ W Es r' hq' E x, E.bk, E.ct, E.rt⟩ x⟩
theorem qsx_if (hc : QPT X K c tc qc) (ha : QPSsX X K sa ts qs) (hb : QPSsX X K sb us qr) : QPSX X K (.If c sa sb pos) (fun Es => tIfS tc (ts Es) (us Es)) (fun W D q => qc q fun b => if b = true then qs W D q else qr W D q) :=
  ⟨fun Es a b => ps_if hc.h (ha.h Es a b) (hb.h Es a b), fun dl H₀ hs H σ q Dq D W Es ⟨F, r⟩ hq E x => hc.s dl H σ q _ _ r.rd hq fun b H' e1 hz => by
    cases b with
    | true => exact ha.s dl H₀ hs H' σ q Dq D W Es ⟨F, r.evo e1⟩ hz E x
    | false => exact hb.s dl H₀ hs H' σ q Dq D W Es ⟨F, r.evo e1⟩ hz E x⟩
theorem XOk.at {dl : Dl} {H₀ H : Hp} {hs : List (V × T)} {W : Sq → QW} {Es : St → XK} {σ : St} {q : Sq} {F : Nat → List Addr} (x : XOk K dl H₀ hs W Es) (r : Rel K dl H₀ hs H σ q F) : ∀ a C ns us H', Evo dl H H' → Rp K dl H' (.ref a) (.xc C ns us) [] → W q C ns us → Es σ (.ref C) (some a) H' :=
  fun a C ns us H' e1 r1 hw => x H' σ q a C ns us ⟨F, r.evo e1⟩ r1 hw
theorem qsx_expr (he : QPX X K e tx qx) (hs : swapsWith e none pos.line X.env = pure false := by rfl) : QPSX X K (.Expr e pos) (fun Es => tDrop (tx Es)) (fun W D q => qx q (fun _ => D.nx q) (W q)) :=
  ⟨fun Es a _ => ps_expr (he.h Es a) hs, fun dl H₀ hs H σ q Dq D W Es ⟨F, r⟩ hq E x => he.s dl H σ q _ _ _ Es r.rd hq (fun v t F' H' e1 _ _ _ hz => E.nx H' σ q ⟨F, r.evo e1⟩ hz) (x.at r)⟩
variable {C fa : Addr} {fn fsN ps : List Str} {bm : List Value} {k : Nat} {fd : FuncData} {x : Str}
theorem upd2 {H : Hp} {a : Addr} {o o' : HO} : upd (upd H a o) a o' = upd H a o' := by
  funext b
  by_cases h : b = a
  · rw [h, upd_same, upd_same]
  · rw [upd_ne h, upd_ne h, upd_ne h]
theorem sim_raiseX {n : Nat} {ini : Option Addr} (M : XCls K fn C bm ini) (h : SimA K n tl ql) : SimSX K (fun Es => tRaise K fn Es (tMakeX C fsN tl)) (fun W _ q => ql q fun ts => T.ims ts = true ∧ ts.length = fsN.length ∧ ts.length ≤ 1000 ∧ W q C fsN ts) := by
  intro dl H₀ hs H σ q Dq D W Es ⟨F, r⟩ hq E x
  refine h dl H σ q _ _ r.rd hq fun vs ts F1 H1 e1 r1 _ hz => ?_
  obtain ⟨z1, z2, z3, z4⟩ := hz
  have f := r1.r.im z1
  subst f
  have hl := r1.r.len
  refine ⟨hl.trans z2, by rw [hl]; exact z3, fun a d ha hd ne => ⟨a, C, bm, ini, some d, rfl, M, upd_same, ?_⟩⟩
  rw [upd2]
  have ev := evo_made (o1 := .ext (XD d (fsN.zip vs))) (o2 := .ext (XAt a C (some d) false)) e1.d ha hd ne
  have r2 := r1.evo e1.d ev
  exact x.at r a C fsN ts _ (e1.trans ev) ⟨.e (.inr ⟨d, ne, upd_same, by rw [upd_ne ne, upd_same]⟩) r2.r, fun _ z => nomatch z⟩ z4
theorem qsx_raise (hK : X.K = K) (hc : X.calm = true) (M : XCls K fn C bm (some fa)) (hfn : PySem.W.isFn K (.ref fa) = true) (kp : PySem.W.keepIn K (.ref C) = true) (F : FnOk X.prog X.w X.K X.mg X.base CX0 k fa fd ps (spIni C fsN)) (hr : Room (k + 1) X.A) (hg : Gl X x) (hm : X.mg x = some (.ref C)) (hb : Binds X.K fd ps [])
    (ha : QPA X K (e :: es) tl ql) (hdb : (x == ("__debug__" : Str)) = false := by decide) (he : starEach (e :: es) X.env = (false, eval e X.env) :: starEach es X.env := by rfl) (hpl : (backTo cpos (starEach es X.env)).any (·.1) = false := by rfl) :
    QPSX X K (.Raise (some (.Call (.Name x p) (e :: es) [] cpos)) none pos) (fun Es => tRaise K fn Es (tMakeX C fsN tl)) (fun W _ q => ql q fun ts => T.ims ts = true ∧ ts.length = fsN.length ∧ ts.length ≤ 1000 ∧ W q C fsN ts) := by
  subst hK
  exact ⟨fun Es _ b => ps_raise hc b (pe_makeX M hfn kp F hr hg hm hb ha.h hdb he hpl), sim_raiseX M ha.s⟩
theorem qsx_raise0 (hK : X.K = K) (hc : X.calm = true) (M : XCls K fn C bm none) (kp : PySem.W.keepIn K (.ref C) = true) (hg : Gl X x) (hm : X.mg x = some (.ref C)) (hdb : (x == ("__debug__" : Str)) = false := by decide) :
    QPSX X K (.Raise (some (.Call (.Name x p) [] [] cpos)) none pos) (fun Es => tRaise K fn Es (tMakeX0 C)) (fun W _ q => W q C [] []) := by
  subst hK
  refine ⟨fun Es _ b => ps_raise hc b (pe_makeX0 M kp hg hm hdb), fun dl H₀ hs H σ q Dq D W Es ⟨F, r⟩ hq E x a ha => ⟨a, C, bm, none, none, rfl, M, upd_same, ?_⟩⟩
  rw [upd2]
  have ev := (Evo.refl r.d).new (o := .ext (XAt a C none false)) ha
  exact x.at r a C [] [] _ ev ⟨.e (vs := []) (.inl ⟨rfl, upd_same⟩) .nil, fun _ z => nomatch z⟩ hq
end
abbrev PSpX := List T → (T → Prop) → QW → Prop
def spQX (K : PySem.W.Frag) (ps : PSpX) : Sp := fun vs H Q E => ∃ (dl : Dl) (ts : List T) (F : List Addr) (Qp : T → Prop) (Wp : QW), Dls dl H ∧ Rps K dl H vs ts F ∧ ps ts Qp Wp ∧
  (∀ v t F' H', Evo dl H H' → Rp K dl H' v t F' → (∀ b ∈ F', H b = none) → F'.Nodup → Qp t → Q v H') ∧ ∀ a C ns us H', Evo dl H H' → Rp K dl H' (.ref a) (.xc C ns us) [] → Wp C ns us → E (.ref C) (some a) H'
section
variable {X : Cx} {K : PySem.W.Frag} {e : Expr} {es : List Expr} {tl : TA} {ql : QA} {pos p : Pos} {x : Str} {k : Nat} {f : Addr} {fd : FuncData} {prs : List Str} {ps : PSpX}
theorem qx_call (F : FnOk X.prog X.w X.K X.mg X.base (CX1 X.prog X.w) k f fd prs (spQX K ps)) (hr : Room k X.A) (hg : Gl X x) (hm : X.mg x = some (.ref f)) (hk : PySem.W.keepIn X.K (.ref f) = true) (hb : Binds X.K fd prs []) (ha : QPA X K (e :: es) tl ql)
    (hdb : (x == ("__debug__" : Str)) = false := by decide) (he : starEach (e :: es) X.env = (false, eval e X.env) :: starEach es X.env := by rfl) (hpl : (backTo pos (starEach es X.env)).any (·.1) = false := by rfl) :
    QPX X K (.Call (.Name x p) (e :: es) [] pos) (fun Es => tCallX (spQX K ps) Es tl) (fun q Q W => ql q fun ts => ps ts Q W) :=
  ⟨fun Es a => pe_callX F hr hg hm hk hb a ha.h hdb he hpl, fun dl H σ q Q W R Es rd hq k1 k2 => ha.s dl H σ q _ _ rd hq fun vs ts F H1 e1 r1 _ hz =>
    ⟨dl, ts, F, Q, W, e1.d, r1, hz, fun v t F' H' e r f n hz => k1 v t F' H' (e1.trans e) r (fun b hb => e1.free (f b hb)) n hz, fun a C ns us H' e r hw => k2 a C ns us H' (e1.trans e) r hw⟩⟩
end
theorem Fun.okQX {P : Program} {w : World} {K : PySem.W.Frag} {mg : Str → Option Value} {base : Heap} {x qual : Str} {st : Stmt} {f : Addr} {fd : FuncData} {N ps : List Str} {k : Nat} {psp : PSpX} (F : Fun K x qual st f fd) (S : FnScope N ps (defScope st)) (len : ∀ ts Q W, psp ts Q W → ts.length = ps.length)
    (hbody : ∀ (cdv : Value) (A : Around) (outer : List Env) (s : Shared) (H : Hp) (E : XK), Room k (A.deeper (envOfC qual (defScope st) s.heap.objs.size f cdv)) →
      ∃ t qs, QPSsX (cxOf (CX1 P w) P w K mg base N qual (defScope st) f cdv A outer s H E) K (defBody st) t qs ∧ ∀ ts Q W, psp ts Q W → qs (fun _ => W) { nx := fun _ => Q .n, rt := Q } (ts.map Sl.r ++ List.replicate (N.length - ts.length) .no)) : FnOk P w K mg base (CX1 P w) (k + 1) f fd ps (spQX K psp) := by
  have hPN : ps.length ≤ N.length := by have := congrArg List.length S.pre; rw [List.length_take] at this; omega
  refine F.okX S (fun vs H Q E h => ?_) (fun cdv A outer s H vs Q E hr h => ?_)
  · obtain ⟨dl, ts, F, Qp, Wp, _, r, h, _⟩ := h
    rw [r.r.len]; exact len ts Qp Wp h
  · obtain ⟨dl, ts, Fp, Qp, Wp, D, r, h, fin, fix⟩ := h
    obtain ⟨t, qs, hb, hq⟩ := hbody cdv A outer s H E hr
    refine ⟨t fun _ => E, hb.h _ passes_def raises_def, ?_⟩
    have hlen := len ts Qp Wp h
    have hl := r.r.len
    have z := hq ts Qp Wp h
    have R := rel_start (n := N.length) D r (by omega)
    rw [← hl] at z
    refine hb.s dl H [] H _ _ _ _ _ _ R z ⟨fun H' σ q ⟨F, r'⟩ hz => ?_, fun _ _ _ _ hz => hz.elim, fun _ _ _ _ hz => hz.elim, fun v t F H' D' r' f' n' fr hz => ?_⟩ fun H' σ q a C ns us ⟨F, r'⟩ rp hw => ?_
    · exact fin .non .n [] H' ⟨r'.f, r'.d⟩ ⟨.n, fun _ z => nomatch z⟩ (fun _ z => nomatch z) List.nodup_nil hz
    · exact fin v t F H' ⟨fr, D'⟩ r' f' n' hz
    · exact fix a C ns us H' ⟨r'.f, r'.d⟩ rp hw
abbrev QH := Addr → List Str → List T → QS
def SimH (K : PySem.W.Frag) (th : TH) (qh : QH) : Prop := ∀ (dl : Dl) (H₀ : Hp) (hs : List (V × T)) (H : Hp) (σ : St) (q : Sq) (Dq : EndsQ) (D : Ends) (a C : Addr) (ns : List Str) (us : List T), RelX K dl H₀ hs H σ q → Rp K dl H (.ref a) (.xc C ns us) [] → qh C ns us Dq q → EndsOk K dl H₀ hs Dq D → th a C D σ H
structure QPH (X : Cx) (K : PySem.W.Frag) (hs : List ExceptHandler) (th : TH) (qh : QH) : Prop where
  h : PH X hs th
  s : SimH K th qh
def EndsQ.go (D : EndsQ) (i : Nat) : EndsQ := { nx := fun q => D.nx (q.set i .no), rt := D.rt, bk := fun q => D.bk (q.set i .no), ct := fun q => D.ct (q.set i .no) }
theorem RelX.clear {K : PySem.W.Frag} {dl : Dl} {H₀ H : Hp} {hs : List (V × T)} {σ : St} {q : Sq} (r : RelX K dl H₀ hs H σ q) (i : Nat) : RelX K dl H₀ hs H (σ.set i none) (q.set i .no) := by
  obtain ⟨F, r⟩ := r
  refine ⟨setF F i [], r.d, fun j x t h1 h2 => ?_, fun j x h1 h2 => ?_, fun j hj => ?_, fun j u h1 => ?_, fun p hp => ?_, r.f, by simp [r.l]⟩
  · rcases get_set h1 with ⟨rfl, rfl, _⟩ | ⟨ne, h1⟩
    · cases h2
    · obtain ⟨w, h3, h4⟩ := r.g j x t h1 h2
      exact ⟨w, by rw [List.getElem?_set_ne (fun z => ne z.symm)]; exact h3, by rw [setF_ne ne]; exact h4⟩
  · rcases get_set h1 with ⟨rfl, rfl, _⟩ | ⟨ne, h1⟩
    · rw [setF_same]
    · rw [setF_ne ne]; exact r.n j x h1 h2
  · by_cases ej : j = i
    · rw [ej, setF_same]
    · rw [setF_ne ej]
      rw [List.length_set] at hj
      exact r.z j hj
  · rcases get_set h1 with ⟨rfl, e, _⟩ | ⟨ne, h1⟩
    · cases e
    · rw [setF_ne ne]
      obtain ⟨o1, o2, o3⟩ := r.o j u h1
      refine ⟨o1, o2, fun k hk b hb => ?_⟩
      by_cases ek : k = i
      · rw [ek, setF_same]; exact fun z => nomatch z
      · rw [setF_ne ek]; exact o3 k hk b hb
  · obtain ⟨Fp, h1, h2⟩ := r.h p hp
    refine ⟨Fp, h1, fun j u hj b hb z => ?_⟩
    rcases get_set hj with ⟨rfl, e, _⟩ | ⟨ne, hj⟩
    · cases e
    · rw [setF_ne ne] at hb
      exact h2 j u hj b hb z
section
variable {X : Cx} {K : PySem.W.Frag} {fn : List Str} {C' : Addr} {bm' : List Value} {ini' : Option Addr} {x n : Str} {p pos : Pos} {b0 : Stmt} {suite : List Stmt} {rest : List ExceptHandler} {ts : TS} {qs : QS} {tr : TH} {qr : QH} {i : Nat}
def qhNever : QH := fun _ _ _ _ _ => False
theorem qh_never {hs : List ExceptHandler} : QPH X K hs hNever qhNever := ⟨ph_never, fun _ _ _ _ _ _ _ _ _ _ _ _ _ _ h _ => h.elim⟩
def qhOwn (K : PySem.W.Frag) (fn : List Str) (C' : Addr) (qs : QS) (qr : QH) : QH := fun C ns us D q => ∃ bm ini, XCls K fn C bm ini ∧ if (Value.ref C :: bm).contains (.ref C') = true then qs D q else qr C ns us D q
def qhAs (K : PySem.W.Frag) (fn : List Str) (C' : Addr) (i : Nat) (qs : QS) (qr : QH) : QH := fun C ns us D q => ∃ bm ini, XCls K fn C bm ini ∧ if (Value.ref C :: bm).contains (.ref C') = true then qs (D.go i) (q.set i (.r (.xc C ns us))) else qr C ns us D q
theorem qh_own (hK : X.K = K) (hg : Gl X x) (hm : X.mg x = some (.ref C')) (c' : XCls K fn C' bm' ini') (hsu : ∀ a, QPSs (X.inX a) K (b0 :: suite) ts qs) (hr : QPH X K rest tr qr) (hdb : (x == ("__debug__" : Str)) = false := by decide) :
    QPH X K (.ExceptHandler (some (.Name x p)) none (b0 :: suite) pos :: rest) (hOwn K fn C' ts tr) (qhOwn K fn C' qs qr) := by
  subst hK
  refine ⟨ph_own hg hm c' (fun a => (hsu a).h) hr.h hdb, fun dl H₀ hs H σ q Dq D a C ns us r rp hq E => ?_⟩
  obtain ⟨bm, ini, c, hq⟩ := hq
  refine ⟨bm, ini, c, fun z => ?_, fun z => ?_⟩
  · rw [if_pos z] at hq; exact (hsu a).s dl H₀ hs H σ q Dq D r hq E
  · rw [if_neg (by rw [z]; decide)] at hq; exact hr.s dl H₀ hs H σ q Dq D a C ns us r rp hq E
theorem qh_as (hK : X.K = K) (hN : X.N.Nodup) (hi : X.N[i]? = some n) (hk : X.env.scope.names.lookup n = some .local) (hg : Gl X x) (hm : X.mg x = some (.ref C')) (c' : XCls K fn C' bm' ini') (hsu : ∀ a, QPSs (X.inX a) K (b0 :: suite) ts qs) (hr : QPH X K rest tr qr) (hdb : (x == ("__debug__" : Str)) = false := by decide) :
    QPH X K (.ExceptHandler (some (.Name x p)) (some n) (b0 :: suite) pos :: rest) (hAs K fn C' i ts tr) (qhAs K fn C' i qs qr) := by
  subst hK
  refine ⟨ph_as hN hi hk hg hm c' (fun a => (hsu a).h) hr.h hdb, fun dl H₀ hs H σ q Dq D a C ns us r rp hq E => ?_⟩
  obtain ⟨bm, ini, c, hq⟩ := hq
  refine ⟨bm, ini, c, fun z => ?_, fun z => ?_⟩
  · rw [if_pos z] at hq
    have r2 : RelX X.K dl H₀ hs H (σ.set i (some (.ref a))) (q.set i (.r (.xc C ns us))) := by
      obtain ⟨F, r⟩ := r
      by_cases hiq : i < q.length
      · exact ⟨_, r.putR hiq rp fun _ _ _ _ _ _ z => nomatch z⟩
      · have hl := r.l
        rw [List.set_eq_of_length_le (by omega), List.set_eq_of_length_le (by omega)]
        exact ⟨F, r⟩
    exact (hsu a).s dl H₀ hs H _ _ (Dq.go i) (D.go i) r2 hq ⟨fun H σ q r h => E.nx H _ _ (r.clear i) h, fun H σ q r h => E.bk H _ _ (r.clear i) h, fun H σ q r h => E.ct H _ _ (r.clear i) h, E.rt⟩
  · rw [if_neg (by rw [z]; decide)] at hq; exact hr.s dl H₀ hs H σ q Dq D a C ns us r rp hq E
theorem qs_try {body : List Stmt} {h0 : ExceptHandler} {hs : List ExceptHandler} {th : TH} {qh : QH} {tb : (St → XK) → TS} {qb : QSX} (hb : ∀ pn xe, QPSsX (X.tryX pn xe) K body tb qb) (hh : QPH X K (h0 :: hs) th qh) (hst : X.stack = X.env :: X.outer := by rfl) (hf : X.env.frame = some X.env.locals := by rfl) :
    QPS X K (.Try body (h0 :: hs) [] [] pos) (tTry th tb) (fun D q => qb (fun q' C ns us => qh C ns us D q') D q) :=
  ⟨ps_try hst hf (fun Es pn xe a b => (hb pn xe).h Es a b) hh.h, fun dl H₀ hs H σ q Dq D r hq E => (hb [] fun _ _ => False).s dl H₀ hs H σ q Dq D _ _ r hq E fun H σ q a C ns us r rp hw => ⟨a, C, rfl, rfl, hh.s dl H₀ hs H σ q Dq D a C ns us r rp hw E⟩⟩
end
end L2
namespace L2
open PySem PySem.Spec PyProof.Rows
section
variable {X : Cx} {K : PySem.W.Frag} {dl : Dl} {H : Hp} {a b e : Expr} {ta tb te : TE} {qa qb qe : QE} {pos : Pos}
theorem RepFs.getS : ∀ {vs : List V} {ts : List T} {F : List Addr} {i : Nat} {t : T}, RepFs K dl H vs ts F → ts[i]? = some t → ∃ v G, vs[i]? = some v ∧ RepF K dl H v t G ∧ G.Sublist F
  | _, _, _, _, _, .nil, h => by simp at h
  | _, _, _, 0, _, .cons h r, e => by
    simp at e
    subst e
    exact ⟨_, _, by simp, h, List.sublist_append_left _ _⟩
  | _, _, _, i + 1, t, .cons h r, e => by
    obtain ⟨v, G, h1, h2, h3⟩ := RepFs.getS (i := i) (t := t) r (by simpa using e)
    exact ⟨v, G, by simpa using h1, h2, h3.trans (List.sublist_append_right _ _)⟩
def qIxN (qa qb : QE) : QE := fun q Q => qa q fun t => qb q fun u => match t, u with
  | .l xs, .i k => ∃ x, atI xs k = some x ∧ Q x
  | _, _ => False
theorem qe_ixN (ha : QPF X K a ta qa) (hb : QPE X K b tb qb) (hs : PlainIx b := by intro _ _; rfl) (hK : X.K = K := by rfl) : QPF X K (.Subscript a b pos) (tOp (rIx K) ta tb) (qIxN qa qb) := by
  refine ⟨by subst hK; exact pe_ix ix_seq ha.h hb.h hs, fun dl H σ q Q R rd hq k => ?_⟩
  refine ha.s dl H σ q _ _ rd hq fun v t F H1 e1 r1 f1 n1 hq1 => ?_
  refine hb.s dl H1 σ q _ _ (rd.evo e1) hq1 fun w u G H2 e2 r2 hq2 => ?_
  have r1 := r1.evo e1.d e2
  split at hq2
  · obtain ⟨rfl, rfl⟩ := r2.r.int
    obtain ⟨p, vs, G, rfl, rfl, h1, h2⟩ := r1.r.lst
    obtain ⟨z, hz, hq⟩ := hq2
    obtain ⟨j, hj, hi⟩ := atI_len hz h2.len.symm
    obtain ⟨v, G', hv, rv, hs⟩ := h2.getS hj
    have sub : ∀ c ∈ G', c ∈ p :: G := fun c hc => List.mem_cons_of_mem _ (hs.subset hc)
    exact .inl ⟨p, vs, _, v, rfl, rfl, SqL.of h1, atI_of hi hv, k v z G' H2 (e1.trans e2) (Rp.sub rv r1.n sub) (fun c hc => f1 c (sub c hc)) ((List.nodup_cons.mp n1).2.sublist hs) hq⟩
  · exact hq2.elim
def rNeF (K : PySem.W.Frag) : R2 := fun x y H Q => ∃ p q vs ws, x = .ref p ∧ y = .ref q ∧ SqL K H p vs ∧ SqL K H q ws ∧ vs.all flatV = true ∧ ws.all flatV = true ∧ Q (.bl (!eqVs vs ws)) H
theorem op_neF (hu : X.A.units + 1 < cLine) : OpR X (compareOp .NotEq) (rNeF X.K) := by
  intro pins s σ H x y v u Q I rx ry h
  obtain ⟨p, q, vs, ws, rfl, rfl, h1, h2, f1, f2, k⟩ := h
  cases rx
  cases ry
  obtain ⟨its, r1, p1, _⟩ := I.list h1
  obtain ⟨its2, r2, p2, _⟩ := I.list h2
  have l1 := r1.length
  have l2 := r2.length
  by_cases hl : its.length = its2.length
  · refine SeqAt.RcNeAt.lists (e := fun j => match vs[j]?, ws[j]? with | some x, some y => eqV x y | _, _ => false) p1.isList p2.isList (by simpa using hl) (by omega) (fun j g1 g2 => ?_) X.prog X.w X.xe _ ⟨.bl _, H, I, rfl, ?_⟩
    · obtain ⟨a, ea, ra⟩ := r1.at' g1
      obtain ⟨b, eb, rb⟩ := r2.at' g2
      simp only [ea, eb]
      exact eqAt_V ra rb (flat_at f1 ea) (flat_at f2 eb)
    · have e : eqVs vs ws = (List.range its.toArray.size).all fun j => match vs[j]?, ws[j]? with | some x, some y => eqV x y | _, _ => false := by
        unfold eqVs
        rw [show (vs.length == ws.length) = true from by simp; omega, Bool.true_and, List.size_toArray, l1]
        try rfl
      rw [← e]
      exact k
  · refine SeqAt.RcNeAt.lists_lengths p1.isList p2.isList (by simpa using hl) (by omega) X.prog X.w X.xe _ ⟨.bl _, H, I, rfl, ?_⟩
    have e : eqVs vs ws = false := by
      unfold eqVs
      rw [show (vs.length == ws.length) = false from by simp; omega, Bool.false_and]
    rw [e] at k
    exact k
def qNeL : Q2 := fun t u Q => match t, u with
  | .l xs, .l ys => (fls xs && fls ys) = true ∧ Q (.b (!eqF xs ys))
  | _, _ => False
theorem op_neL (hu : X.A.units + 1 < cLine) (hK : X.K = K) : OpR X (compareOp .NotEq) (rNeF K) := by subst hK; exact op_neF hu
theorem sim_neL : SimOF K (rNeF K) qNeL := by
  intro dl H x y t u F G Q R D r1 r2 hq k
  unfold qNeL at hq
  split at hq
  · obtain ⟨p, vs, G1, rfl, rfl, h1, h2⟩ := r1.r.lst
    obtain ⟨p', vs', G2, rfl, rfl, h3, h4⟩ := r2.r.lst
    obtain ⟨f, hq⟩ := hq
    rw [Bool.and_eq_true] at f
    obtain ⟨rfl, rfl⟩ := h2.vs f.1
    obtain ⟨rfl, rfl⟩ := h4.vs f.2
    exact ⟨p, p', _, _, rfl, rfl, SqL.of h1, SqL.of h3, flat_v f.1, flat_v f.2, k _ _ [] H (.refl D) (.c (.b _)) (fun _ z => nomatch z) List.nodup_nil hq⟩
  · exact hq.elim
theorem eqF_refl {xs : List T} (h : ∀ x ∈ xs, eqV x.v x.v = true) : eqF xs xs = true := by
  unfold eqF eqVs
  simp only [beq_self_eq_true, Bool.true_and, List.all_eq_true, List.mem_range, List.length_map]
  intro i hi
  simp only [List.getElem?_map, List.getElem?_eq_getElem hi, Option.map_some]
  exact h _ (List.getElem_mem hi)
def putO (q : Sq) : List Nat → List T → Option Sq
  | [], [] => some q
  | i :: is, x :: xs => if i < q.length then putO (q.set i (.o x)) is xs else none
  | _, _ => none
theorem Rel.putO {H₀ : Hp} {hs : List (V × T)} {σ : St} {q : Sq} {F : Nat → List Addr} {i : Nat} {v : V} {t : T} {F' : List Addr} (r : Rel K dl H₀ hs H σ q F) (hi : i < q.length) (hv : Rp K dl H v t F') (hn : F'.Nodup) (h0 : ∀ b ∈ F', H₀ b = none) (hd : ∀ j, ∀ b ∈ F', b ∉ F j)
    (hh : ∀ p ∈ hs, ∃ Fp, Rp K dl H p.1 p.2 Fp ∧ (∀ (j : Nat) (t : T), q[j]? = some (.o t) → ∀ b ∈ F j, b ∉ Fp) ∧ ∀ b ∈ F', b ∉ Fp) : Rel K dl H₀ hs H (σ.set i (some v)) (q.set i (.o t)) (setF F i F') := by
  refine ⟨r.d, fun j x u h1 h2 => ?_, fun j x h1 h2 => ?_, fun j hj => ?_, fun j u h1 => ?_, fun p hp => ?_, r.f, by simp [r.l]⟩
  · rcases get_set h1 with ⟨rfl, rfl, _⟩ | ⟨ne, h1⟩
    · cases h2
      exact ⟨v, by rw [List.getElem?_set_self (by rw [← r.l]; exact hi)], by rw [setF_same]; exact hv⟩
    · obtain ⟨w, h3, h4⟩ := r.g j x u h1 h2
      exact ⟨w, by rw [List.getElem?_set_ne (fun z => ne z.symm)]; exact h3, by rw [setF_ne ne]; exact h4⟩
  · rcases get_set h1 with ⟨rfl, rfl, _⟩ | ⟨ne, h1⟩
    · cases h2
    · rw [setF_ne ne]; exact r.n j x h1 h2
  · rw [List.length_set] at hj
    rw [setF_ne (by omega)]
    exact r.z j hj
  · rcases get_set h1 with ⟨rfl, _, _⟩ | ⟨ne, h1⟩
    · rw [setF_same]
      exact ⟨hn, h0, fun k hk b hb => by rw [setF_ne hk]; exact hd k b hb⟩
    · rw [setF_ne ne]
      obtain ⟨o1, o2, o3⟩ := r.o j u h1
      refine ⟨o1, o2, fun k hk b hb => ?_⟩
      by_cases ek : k = i
      · subst ek
        rw [setF_same]
        exact fun z => hd j b z hb
      · rw [setF_ne ek]; exact o3 k hk b hb
  · obtain ⟨Fp, h1, h2, h3⟩ := hh p hp
    refine ⟨Fp, h1, fun j u hj b hb => ?_⟩
    rcases get_set hj with ⟨rfl, _, _⟩ | ⟨ne, hj⟩
    · rw [setF_same] at hb
      exact h3 b hb
    · rw [setF_ne ne] at hb
      exact h2 j u hj b hb
theorem rel_namesO {H₀ : Hp} {hs : List (V × T)} : ∀ {is : List Nat} {vs : List V} {xs : List T} {G : List Addr} {σ : St} {q q' : Sq} {F : Nat → List Addr} {R : St → Hp → Prop}, Rel K dl H₀ hs H σ q F → RepFs K dl H vs xs G → (∀ b ∈ G, Nd dl b) → G.Nodup → (∀ b ∈ G, H₀ b = none) →
    (∀ j, ∀ b ∈ G, b ∉ F j) → (∀ p ∈ hs, ∃ Fp, Rp K dl H p.1 p.2 Fp ∧ (∀ (j : Nat) (t : T), q[j]? = some (.o t) → ∀ b ∈ F j, b ∉ Fp) ∧ ∀ b ∈ G, b ∉ Fp) → L2.putO q is xs = some q' → (∀ σ', RelX K dl H₀ hs H σ' q' → R σ' H) → gNames is vs σ H R
  | [], vs, xs, G, σ, q, q', F, R, r, rs, _, _, _, _, _, hp, k => by
    cases xs with
    | cons _ _ => cases hp
    | nil =>
      cases rs
      cases hp
      exact ⟨rfl, k σ ⟨F, r⟩⟩
  | i :: is, vs, xs, G, σ, q, q', F, R, r, rs, gn, gd, g0, gf, gh, hp, k => by
    cases xs with
    | nil => cases hp
    | cons x xs =>
      cases rs with
      | @cons v _ vs _ F1 G1 h1 h2 =>
        unfold L2.putO at hp
        split at hp
        · rename_i hi
          obtain ⟨d1, d2, d3⟩ := List.nodup_append.mp gd
          have r2 := r.putO hi ⟨h1, fun b hb => gn b (List.mem_append_left _ hb)⟩ d1 (fun b hb => g0 b (List.mem_append_left _ hb)) (fun j b hb => gf j b (List.mem_append_left _ hb)) fun p hp => by
            obtain ⟨Fp, a1, a2, a3⟩ := gh p hp
            exact ⟨Fp, a1, a2, fun b hb => a3 b (List.mem_append_left _ hb)⟩
          refine ⟨v, vs, rfl, rel_namesO (is := is) r2 h2 (fun b hb => gn b (List.mem_append_right _ hb)) d2 (fun b hb => g0 b (List.mem_append_right _ hb)) (fun j b hb => ?_) (fun p hp => ?_) hp k⟩
          · by_cases ej : j = i
            · rw [ej, setF_same]
              exact fun z => d3 b z b hb rfl
            · rw [setF_ne ej]; exact gf j b (List.mem_append_right _ hb)
          · obtain ⟨Fp, a1, a2, a3⟩ := gh p hp
            refine ⟨Fp, a1, fun j u hj b hb => ?_, fun b hb => a3 b (List.mem_append_right _ hb)⟩
            rcases get_set hj with ⟨rfl, _, _⟩ | ⟨ne, hj⟩
            · rw [setF_same] at hb
              exact a3 b (List.mem_append_left _ hb)
            · rw [setF_ne ne] at hb
              exact a2 j u hj b hb
        · cases hp
def qUnpO (is : List Nat) (qe : QE) : QS := fun D q => qe q fun t => match t with
  | .t xs => ∃ q', putO q is xs = some q' ∧ D.nx q'
  | _ => False
theorem sim_unpO {is : List Nat} (he : SimF K te qe) : SimS K (tAsg te (gTup K is.length (gNames is))) (qUnpO is qe) := fun dl H₀ hs H σ q Dq D ⟨F, r⟩ hq E => he dl H σ q _ _ r.rd hq fun v t F' H' e1 r1 f1 n1 hz => by
  split at hz
  · obtain ⟨q', hp, hz⟩ := hz
    obtain ⟨p, vs, rfl, h1, h2⟩ := r1.r.tup
    have hl : ∀ {is : List Nat} {xs : List T} {q q' : Sq}, putO q is xs = some q' → xs.length = is.length := by
      intro is
      induction is with
      | nil =>
        intro xs q q' h
        cases xs with
        | nil => rfl
        | cons _ _ => cases h
      | cons i is ih =>
        intro xs q q' h
        cases xs with
        | nil => cases h
        | cons x xs =>
          unfold putO at h
          split at h
          · simp [ih h]
          · cases h
    refine ⟨p, vs, rfl, SqT.of h1, by rw [h2.len]; exact hl hp, ?_⟩
    refine rel_namesO (r.evo e1) h2 r1.n n1 (fun b hb => r.fz (f1 b hb)) (fun j b hb z => (r.thereF z).no (f1 b hb)) (fun w hw => ?_) hp fun σ' r' => E.nx _ _ _ r' hz
    obtain ⟨Fp, a1, a2⟩ := r.h w hw
    exact ⟨Fp, a1.evo r.d e1, a2, fun b hb z => There.no (a1.r.there b z) (f1 b hb)⟩
  · exact hz.elim
theorem qs_unpO {tg : Expr} {is : List Nat} (he : QPF X K e te qe) (hg : PG X tg (gTup K is.length (gNames is))) (hs : swapsWithSole [tg] e pos.line X.env = pure false := by rfl) (hw : swappedStores [tg] e X.env = pure none := by rfl)
    (h1 : (assignEach [tg] X.env).map (·.2) = [assign tg X.env] := by rfl) : QPS X K (.Assign [tg] e pos) (tAsg te (gTup K is.length (gNames is))) (qUnpO is qe) := ⟨ps_asg he.h hg hs hw h1, sim_unpO he.s⟩
end
end L2
namespace L2
open PySem PySem.Spec PyProof.Rows
section
variable {X : Cx} {K : PySem.W.Frag} {dl : Dl}
theorem it_zipL {a b : Addr} {xs ys : List T} : ItOk K dl (Itz K false false a b) (zipT xs ys) [(.ref a, .l xs), (.ref b, .l ys)] where
  go := fun H i D h hi => by
    obtain ⟨F, r⟩ := h (.ref a, .l xs) (by simp)
    obtain ⟨F', r'⟩ := h (.ref b, .l ys) (by simp)
    obtain ⟨p, vs, G, e, eF, h1, h2⟩ := r.r.lst
    cases e
    obtain ⟨p', vs', G', e', eF', h1', h2'⟩ := r'.r.lst
    cases e'
    rw [zipT_len] at hi
    have l1 : i < vs.length := by rw [h2.len]; omega
    have l2 : i < vs'.length := by rw [h2'.len]; omega
    exact ⟨vs, vs', vs[i], vs'[i], SqL.of h1, SqL.of h1', by simp [l1], by simp [l2]⟩
  yld := fun H i x fp v H' D h hx y => by
    have r := h (.ref a, .l xs) (by simp)
    have r' := h (.ref b, .l ys) (by simp)
    obtain ⟨p, vs, G, e, eF, h1, h2⟩ := r.r.lst
    cases e
    obtain ⟨p', vs', G', e', eF', h1', h2'⟩ := r'.r.lst
    cases e'
    obtain ⟨x1, y1, hx1, hy1, rfl⟩ := zipT_at hx
    obtain ⟨w1, G1, hw1, rw1, hs1⟩ := h2.get hx1
    obtain ⟨w2, G2, hw2, rw2, hs2⟩ := h2'.get hy1
    obtain ⟨q, u1, u2, hq, rfl, rfl, y1', y2'⟩ := y
    have e1 := y1' vs (SqL.of h1)
    rw [hw1] at e1
    cases e1
    have e2 := y2' vs' (SqL.of h1')
    rw [hw2] at e2
    cases e2
    have m1 : ∀ c ∈ G1, c ∈ fp (.ref a, .l xs) := fun c hc => by rw [eF]; exact List.mem_cons_of_mem _ (hs1 c hc)
    have m2 : ∀ c ∈ G2, c ∈ fp (.ref b, .l ys) := fun c hc => by rw [eF']; exact List.mem_cons_of_mem _ (hs2 c hc)
    have rs : Rps K dl H [w1, w2] [x1, y1] (G1 ++ (G2 ++ [])) := Rps.cons ⟨rw1, fun b hb => r.n b (m1 b hb)⟩ (Rps.cons ⟨rw2, fun b hb => r'.n b (m2 b hb)⟩ ⟨.nil, fun _ z => nomatch z⟩)
    refine ⟨(Evo.refl D).new hq, _, rs.tup D hq, fun c hb => .inr ?_⟩
    rw [List.append_nil] at hb
    rcases List.mem_append.mp hb with z | z
    · exact ⟨(.ref a, .l xs), by simp, m1 c z⟩
    · exact ⟨(.ref b, .l ys), by simp, m2 c z⟩
  stop := fun H D h => by
    obtain ⟨F, r⟩ := h (.ref a, .l xs) (by simp)
    obtain ⟨F', r'⟩ := h (.ref b, .l ys) (by simp)
    obtain ⟨p, vs, G, e, eF, h1, h2⟩ := r.r.lst
    cases e
    obtain ⟨p', vs', G', e', eF', h1', h2'⟩ := r'.r.lst
    cases e'
    refine ⟨vs, vs', SqL.of h1, SqL.of h1', ?_⟩
    rw [zipT_len, h2.len, h2'.len]
    omega
variable {tg e a b : Expr} {te ta tb : TE} {qe qa qb : QE} {tl : TA} {ql : QA} {pos p : Pos}
def asZL (ql : QA) : QI := fun q Q => ql q fun ts => match ts with | [.l xs, .l ys] => Q (zipT xs ys) | _ => False
theorem qi_zipL {elts : List Expr} {x1} {pos' : Pos} (hg : Gl X "zip") (hm : X.mg "zip" = none) (hboot : bootBuiltins "zip" = some (.type "zip")) (ha : QPA X K [a, b] tl ql) (hs : starEach [a, b] X.env = [(false, eval a X.env), (false, eval b X.env)] := by rfl) (hs2 : starEach [b] X.env = [(false, eval b X.env)] := by rfl) (hK : X.K = K := by rfl) :
    QPI X K (.Tuple elts x1 pos') (.Call (.Name "zip" p) [a, b] [] pos) (iZip K false false tl) (asZL ql) := ⟨pi_zipK hK hg hm hboot ha.h hs hs2, fun dl H σ q Q R rd hq k => ha.s dl H σ q _ _ rd hq fun vs ts F H' e1 r _ hz => by
  split at hz
  · obtain ⟨v, w, F1, F2, rfl, r1, r2⟩ := r.two
    obtain ⟨l1, vs1, G1, rfl, eF, h1, h2⟩ := r1.r.lst
    obtain ⟨l2, vs2, G2, rfl, eF', h3, h4⟩ := r2.r.lst
    exact ⟨l1, l2, rfl, ⟨vs1, SqL.of h1⟩, ⟨vs2, SqL.of h3⟩, k _ _ _ H' e1 it_zipL (fun p hp => by
      simp only [List.mem_cons, List.not_mem_nil, or_false] at hp
      rcases hp with rfl | rfl
      · exact ⟨_, r1⟩
      · exact ⟨_, r2⟩) hz⟩
  · exact hz.elim⟩
end
end L2
namespace K05
open PySem L2
def top (i : Nat) : Stmt := PySem.Challenge.pw_pursewright_k05_refusals.main.body.getD i (.Pass ⟨0, 0, 0, 0⟩)
def inClass (s : Stmt) (j : Nat) : Stmt := match s with
  | .ClassDef _ _ _ b _ _ _ _ _ _ _ => b.getD j (.Pass ⟨0, 0, 0, 0⟩)
  | s => s
abbrev fns : List Str := ["row", "word", "name", "maker"]
theorem mem_row : ("row" : Str) ∈ fns := by simp [fns]
theorem mem_word : ("word" : Str) ∈ fns := by simp [fns]
theorem mem_name : ("name" : Str) ∈ fns := by simp [fns]
theorem mem_maker : ("maker" : Str) ∈ fns := by simp [fns]
theorem fo_row : FOk "row" := by unfold FOk; rw [typeLookup_type, builtinLookup_eq_fast]; kernel_rfl
theorem fo_word : FOk "word" := by unfold FOk; rw [typeLookup_type, builtinLookup_eq_fast]; kernel_rfl
theorem fo_name : FOk "name" := by unfold FOk; rw [typeLookup_type, builtinLookup_eq_fast]; kernel_rfl
theorem fo_maker : FOk "maker" := by unfold FOk; rw [typeLookup_type, builtinLookup_eq_fast]; kernel_rfl
abbrev si_NoText : Stmt := inClass (top 2) 0
theorem sci_NoText : FnScope ["self", "row"] ["self", "row"] (defScope si_NoText) := ⟨rfl, rfl, rfl, by decide +kernel, rfl, by decide +kernel, by decide +kernel⟩
abbrev si_NoProgram : Stmt := inClass (top 3) 0
theorem sci_NoProgram : FnScope ["self", "word", "name"] ["self", "word", "name"] (defScope si_NoProgram) := ⟨rfl, rfl, rfl, by decide +kernel, rfl, by decide +kernel, by decide +kernel⟩
abbrev si_NoPaper : Stmt := inClass (top 5) 0
theorem sci_NoPaper : FnScope ["self", "row"] ["self", "row"] (defScope si_NoPaper) := ⟨rfl, rfl, rfl, by decide +kernel, rfl, by decide +kernel, by decide +kernel⟩
abbrev si_NoChain : Stmt := inClass (top 7) 0
theorem sci_NoChain : FnScope ["self", "maker"] ["self", "maker"] (defScope si_NoChain) := ⟨rfl, rfl, rfl, by decide +kernel, rfl, by decide +kernel, by decide +kernel⟩
abbrev s_deal : Stmt := top 10
theorem sc_deal : FnScope ["_law_script", "_law_base", "_law_cells", "_law_number", "_law_cell"] ["_law_script", "_law_base"] (defScope s_deal) := ⟨rfl, rfl, rfl, by decide +kernel, rfl, by decide +kernel, by decide +kernel⟩
abbrev s_draw : Stmt := top 11
theorem sc_draw : FnScope ["_law_deal_here", "_law_many", "_law_number", "_law_one", "_law_other"] ["_law_deal_here", "_law_many"] (defScope s_draw) := ⟨rfl, rfl, rfl, by decide +kernel, rfl, by decide +kernel, by decide +kernel⟩
abbrev s_letters : Stmt := top 12
theorem sc_letters : FnScope ["_law_deal_here", "_law_many"] ["_law_deal_here"] (defScope s_letters) := ⟨rfl, rfl, rfl, by decide +kernel, rfl, by decide +kernel, by decide +kernel⟩
abbrev s_raise : Stmt := top 13
theorem sc_raise : FnScope ["_law_k", "_law_row", "_law_word", "_law_name"] ["_law_k", "_law_row", "_law_word", "_law_name"] (defScope s_raise) := ⟨rfl, rfl, rfl, by decide +kernel, rfl, by decide +kernel, by decide +kernel⟩
abbrev s_fields : Stmt := top 14
theorem sc_fields : FnScope ["_law_k", "_law_row", "_law_word", "_law_name", "_law_found", "_law_e"] ["_law_k", "_law_row", "_law_word", "_law_name"] (defScope s_fields) := ⟨rfl, rfl, rfl, by decide +kernel, rfl, by decide +kernel, by decide +kernel⟩
abbrev s_stands : Stmt := top 15
theorem sc_stands : FnScope ["_law_k", "_law_row", "_law_word", "_law_name", "_law_found", "_law_e"] ["_law_k", "_law_row", "_law_word", "_law_name"] (defScope s_stands) := ⟨rfl, rfl, rfl, by decide +kernel, rfl, by decide +kernel, by decide +kernel⟩
abbrev s_right : Stmt := top 16
theorem sc_right : FnScope ["_law_k", "_law_row", "_law_word", "_law_name", "_law_due"] ["_law_k", "_law_row", "_law_word", "_law_name"] (defScope s_right) := ⟨rfl, rfl, rfl, by decide +kernel, rfl, by decide +kernel, by decide +kernel⟩
abbrev s_side_by_side : Stmt := top 17
theorem sc_side_by_side : FnScope ["_law_lines", "_law_words", "_law_names", "_law_texts", "_law_programs", "_law_chains"] ["_law_lines", "_law_words", "_law_names"] (defScope s_side_by_side) := ⟨rfl, rfl, rfl, by decide +kernel, rfl, by decide +kernel, by decide +kernel⟩
abbrev s_law : Stmt := top 18
theorem sc_law : FnScope ["_law_script", "_law_deal_here", "_law_lines", "_law_words", "_law_names", "_law_k"] ["_law_script"] (defScope s_law) := ⟨rfl, rfl, rfl, by decide +kernel, rfl, by decide +kernel, by decide +kernel⟩
structure Adr where
  c_PurseError : Addr
  c_NoText : Addr
  i_NoText : Addr
  di_NoText : FuncData
  c_NoProgram : Addr
  i_NoProgram : Addr
  di_NoProgram : FuncData
  c_NoValue : Addr
  c_NoPaper : Addr
  i_NoPaper : Addr
  di_NoPaper : FuncData
  c_NoTurn : Addr
  c_NoChain : Addr
  i_NoChain : Addr
  di_NoChain : FuncData
  c_NoRow : Addr
  f_deal : Addr
  d_deal : FuncData
  f_draw : Addr
  d_draw : FuncData
  f_letters : Addr
  d_letters : FuncData
  f_raise : Addr
  d_raise : FuncData
  f_fields : Addr
  d_fields : FuncData
  f_stands : Addr
  d_stands : FuncData
  f_right : Addr
  d_right : FuncData
  f_side_by_side : Addr
  d_side_by_side : FuncData
  f_law : Addr
  d_law : FuncData
structure Txt (K : PySem.W.Frag) (mg : Str → Option Value) (a : Adr) : Prop where
  x_PurseError : XCls K fns a.c_PurseError (bmV) none
  mx_PurseError : mg "PurseError" = some (.ref a.c_PurseError)
  kx_PurseError : PySem.W.keepIn K (.ref a.c_PurseError) = true
  x_NoText : XCls K fns a.c_NoText (.ref a.c_PurseError :: bmV) (some a.i_NoText)
  mx_NoText : mg "NoText" = some (.ref a.c_NoText)
  kx_NoText : PySem.W.keepIn K (.ref a.c_NoText) = true
  FI_NoText : Fun K "__init__" "NoText.__init__" si_NoText a.i_NoText a.di_NoText
  fi_NoText : PySem.W.isFn K (.ref a.i_NoText) = true
  bi_NoText : Binds K a.di_NoText ["self", "row"] []
  x_NoProgram : XCls K fns a.c_NoProgram (.ref a.c_PurseError :: bmV) (some a.i_NoProgram)
  mx_NoProgram : mg "NoProgram" = some (.ref a.c_NoProgram)
  kx_NoProgram : PySem.W.keepIn K (.ref a.c_NoProgram) = true
  FI_NoProgram : Fun K "__init__" "NoProgram.__init__" si_NoProgram a.i_NoProgram a.di_NoProgram
  fi_NoProgram : PySem.W.isFn K (.ref a.i_NoProgram) = true
  bi_NoProgram : Binds K a.di_NoProgram ["self", "word", "name"] []
  x_NoValue : XCls K fns a.c_NoValue (.ref a.c_PurseError :: bmV) none
  mx_NoValue : mg "NoValue" = some (.ref a.c_NoValue)
  kx_NoValue : PySem.W.keepIn K (.ref a.c_NoValue) = true
  x_NoPaper : XCls K fns a.c_NoPaper (.ref a.c_PurseError :: bmV) (some a.i_NoPaper)
  mx_NoPaper : mg "NoPaper" = some (.ref a.c_NoPaper)
  kx_NoPaper : PySem.W.keepIn K (.ref a.c_NoPaper) = true
  FI_NoPaper : Fun K "__init__" "NoPaper.__init__" si_NoPaper a.i_NoPaper a.di_NoPaper
  fi_NoPaper : PySem.W.isFn K (.ref a.i_NoPaper) = true
  bi_NoPaper : Binds K a.di_NoPaper ["self", "row"] []
  x_NoTurn : XCls K fns a.c_NoTurn (.ref a.c_PurseError :: bmV) none
  mx_NoTurn : mg "NoTurn" = some (.ref a.c_NoTurn)
  kx_NoTurn : PySem.W.keepIn K (.ref a.c_NoTurn) = true
  x_NoChain : XCls K fns a.c_NoChain (.ref a.c_PurseError :: bmV) (some a.i_NoChain)
  mx_NoChain : mg "NoChain" = some (.ref a.c_NoChain)
  kx_NoChain : PySem.W.keepIn K (.ref a.c_NoChain) = true
  FI_NoChain : Fun K "__init__" "NoChain.__init__" si_NoChain a.i_NoChain a.di_NoChain
  fi_NoChain : PySem.W.isFn K (.ref a.i_NoChain) = true
  bi_NoChain : Binds K a.di_NoChain ["self", "maker"] []
  x_NoRow : XCls K fns a.c_NoRow (.ref a.c_PurseError :: bmV) none
  mx_NoRow : mg "NoRow" = some (.ref a.c_NoRow)
  kx_NoRow : PySem.W.keepIn K (.ref a.c_NoRow) = true
  nd : [a.c_PurseError, a.c_NoText, a.c_NoProgram, a.c_NoValue, a.c_NoPaper, a.c_NoTurn, a.c_NoChain, a.c_NoRow].Nodup
  F_deal : Fun K "_law_deal" "_law_deal" s_deal a.f_deal a.d_deal
  m_deal : mg "_law_deal" = some (.ref a.f_deal)
  b_deal : Binds K a.d_deal ["_law_script", "_law_base"] []
  F_draw : Fun K "_law_draw" "_law_draw" s_draw a.f_draw a.d_draw
  m_draw : mg "_law_draw" = some (.ref a.f_draw)
  b_draw : Binds K a.d_draw ["_law_deal_here", "_law_many"] []
  F_letters : Fun K "_law_letters" "_law_letters" s_letters a.f_letters a.d_letters
  m_letters : mg "_law_letters" = some (.ref a.f_letters)
  b_letters : Binds K a.d_letters ["_law_deal_here"] []
  F_raise : Fun K "_law_raise" "_law_raise" s_raise a.f_raise a.d_raise
  m_raise : mg "_law_raise" = some (.ref a.f_raise)
  b_raise : Binds K a.d_raise ["_law_k", "_law_row", "_law_word", "_law_name"] []
  F_fields : Fun K "_law_fields" "_law_fields" s_fields a.f_fields a.d_fields
  m_fields : mg "_law_fields" = some (.ref a.f_fields)
  b_fields : Binds K a.d_fields ["_law_k", "_law_row", "_law_word", "_law_name"] []
  F_stands : Fun K "_law_stands" "_law_stands" s_stands a.f_stands a.d_stands
  m_stands : mg "_law_stands" = some (.ref a.f_stands)
  b_stands : Binds K a.d_stands ["_law_k", "_law_row", "_law_word", "_law_name"] []
  F_right : Fun K "_law_right" "_law_right" s_right a.f_right a.d_right
  m_right : mg "_law_right" = some (.ref a.f_right)
  b_right : Binds K a.d_right ["_law_k", "_law_row", "_law_word", "_law_name"] []
  F_side_by_side : Fun K "_law_side_by_side" "_law_side_by_side" s_side_by_side a.f_side_by_side a.d_side_by_side
  m_side_by_side : mg "_law_side_by_side" = some (.ref a.f_side_by_side)
  b_side_by_side : Binds K a.d_side_by_side ["_law_lines", "_law_words", "_law_names"] []
  F_law : Fun K "law" "law" s_law a.f_law a.d_law
  m_law : mg "law" = some (.ref a.f_law)
  b_law : Binds K a.d_law ["_law_script"] []
  b_len : mg "len" = none
  b_all : mg "all" = none
  b_list : mg "list" = none
  b_reversed : mg "reversed" = none
  b_max : mg "max" = none
  b_range : mg "range" = none
  b_isinstance : mg "isinstance" = none
  b_zip : mg "zip" = none
  b_ValueError : mg "ValueError" = none
def letters : Str := "abcdefghijklmnopqrstuvwxyz"
theorem lett_at {i : Int} (h0 : 0 ≤ i) (h1 : i < 26) : atI (Str.cps letters).toList i = some (lett i.toNat) := by
  obtain ⟨n, rfl⟩ : ∃ n : Nat, i = n := ⟨i.toNat, by omega⟩
  have h2 : n < 26 := by omega
  have h3 : ∀ n : Fin 26, atI (Str.cps letters).toList (n.val : Int) = some (lett n.val) := by decide +kernel
  have := h3 ⟨n, h2⟩
  simpa using this
def psLetters : PSp := fun ts Q => ts = [.deal] ∧ ∀ w : Str, w.length ≤ 8 → Q (.s w)
def excOf (a : Adr) (k : Int) (row : T) (word name : Str) : Addr × List Str × List T :=
  if k = 0 then (a.c_NoText, ["row"], [row]) else if k = 1 then (a.c_NoProgram, ["word", "name"], [.s word, .s name]) else if k = 2 then (a.c_NoValue, [], []) else if k = 3 then (a.c_NoPaper, ["row"], [row])
  else if k = 4 then (a.c_NoTurn, [], []) else if k = 5 then (a.c_NoChain, ["maker"], [.s name]) else (a.c_NoRow, [], [])
def Row (t : T) : Prop := t = .n ∨ ∃ i, t = .i i
theorem Row.im {t : T} (h : Row t) : t.im = true := by
  rcases h with rfl | ⟨i, rfl⟩ <;> rfl
def psRaise (a : Adr) : PSpX := fun ts _ W => ∃ k row word name, ts = [.i k, row, .s word, .s name] ∧ Row row ∧ 0 ≤ k ∧ k ≤ 6 ∧ W (excOf a k row word name).1 (excOf a k row word name).2.1 (excOf a k row word name).2.2
def due (k : Int) (row : T) (word name : Str) : List T :=
  if k = 0 then [.i 0, row] else if k = 1 then [.i 1, .s word, .s name] else if k = 2 then [.i 2] else if k = 3 then [.i 3, row] else if k = 4 then [.i 4] else if k = 5 then [.i 5, .s name] else [.i 6]
def psFields : PSp := fun ts Q => ∃ k row word name, ts = [.i k, row, .s word, .s name] ∧ Row row ∧ 0 ≤ k ∧ k ≤ 6 ∧ Q (.l (due k row word name))
def psTrue : PSp := fun ts Q => ∃ k row word name, ts = [.i k, row, .s word, .s name] ∧ Row row ∧ 0 ≤ k ∧ k ≤ 6 ∧ Q (.b true)
def psSide : PSp := fun ts Q => ∃ (ls : List Int) (ws ns : List Str), ts = [.l (ls.map .i), .l (ws.map .s), .l (ns.map .s)] ∧ ls.length ≤ 100 ∧ ws.length ≤ 100 ∧ ns.length = ws.length ∧ Q (.b true)
theorem nd_ne {l : List Addr} (h : l.Nodup) {x y : Addr} (i j : Nat) (hi : l[i]? = some x) (hj : l[j]? = some y) (ne : i ≠ j) : x ≠ y := fun z => by
  subst z
  obtain ⟨h1, e1⟩ := List.getElem?_eq_some_iff.mp hi
  obtain ⟨h2, e2⟩ := List.getElem?_eq_some_iff.mp hj
  exact ne ((List.getElem_inj h).mp (e1.trans e2.symm))
theorem sub_no {C B C' : Addr} (h1 : C' ≠ C) (h2 : C' ≠ B) : (Value.ref C :: .ref B :: bmV).contains (.ref C') = false := by
  have e1 : (Value.ref C' == Value.ref C) = false := beq_eq_false_iff_ne.mpr fun z => h1 (Value.ref.inj z)
  have e2 : (Value.ref C' == Value.ref B) = false := beq_eq_false_iff_ne.mpr fun z => h2 (Value.ref.inj z)
  rw [List.contains_cons, List.contains_cons, e1, e2]
  rfl
theorem sub_me {C : Addr} {bm : List Value} : (Value.ref C :: bm).contains (.ref C) = true := by rw [List.contains_cons, beq_self_eq_true, Bool.true_or]
theorem sub_up {C B : Addr} {bm : List Value} : (Value.ref C :: .ref B :: bm).contains (.ref B) = true := by rw [List.contains_cons, List.contains_cons, beq_self_eq_true, Bool.true_or, Bool.or_true]
section
variable {K : PySem.W.Frag} {fn : List Str} {C C' : Addr} {bm : List Value} {ini : Option Addr} {i : Nat} {qs : QS} {qr : QH} {ns : List Str} {us : List T} {D : EndsQ} {q : Sq}
theorem asNo (c : XCls K fn C bm ini) (h : (Value.ref C :: bm).contains (.ref C') = false) (k : qr C ns us D q) : qhAs K fn C' i qs qr C ns us D q := ⟨bm, ini, c, by rw [if_neg (by rw [h]; decide)]; exact k⟩
theorem asYes (c : XCls K fn C bm ini) (h : (Value.ref C :: bm).contains (.ref C') = true) (k : qs (D.go i) (q.set i (.r (.xc C ns us)))) : qhAs K fn C' i qs qr C ns us D q := ⟨bm, ini, c, by rw [if_pos h]; exact k⟩
theorem ownNo (c : XCls K fn C bm ini) (h : (Value.ref C :: bm).contains (.ref C') = false) (k : qr C ns us D q) : qhOwn K fn C' qs qr C ns us D q := ⟨bm, ini, c, by rw [if_neg (by rw [h]; decide)]; exact k⟩
theorem ownYes (c : XCls K fn C bm ini) (h : (Value.ref C :: bm).contains (.ref C') = true) (k : qs D q) : qhOwn K fn C' qs qr C ns us D q := ⟨bm, ini, c, by rw [if_pos h]; exact k⟩
end
theorem stands_tail {k : Int} {L : List T} {r1 r2 r3 r5 : Sl} {Q : T → Prop} (hL : L = (List.range 7).map (fun j => L2.T.b (decide (V.int (0 + (j : Nat)) = V.int k))) ++ [.b true]) (hq : Q (.b true)) :
    qOp qEq3 (qVar 4) (qOp qAdd (qComp [none, some 0] (asR1 (qCons (qC (L2.T.i 7)) qNil)) (Tg.nm 0) qTst0 (qOp qEq3 (qVar 0) (qVar 1))) (qLst (qCons (qC (L2.T.b true)) qNil))) [.r (.i k), r1, r2, r3, .o (.l L), r5] Q := by
  refine ⟨by decide, by decide, small1000 (by rw [rng_len]; decide), fun i ys => ys = (List.range i).map (fun j => L2.T.b (decide (V.int (0 + (j : Nat)) = V.int k))), rfl, ?_, ?_⟩
  · rintro i x ys hx rfl
    obtain ⟨rfl, hi⟩ := rng_at hx
    refine ⟨_, rfl, rfl, ?_⟩
    show _ ++ [_] = _
    rw [List.range_succ, List.map_append]
    rfl
  · rintro ys rfl
    rw [rng_len, show (Int.toNat 7) = 7 from rfl]
    refine ⟨by rw [List.length_map, List.length_range]; decide, ?_, rfl, ?_⟩
    · rfl
    · subst hL
      refine ⟨rfl, ?_⟩
      rw [eqF_refl fun x hx => ?_]
      · exact hq
      · rcases List.mem_append.mp hx with z | z
        · obtain ⟨j, _, rfl⟩ := List.mem_map.mp z
          simp [eqV, L2.T.v]
        · rw [List.mem_singleton.mp z]
          rfl
theorem comp_in {caps : List (Option Nat)} {g : Tg} {el : QE} {q : Sq} {Q : T → Prop} {xs : List T} (f : T → T) (h1 : xs.length ≤ 1000) (h2 : ∀ x ∈ xs, ∃ q', g.put x (captQ caps q) = some q' ∧ ∀ R : T → Prop, R (f x) → el q' R) (h3 : Q (.l (xs.map f))) :
    xs.length < sizeLine ∧ ∃ I : Nat → List T → Prop, I 0 [] ∧ (∀ i x ys, xs[i]? = some x → I i ys → ∃ q', g.put x (captQ caps q) = some q' ∧ qTst0 q' fun b => if b = true then el q' fun y => I (i + 1) (ys ++ [y]) else I (i + 1) ys) ∧ ∀ ys, I xs.length ys → Q (.l ys) := by
  refine ⟨small1000 h1, fun i ys => ys = (xs.take i).map f, rfl, fun i x ys hx e => ?_, fun ys e => ?_⟩
  · obtain ⟨q', e1, e2⟩ := h2 x (List.mem_of_getElem? hx)
    refine ⟨q', e1, ?_⟩
    show el q' _
    refine e2 _ ?_
    show ys ++ [f x] = _
    rw [e, List.take_succ, hx, List.map_append]
    rfl
  · rw [e, List.take_length]
    exact h3
theorem comp_L {caps : List (Option Nat)} {g : Tg} {el : QE} {q : Sq} {Q : T → Prop} {xs : List T} {i : Nat} (f : T → T) (hi : q[i]? = some (.r (.l xs)) ∨ q[i]? = some (.o (.l xs))) (h1 : xs.length ≤ 1000) (h2 : ∀ x ∈ xs, ∃ q', g.put x (captQ caps q) = some q' ∧ ∀ R : T → Prop, R (f x) → el q' R) (h3 : Q (.l (xs.map f))) :
    qComp caps (asL (qVar i)) g qTst0 el q Q := by
  have z := comp_in (caps := caps) (g := g) (el := el) (q := q) (Q := Q) f h1 h2 h3
  unfold qComp asL qVar
  rcases hi with e | e <;> (rw [e]; exact z)
theorem comp_Z {caps : List (Option Nat)} {g : Tg} {el : QE} {q : Sq} {Q : T → Prop} {xs ys : List T} {i j : Nat} (f : T → T) (hi : q[i]? = some (.r (.l xs))) (hj : q[j]? = some (.r (.l ys))) (h1 : (zipT xs ys).length ≤ 1000) (h2 : ∀ x ∈ zipT xs ys, ∃ q', g.put x (captQ caps q) = some q' ∧ ∀ R : T → Prop, R (f x) → el q' R) (h3 : Q (.l ((zipT xs ys).map f))) :
    qComp caps (asZL (qCons (qVar i) (qCons (qVar j) qNil))) g qTst0 el q Q := by
  have z := comp_in (caps := caps) (g := g) (el := el) (q := q) (Q := Q) f h1 h2 h3
  unfold qComp asZL qCons qVar
  rw [hi]
  dsimp only
  rw [hj]
  exact z
theorem fls_strs (ws : List Str) : fls (ws.map T.s) = true := by
  unfold fls
  rw [List.all_map, List.all_eq_true]
  exact fun _ _ => rfl
theorem fls_ints (ws : List Int) : fls (ws.map T.i) = true := by
  unfold fls
  rw [List.all_map, List.all_eq_true]
  exact fun _ _ => rfl
theorem eqF_s (ws : List Str) : eqF (ws.map T.s) (ws.map T.s) = true := eqF_refl fun x hx => by
  obtain ⟨w, _, rfl⟩ := List.mem_map.mp hx
  simp [eqV, L2.T.v]
theorem eqF_i (ws : List Int) : eqF (ws.map T.i) (ws.map T.i) = true := eqF_refl fun x hx => by
  obtain ⟨w, _, rfl⟩ := List.mem_map.mp hx
  simp [eqV, L2.T.v]
def fld1 : T → T
  | .xc _ _ [x] => x
  | t => t
def fldA : T → T
  | .xc _ _ [x, _] => x
  | t => t
def fldB : T → T
  | .xc _ _ [_, y] => y
  | t => t
def mk2 (c : Addr) : T → T
  | .t [x, y] => .xc c ["word", "name"] [x, y]
  | t => t
theorem progs_at {c : Addr} {ws ns : List Str} {x : T} (h : x ∈ (zipT (ws.map T.s) (ns.map T.s))) : ∃ w n, x = .t [.s w, .s n] := by
  unfold zipT at h
  obtain ⟨p, hp, rfl⟩ := List.mem_map.mp h
  obtain ⟨w, _, e1⟩ := List.mem_map.mp (List.of_mem_zip hp).1
  obtain ⟨n, _, e2⟩ := List.mem_map.mp (List.of_mem_zip hp).2
  exact ⟨w, n, by rw [← e1, ← e2]⟩
theorem progs_A {c : Addr} : ∀ {ws ns : List Str}, ns.length = ws.length → ((zipT (ws.map T.s) (ns.map T.s)).map (mk2 c)).map fldA = ws.map T.s
  | [], [], _ => rfl
  | w :: ws, n :: ns, h => by
    have ih := progs_A (c := c) (ws := ws) (ns := ns) (by simpa using h)
    show T.s w :: ((zipT (ws.map T.s) (ns.map T.s)).map (mk2 c)).map fldA = _
    rw [ih]
    rfl
theorem progs_B {c : Addr} : ∀ {ws ns : List Str}, ns.length = ws.length → ((zipT (ws.map T.s) (ns.map T.s)).map (mk2 c)).map fldB = ns.map T.s
  | [], [], _ => rfl
  | w :: ws, n :: ns, h => by
    have ih := progs_B (c := c) (ws := ws) (ns := ns) (by simpa using h)
    show T.s n :: ((zipT (ws.map T.s) (ns.map T.s)).map (mk2 c)).map fldB = _
    rw [ih]
    rfl
theorem due_ok {k : Int} {row : T} {word name : Str} (h : Row row) : fls (due k row word name) = true ∧ eqF (due k row word name) (due k row word name) = true := by
  have hf : fls (due k row word name) = true ∧ ∀ x ∈ due k row word name, eqV x.v x.v = true := by
    unfold due
    rcases h with rfl | ⟨i, rfl⟩ <;> (repeat' split) <;> exact ⟨rfl, fun x hx => by simp only [List.mem_cons, List.not_mem_nil, or_false] at hx; first | (rcases hx with rfl | rfl | rfl <;> simp [eqV, L2.T.v]) | (rcases hx with rfl | rfl <;> simp [eqV, L2.T.v]) | (rw [hx]; simp [eqV, L2.T.v])⟩
  exact ⟨hf.1, eqF_refl hf.2⟩
theorem due_at {k : Int} {row : T} {word name : Str} (h0 : 0 ≤ k) (h6 : k ≤ 6) : atI [L2.T.l [.i 0, row], .l [.i 1, .s word, .s name], .l [.i 2], .l [.i 3, row], .l [.i 4], .l [.i 5, .s name], .l [.i 6]] k = some (.l (due k row word name)) := by
  rcases (show k = 0 ∨ k = 1 ∨ k = 2 ∨ k = 3 ∨ k = 4 ∨ k = 5 ∨ k = 6 by omega) with rfl | rfl | rfl | rfl | rfl | rfl | rfl <;> rfl
theorem atI_in {α : Type} {xs : List α} {k : Int} (h0 : -(xs.length : Int) ≤ k) (h1 : k < xs.length) : ∃ x ∈ xs, atI xs k = some x := by
  have go : ∀ j : Nat, j < xs.length → ixN xs.length k = some j → ∃ x ∈ xs, atI xs k = some x := fun j hj e => by
    refine ⟨xs[j], List.getElem_mem hj, ?_⟩
    unfold atI
    rw [e]
    simp [hj]
  unfold ixN at go
  by_cases hk : 0 ≤ k
  · exact go k.toNat (by omega) (by rw [if_pos hk, if_pos h1])
  · exact go (k + xs.length).toNat (by omega) (by rw [if_neg hk, if_pos h0])
theorem atI_ints {ls : List Int} {k : Int} (h0 : -(ls.length : Int) ≤ k) (h1 : k < ls.length) : ∃ l, atI (ls.map T.i) k = some (.i l) := by
  obtain ⟨x, hx, e⟩ := atI_in (xs := ls.map T.i) (k := k) (by simpa using h0) (by simpa using h1)
  obtain ⟨l, _, rfl⟩ := List.mem_map.mp hx
  exact ⟨l, e⟩
theorem atI_strs {ls : List Str} {k : Int} (h0 : -(ls.length : Int) ≤ k) (h1 : k < ls.length) : ∃ l, atI (ls.map T.s) k = some (.s l) := by
  obtain ⟨x, hx, e⟩ := atI_in (xs := ls.map T.s) (k := k) (by simpa using h0) (by simpa using h1)
  obtain ⟨l, _, rfl⟩ := List.mem_map.mp hx
  exact ⟨l, e⟩
section
variable {P : Program} {w : World} {K : PySem.W.Frag} {mg : Str → Option Value} {base : Heap} {a : Adr}
theorem ok_iNoText (T : Txt K mg a) : FnOk P w K mg base CX0 1 a.i_NoText a.di_NoText ["self", "row"] (spIni a.c_NoText ["row"]) := by
  refine Fun.ok (k := 0) T.FI_NoText sci_NoText (fun vs H Q E h => ?_) fun cdv A outer s H vs Q E hr h => ?_
  · obtain ⟨b, ys, rfl, hl, _⟩ := h
    simp [hl]
  · refine ⟨_, pss_one (ps_fldX (fn := fns) (pv 0) (pv 1)), ?_⟩
    obtain ⟨b, ys, rfl, hl, hb, k⟩ := h
    obtain ⟨y, rfl⟩ : ∃ y, ys = [y] := List.length_eq_one_iff.mp hl
    exact ⟨y, rfl, .ref b, rfl, b, a.c_NoText, true, _, _, rfl, T.x_NoText, mem_row, fo_row, .inl ⟨hb, fun d hd ne => k d hd ne⟩⟩
theorem ok_iNoProgram (T : Txt K mg a) : FnOk P w K mg base CX0 1 a.i_NoProgram a.di_NoProgram ["self", "word", "name"] (spIni a.c_NoProgram ["word", "name"]) := by
  refine Fun.ok (k := 0) T.FI_NoProgram sci_NoProgram (fun vs H Q E h => ?_) fun cdv A outer s H vs Q E hr h => ?_
  · obtain ⟨b, ys, rfl, hl, _⟩ := h
    simp [hl]
  · refine ⟨_, pss_cons (ps_fldX (fn := fns) (pv 0) (pv 1)) (pss_one (ps_fldX (fn := fns) (pv 0) (pv 2))), ?_⟩
    obtain ⟨b, ys, rfl, hl, hb, k⟩ := h
    obtain ⟨y, z, rfl⟩ : ∃ y z, ys = [y, z] := (match ys, hl with | [y, z], _ => ⟨y, z, rfl⟩)
    refine ⟨y, rfl, .ref b, rfl, b, a.c_NoProgram, true, _, _, rfl, T.x_NoProgram, mem_word, fo_word, .inl ⟨hb, fun d hd ne => ?_⟩⟩
    refine ⟨z, rfl, .ref b, rfl, b, a.c_NoProgram, true, _, _, rfl, T.x_NoProgram, mem_name, fo_name, .inr ⟨d, _, ne, upd_same, by rw [upd_ne ne, upd_same], (by show 1 < 1000; decide), ?_⟩⟩
    have e : upd (upd (upd H d (.ext (XD d [("word", y)]))) b (.ext (XAt b a.c_NoProgram (some d) true))) d (.ext (XD d (putF "name" z [("word", y)]))) = upd (upd H d (.ext (XD d ((["word", "name"] : List Str).zip [y, z])))) b (.ext (XAt b a.c_NoProgram (some d) true)) := by
      funext c
      by_cases h1 : c = d
      · subst h1
        rw [upd_same, upd_ne ne, upd_same]
        rfl
      · rw [upd_ne h1]
        by_cases h2 : c = b
        · rw [h2, upd_same, upd_same]
        · rw [upd_ne h2, upd_ne h2, upd_ne h1, upd_ne h1]
    show Q .non _
    rw [e]
    exact k d hd ne
theorem ok_iNoPaper (T : Txt K mg a) : FnOk P w K mg base CX0 1 a.i_NoPaper a.di_NoPaper ["self", "row"] (spIni a.c_NoPaper ["row"]) := by
  refine Fun.ok (k := 0) T.FI_NoPaper sci_NoPaper (fun vs H Q E h => ?_) fun cdv A outer s H vs Q E hr h => ?_
  · obtain ⟨b, ys, rfl, hl, _⟩ := h
    simp [hl]
  · refine ⟨_, pss_one (ps_fldX (fn := fns) (pv 0) (pv 1)), ?_⟩
    obtain ⟨b, ys, rfl, hl, hb, k⟩ := h
    obtain ⟨y, rfl⟩ : ∃ y, ys = [y] := List.length_eq_one_iff.mp hl
    exact ⟨y, rfl, .ref b, rfl, b, a.c_NoPaper, true, _, _, rfl, T.x_NoPaper, mem_row, fo_row, .inl ⟨hb, fun d hd ne => k d hd ne⟩⟩
theorem ok_iNoChain (T : Txt K mg a) : FnOk P w K mg base CX0 1 a.i_NoChain a.di_NoChain ["self", "maker"] (spIni a.c_NoChain ["maker"]) := by
  refine Fun.ok (k := 0) T.FI_NoChain sci_NoChain (fun vs H Q E h => ?_) fun cdv A outer s H vs Q E hr h => ?_
  · obtain ⟨b, ys, rfl, hl, _⟩ := h
    simp [hl]
  · refine ⟨_, pss_one (ps_fldX (fn := fns) (pv 0) (pv 1)), ?_⟩
    obtain ⟨b, ys, rfl, hl, hb, k⟩ := h
    obtain ⟨y, rfl⟩ : ∃ y, ys = [y] := List.length_eq_one_iff.mp hl
    exact ⟨y, rfl, .ref b, rfl, b, a.c_NoChain, true, _, _, rfl, T.x_NoChain, mem_maker, fo_maker, .inl ⟨hb, fun d hd ne => k d hd ne⟩⟩
theorem ok_draw (T : Txt K mg a) : FnOk P w K mg base CX0 1 a.f_draw a.d_draw ["_law_deal_here", "_law_many"] spDraw := by
  refine T.F_draw.ok sc_draw (fun vs H Q E h => ?_) (fun cdv A outer s H vs Q E hr h => ?_)
  · obtain ⟨d, l, m, rfl, _⟩ := h
    rfl
  · obtain ⟨d, l, m, rfl, ⟨s0, n0, ls0, D0⟩, m0, m1, k⟩ := h
    have hu := hu_of hr
    refine ⟨_, ((pss_cons (ps_while PassesOwn.never (PW.pt (pw_and (pt_cmpR op_eq (pe_dget hu (pv 0) pe_str (fun _ _ => rfl)) pe_int (nomark _)) (pw_and1 (pt_cmpR op_gt (pe_callB call_len_seq (by rfl) T.b_len PySem.boot_len (pa_cons (pe_dget hu (pv 0) pe_str (fun _ _ => rfl)) pa_nil)) pe_int (nomark _)))))
  (pss_one (ps_dput hu (pv 0) pe_str (pe_bm0 PySem.F.plainAttrs_list PySem.F.slot_list_pop PySem.F.type_list_pop mt_pop (pe_dget hu (pv 0) pe_str (fun _ _ => rfl))) rfl)))
  (pss_cons (ps_set (i := 2) sc_draw.nd rfl (Or.inl rfl) (pe_dget hu (pv 0) pe_str (fun _ _ => rfl)))
  (pss_cons (ps_if (pt_cmpR op_gt (pv 2) pe_int (nomark _))
  (pss_cons (ps_dput hu (pv 0) pe_str (pe_op op_fdivB (pv 2) (pv 1)) rfl)
  (pss_one (ps_ret (pe_op op_mod (pv 2) (pv 1)))))
  pss_nil)
  (pss_cons (ps_set (i := 3) sc_draw.nd rfl (Or.inl rfl) (pe_op op_mod (pe_op op_add (pe_op op_mul (pe_dget hu (pv 0) pe_str (fun _ _ => rfl)) pe_int) pe_int) pe_int))
  (pss_cons (ps_dput hu (pv 0) pe_str (pe_op op_mod (pe_op op_add (pe_op op_mul (pv 3) pe_int) pe_int) pe_int) rfl)
  (pss_cons (ps_set (i := 4) sc_draw.nd rfl (Or.inl rfl) (pe_op op_mod (pe_op op_mul (pe_dget hu (pv 0) pe_str (fun _ _ => rfl)) (pe_dget hu (pv 0) pe_str (fun _ _ => rfl))) pe_int))
  (pss_one (ps_ret (pe_op op_mod (pe_op op_add (pe_op op_mul (pe_op op_mod (pe_op op_mul (pv 3) (pv 3)) pe_int) pe_int) (pv 4)) (pv 1))))))))))), ?_⟩
    refine while_inv (fun c σ H1 => ∃ s n ls, σ = [some (.ref d), some (.int m), none, none, none] ∧ DealS H1 d l s n ls ∧ Kp d l H H1 ∧ c = ls.length) ⟨s0, n0, ls0, rfl, D0, Kp.refl, rfl⟩ ?_ ?_
    · rintro c σ H1 ⟨s1, n1, ls, rfl, D, K1, rfl⟩
      refine ⟨_, rfl, d, _, rfl, D.gnum, ?_⟩
      refine ⟨_, rfl, _, _, rfl, rfl, _, rfl, ?_⟩
      refine ite2 (fun h1 => ?_) (fun h1 => ?_)
      · have h1 : 0 < n1 := of_decide_eq_true h1
        have q0 : 0 ≤ n1 / m := Int.ediv_nonneg (by omega) (by omega)
        refine ⟨_, rfl, _, rfl, _, _, rfl, rfl, ⟨m0, m1⟩, _, rfl, d, _, rfl, D.pnum, ?_⟩
        refine ⟨_, rfl, _, rfl, _, _, rfl, rfl, m0, ?_⟩
        exact k _ _ (mod_lt m0).1 (mod_lt m0).2 ⟨_, _, _, D.num q0⟩ K1.updd
      · have b1 := mod_lt (x := s1 * 48271 + 7919) (m := 2147483647) (by decide)
        refine ⟨_, rfl, d, _, rfl, D.gseed, _, _, rfl, rfl, .inr ⟨by decide, by decide⟩, _, _, rfl, rfl, _, _, rfl, rfl, (by show (0 : Int) < 2147483647; decide), ?_⟩
        have b2 := mod_lt (x := (s1 * 48271 + 7919) % 2147483647 * 40692 + 104729) (m := 2147483399) (by decide)
        refine ⟨_, rfl, _, _, rfl, rfl, .inr ⟨by decide, by decide⟩, _, _, rfl, rfl, _, _, rfl, rfl, (by show (0 : Int) < 2147483399; decide), _, rfl, d, _, rfl, D.pseed, ?_⟩
        have D2 := D.seed (m := ((s1 * 48271 + 7919) % 2147483647 * 40692 + 104729) % 2147483399) b2.1 (by omega)
        refine ⟨_, rfl, d, _, rfl, D2.gseed, _, rfl, d, _, rfl, D2.gseed, _, _, rfl, rfl, .inl ⟨by omega, by omega⟩, _, _, rfl, rfl, (by show (0 : Int) < 2147483563; decide), ?_⟩
        have b4 := mod_lt (x := (s1 * 48271 + 7919) % 2147483647 * ((s1 * 48271 + 7919) % 2147483647)) (m := 2147483629) (by decide)
        refine ⟨_, rfl, _, rfl, _, _, rfl, rfl, .inl ⟨by omega, by omega⟩, _, _, rfl, rfl, (by show (0 : Int) < 2147483629; decide), _, _, rfl, rfl, .inr ⟨by decide, by decide⟩, _, rfl, _, _, rfl, rfl, _, rfl, _, _, rfl, rfl, m0, ?_⟩
        exact k _ _ (mod_lt m0).1 (mod_lt m0).2 ⟨_, _, _, D2⟩ K1.updd
    · rintro c σ H1 ⟨s1, n1, ls, rfl, D, K1, rfl⟩ hx
      refine ⟨_, rfl, d, _, rfl, D.gnum, rfl, _, rfl, ?_⟩
      refine ite2 (fun h1 => ?_) (fun h1 => hx)
      refine ⟨_, rfl, d, _, rfl, D.gleft, l, _, rfl, .inl (SqL.of D.hl), _, _, rfl, rfl, _, rfl, ?_⟩
      refine ite2 (fun h2 => ?_) (fun h2 => hx)
      have h2 : (0 : Int) < ((ls.map V.int).length : Int) := of_decide_eq_true h2
      rcases List.eq_nil_or_concat ls with rfl | ⟨ls', x, rfl⟩
      · simp at h2
      · have hl' : H1 l = some (.lst (ls'.map V.int ++ [.int x])) := by simpa using D.hl
        refine ⟨fun σ' H' => ∃ s n ls2, σ' = [some (.ref d), some (.int m), none, none, none] ∧ DealS H' d l s n ls2 ∧ Kp d l H H' ∧ ls2.length < (ls' ++ [x]).length, fun σ' H' ⟨s2, n2, ls2, e, D2, K2, h⟩ => ⟨ls2.length, by simpa using h, s2, n2, ls2, e, D2, K2, rfl⟩, ?_⟩
        have x0 : 0 ≤ x := D.l0 x (by simp)
        have D2 := D.list (ls' := ls') fun y hy => D.l0 y (by simp [hy])
        refine ⟨_, rfl, d, _, rfl, D.gleft, .inl ⟨rfl, _, SqL.of hl'⟩, l, _, .int x, rfl, rfl, hl', (by simp), ?_⟩
        rw [List.dropLast_concat]
        refine ⟨_, rfl, d, _, rfl, D2.pnum, ?_⟩
        exact ⟨_, _, ls', rfl, D2.num x0, (K1.updl).updd, by simp⟩
theorem ok_deal (T : Txt K mg a) : FnOk P w K mg base CX0 1 a.f_deal a.d_deal ["_law_script", "_law_base"] (spDeal K) := by
  refine T.F_deal.ok sc_deal (fun vs H Q E h => ?_) (fun cdv A outer s H vs Q E hr h => ?_)
  · obtain ⟨a, ns, b, rfl, _⟩ := h
    rfl
  · obtain ⟨p0, ns, b, rfl, hS, hlen, b0, b1, k⟩ := h
    have hu := hu_of hr
    refine ⟨_, ((pss_cons (ps_comp (i := 2) sc_deal.nd rfl (Or.inl rfl) rfl (pi_list (pe_slice sl_list (pv 0) (po_some (pv 1)) (po_some pe_int))) (N' := ["_law_cell"]) (.own rfl .nil) (fun _ _ _ _ _ => ⟨(pg_name (i := 0) (show (["_law_cell"] : List Str).Nodup from by decide +kernel) rfl (Or.inl rfl)), pts_nil, (pe_callB (call_max2 rfl) (by rfl) T.b_max (by kernel_rfl) (pa_cons (pv 0) (pa_cons (pe_op op_sub pe_int (pv 0)) pa_nil)))⟩))
  (pss_cons (ps_set (i := 3) sc_deal.nd rfl (Or.inl rfl) (pe_op op_add pe_int (pv 1)))
  (pss_cons (ps_for PassesOwn.never rfl (pi_list (pv 2)) (pg_name (i := 4) sc_deal.nd rfl (Or.inl rfl))
  (pss_one (ps_set (i := 3) sc_deal.nd rfl (Or.inl rfl) (pe_op op_mod (pe_op op_add (pe_op op_mul (pv 3) pe_int) (pe_op op_mod (pv 4) pe_int)) pe_int))))
  (pss_one (ps_ret (pe_disp (pps_cons pe_str (pv 3) (pps_cons pe_str pe_int (pps_cons pe_str (pe_listrev rfl rfl T.b_list rfl T.b_reversed (pe_comp rfl (pi_list (pv 2)) (N' := ["_law_cell"]) (.own rfl .nil) (fun _ _ _ _ _ => ⟨(pg_name (i := 0) (show (["_law_cell"] : List Str).Nodup from by decide +kernel) rfl (Or.inl rfl)), (pts_one (pt_cmpR op_ge (pv 0) (pe_op op_pow pe_int pe_int) (nomark _))), (pv 0)⟩))) pps_nil))) rfl rfl (by intro z; cases z) (by decide)))))))), ?_⟩
    obtain ⟨cs, ecs, lcs⟩ := cut_ints ns (some b) (some 63)
    refine ⟨_, rfl, _, rfl, _, rfl, _, rfl, p0, _, rfl, hS, fun p hp => ⟨p, rfl, ⟨_, SqL.of upd_same⟩, ?_⟩⟩
    rw [ecs]
    have s1 : Same H (upd H p (.lst (cs.map V.int))) := (Same.refl H).new hp
    refine comp_list (K := K) (a := p) (xs := cs.map V.int) (fun i ys σ' H' => ∃ zs : List Int, ys = zs.map V.int ∧ (∀ z ∈ zs, 0 ≤ z) ∧ zs.length = i ∧ (∃ o, σ' = [o]) ∧ H' = upd H p (.lst (cs.map V.int))) ⟨[], rfl, by simp, rfl, ⟨_, rfl⟩, rfl⟩ ?_ ?_ ?_
    · rintro i ys σ' H' hi ⟨zs, rfl, _, hz, _, rfl⟩
      refine ⟨SqL.of upd_same, ?_⟩
      rw [List.length_map] at hi ⊢
      exact small1000 (by omega)
    · rintro i x ys σ' H' hi ⟨zs, rfl, z0, hz, ⟨o, rfl⟩, rfl⟩
      obtain ⟨c, rfl⟩ := int_at hi
      refine gn_tst0 ?_
      refine ⟨_, rfl, _, rfl, _, _, rfl, rfl, _, _, rfl, ?_⟩
      refine ⟨zs ++ [if 0 - c > c then 0 - c else c], by simp, ?_, by simp [hz], ⟨_, rfl⟩, rfl⟩
      intro z hz'
      rcases List.mem_append.mp hz' with h | h
      · exact z0 z h
      · rw [List.mem_singleton.mp h]
        split <;> omega
    · rintro ys σ' H' ⟨zs, rfl, z0, hz, _, rfl⟩ D hD
      have s2 : Same H (upd (upd H p (.lst (cs.map V.int))) D (.lst (zs.map V.int))) := s1.new hD
      have hcD : (upd (upd H p (.lst (cs.map V.int))) D (.lst (zs.map V.int))) D = some (.lst (zs.map V.int)) := upd_same
      generalize upd (upd H p (.lst (cs.map V.int))) D (.lst (zs.map V.int)) = H2 at s2 hcD ⊢
      refine ⟨_, rfl, _, _, rfl, rfl, ?_⟩
      refine ⟨_, rfl, D, rfl, ⟨_, SqL.of hcD⟩, for_list (K := K) (a := D) (xs := zs.map V.int) (fun i σ' H' => ∃ (n : Int) (o : Option V), σ' = [some (.ref p0), some (.int b), some (.ref D), some (.int n), o] ∧ 0 ≤ n ∧ n < 2147483647 ∧ H2 = H')
        ⟨_, _, rfl, by omega, by omega, rfl⟩ (fun i σ' H' _ ⟨_, _, _, _, _, e⟩ => by rw [← e]; exact SqL.of hcD) ?_ ?_⟩
      · rintro i y σ' H' hi ⟨n, o, rfl, n0, n1, rfl⟩
        obtain ⟨z, rfl⟩ := int_at hi
        refine ⟨_, rfl, _, _, rfl, rfl, .inr ⟨by decide, by decide⟩, _, rfl, _, _, rfl, rfl, (by show (0 : Int) < 2147483629; decide), _, _, rfl, rfl, _, _, rfl, rfl, (by show (0 : Int) < 2147483647; decide), ?_⟩
        exact ⟨_, _, rfl, (mod_lt (by decide)).1, (mod_lt (by decide)).2, rfl⟩
      · rintro σ' H' ⟨n, o, rfl, n0, n1', rfl⟩
        intro pd hpd
        have hcD' : (upd H2 pd (.dK [])) D = some (.lst (zs.map V.int)) := by rw [upd_ne (ne_of_none hcD hpd)]; exact hcD
        have s3 : Same H (upd H2 pd (.dK [])) := s2.new hpd
        have hpd' : (upd H2 pd (.dK [])) pd = some (.dK []) := upd_same
        have fpd : H pd = none := s2.free hpd
        generalize upd H2 pd (.dK []) = H3 at hcD' s3 hpd' ⊢
        refine ⟨_, rfl, _, rfl, D, rfl, ⟨_, SqL.of hcD'⟩, comp_list (K := K) (a := D) (xs := zs.map V.int) (fun i ys σ' H' => ∃ ws : List Int, ys = ws.map V.int ∧ (∀ z ∈ ws, 0 ≤ z) ∧ ws.length ≤ i ∧ (∃ o, σ' = [o]) ∧ H3 = H') ⟨[], rfl, by simp, Nat.le_refl _, ⟨_, rfl⟩, rfl⟩ ?_ ?_ ?_⟩
        · rintro i ys σ' H' hi ⟨ws, rfl, _, hz', _, rfl⟩
          refine ⟨SqL.of hcD', ?_⟩
          rw [List.length_map] at hi ⊢
          rw [List.length_map] at hz
          exact small1000 (by omega)
        · rintro i x ys σ' H' hi ⟨ws, rfl, w0, hz', ⟨o, rfl⟩, rfl⟩
          obtain ⟨c, rfl, hc⟩ := int_mem hi
          refine ⟨_, rfl, _, _, rfl, rfl, ⟨by decide, by decide, by decide⟩, _, _, rfl, rfl, _, rfl, ?_⟩
          refine ite2 (fun h1 => ?_) (fun h1 => ?_)
          · refine ⟨_, rfl, ws ++ [c], by simp, ?_, by simp; omega, ⟨_, rfl⟩, rfl⟩
            intro z hz'
            rcases List.mem_append.mp hz' with h | h
            · exact w0 z h
            · rw [List.mem_singleton.mp h]
              exact z0 c hc
          · exact ⟨ws, rfl, w0, by omega, ⟨_, rfl⟩, rfl⟩
        · rintro ys σ' H' ⟨ws, rfl, w0, hz', _, rfl⟩ D2 hD2
          refine ⟨D2, _, rfl, SqL.of upd_same, fun q hq => ?_⟩
          have n1 : pd ≠ D2 := ne_of_none hpd' hD2
          have e1 : (upd H3 D2 (.lst (ws.map V.int))) pd = some (.dK []) := by rw [upd_ne n1]; exact hpd'
          have n2 : pd ≠ q := ne_of_none e1 hq
          have s4 : Same H (upd (upd H3 D2 (.lst (ws.map V.int))) q (.lst ((ws.map V.int).reverse))) := (s3.new hD2).new hq
          refine ⟨by rw [upd_ne n2]; exact e1, [(.inr "seed", .int n), (.inr "number", .int 0), (.inr "left", .ref q)], rfl, (by show 3 ≤ 15; decide), ?_⟩
          rw [show mergeK [] [((.inr "seed" : Key), V.int n), (.inr "number", .int 0), (.inr "left", .ref q)] = dk n 0 q from by kernel_rfl]
          refine k pd q _ fpd ((s3.new hD2).free hq) ⟨n, 0, ws.reverse, upd_same, ?_, n0, n1', Int.le_refl _, ?_⟩ ?_
          · rw [upd_ne n2.symm, upd_same, List.map_reverse]
          · intro x hx
            exact w0 x (by simpa using hx)
          · intro c o hc
            have : c ≠ pd := ne_of_none hc fpd
            rw [upd_ne this]
            exact s4 c o hc
theorem ok_letters (T : Txt K mg a) : FnOk P w K mg base CX0 2 a.f_letters a.d_letters ["_law_deal_here"] (spQ K psLetters) := by
  have G_draw : FnOk P w K mg base CX0 1 a.f_draw a.d_draw ["_law_deal_here", "_law_many"] (spQ K psDraw) := draw_q (ok_draw T)
  refine T.F_letters.okQ sc_letters (fun ts Q h => ?_) (fun cdv A outer s H E hr => ?_)
  · obtain ⟨rfl, _⟩ := h; rfl
  · have hu := hu_of hr
    refine ⟨_, _, ((qss_cons (qs_set (i := 1) sc_letters.nd rfl (Or.inl rfl) (qe_add (QPF.w qe_int) (QPF.w (qe_call G_draw (hr.mono (by omega)) rfl T.m_draw T.F_draw.kp T.b_draw (qa_cons (qv 0) (qa_cons (QPF.w qe_int) (QPAF.w qa_nil)))))))
  (qss_one (qs_ret (qe_join (QPF.w qe_str) (QPF.w (qe_comp rfl (qi_range1 rfl T.b_range (qa_cons (qv 1) (QPAF.w qa_nil))) (N' := ["_law_k", "_law_deal_here"]) (.own rfl (.got (i := 0) rfl rfl (.inl rfl) .nil)) (qb_mk0 (g := (Tg.nm 0)) (fun _ _ _ _ _ => ⟨(pg_name (i := 0) (show (["_law_k", "_law_deal_here"] : List Str).Nodup from by decide +kernel) rfl (Or.inl rfl)), (QPE.f (qe_ix (QPF.w qe_str) (QPF.w (qe_call G_draw (hr.mono (by omega)) rfl T.m_draw T.F_draw.kp T.b_draw (qa_cons (qv 1) (qa_cons (QPF.w qe_int) (QPAF.w qa_nil)))))))⟩))))))))), fun ts Q h => ?_⟩
    obtain ⟨rfl, hq⟩ := h
    refine ⟨by decide, by decide, fun n n0 n1 => ⟨by omega, by omega, small1000 (by rw [rng_len]; omega), fun i ys => ∃ cs : List Nat, ys = cs.map (fun c => .s ⟨#[c]⟩) ∧ cs.length = i, ⟨[], rfl, rfl⟩, ?_, ?_⟩⟩
    · rintro i x ys hx ⟨cs, rfl, hc⟩
      obtain ⟨rfl, hi⟩ := rng_at hx
      refine ⟨_, rfl, by decide, by decide, fun r r0 r1 => ⟨by decide +kernel, _, lett_at r0 r1, rfl, ?_⟩⟩
      exact ⟨cs ++ [lett r.toNat], by simp, by simp [hc]⟩
    · rintro ys ⟨cs, rfl, hc⟩
      rw [rng_len] at hc
      have e2 : ((cs.map (fun c => (⟨#[c]⟩ : Str))).map (·.length)).sum = cs.length := by
        clear hc
        induction cs with
        | nil => rfl
        | cons c cs ih => simp only [List.map_cons, List.sum_cons, List.length_cons, ih, show (⟨#[c]⟩ : Str).length = 1 from rfl]; omega
      refine ⟨cs.map (fun c => (⟨#[c]⟩ : Str)), ?_, ?_, ?_⟩
      · rw [← txs_map, List.map_map]; rfl
      · rw [e2, show (Str.ofString "").length = 0 from by decide +kernel]; omega
      have z := PySem.size_glued (Str.ofString "") (cs.map (fun c => (⟨#[c]⟩ : Str)))
      rw [e2, show (Str.ofString "").length = 0 from by decide +kernel] at z
      have lz : (Txt.join (Str.ofString "") (cs.map (fun c => (⟨#[c]⟩ : Str)))).length ≤ 8 := by
        show (Builtin.Str.glued _ _).length ≤ 8
        omega
      exact hq _ lz
theorem ok_raise (T : Txt K mg a) : FnOk P w K mg base (CX1 P w) 3 a.f_raise a.d_raise ["_law_k", "_law_row", "_law_word", "_law_name"] (spQX K (psRaise a)) := by
  have GI_NoText := ok_iNoText (P := P) (w := w) (base := base) T
  have GI_NoProgram := ok_iNoProgram (P := P) (w := w) (base := base) T
  have GI_NoPaper := ok_iNoPaper (P := P) (w := w) (base := base) T
  have GI_NoChain := ok_iNoChain (P := P) (w := w) (base := base) T
  refine T.F_raise.okQX sc_raise (fun ts Q W h => ?_) (fun cdv A outer s H E hr => ?_)
  · obtain ⟨k, row, word, name, rfl, _⟩ := h; rfl
  · have hu := hu_of hr
    refine ⟨_, _, ((qssx_cons (qsx_if (qt_cmp (op_eq3 hu rfl) sim_eq3 (nomark _) (qv 0) (QPF.w qe_int))
  (qssx_one (qsx_raise rfl rfl T.x_NoText T.fi_NoText T.kx_NoText GI_NoText (hr.mono (by omega)) rfl T.mx_NoText T.bi_NoText (qa_cons (qv 1) (QPAF.w qa_nil))))
  (qssx_of qss_nil))
  (qssx_cons (qsx_if (qt_cmp (op_eq3 hu rfl) sim_eq3 (nomark _) (qv 0) (QPF.w qe_int))
  (qssx_one (qsx_raise rfl rfl T.x_NoProgram T.fi_NoProgram T.kx_NoProgram GI_NoProgram (hr.mono (by omega)) rfl T.mx_NoProgram T.bi_NoProgram (qa_cons (qv 2) (qa_cons (qv 3) (QPAF.w qa_nil)))))
  (qssx_of qss_nil))
  (qssx_cons (qsx_if (qt_cmp (op_eq3 hu rfl) sim_eq3 (nomark _) (qv 0) (QPF.w qe_int))
  (qssx_one (qsx_raise0 rfl rfl T.x_NoValue T.kx_NoValue rfl T.mx_NoValue))
  (qssx_of qss_nil))
  (qssx_cons (qsx_if (qt_cmp (op_eq3 hu rfl) sim_eq3 (nomark _) (qv 0) (QPF.w qe_int))
  (qssx_one (qsx_raise rfl rfl T.x_NoPaper T.fi_NoPaper T.kx_NoPaper GI_NoPaper (hr.mono (by omega)) rfl T.mx_NoPaper T.bi_NoPaper (qa_cons (qv 1) (QPAF.w qa_nil))))
  (qssx_of qss_nil))
  (qssx_cons (qsx_if (qt_cmp (op_eq3 hu rfl) sim_eq3 (nomark _) (qv 0) (QPF.w qe_int))
  (qssx_one (qsx_raise0 rfl rfl T.x_NoTurn T.kx_NoTurn rfl T.mx_NoTurn))
  (qssx_of qss_nil))
  (qssx_cons (qsx_if (qt_cmp (op_eq3 hu rfl) sim_eq3 (nomark _) (qv 0) (QPF.w qe_int))
  (qssx_one (qsx_raise rfl rfl T.x_NoChain T.fi_NoChain T.kx_NoChain GI_NoChain (hr.mono (by omega)) rfl T.mx_NoChain T.bi_NoChain (qa_cons (qv 3) (QPAF.w qa_nil))))
  (qssx_of qss_nil))
  (qssx_one (qsx_raise0 rfl rfl T.x_NoRow T.kx_NoRow rfl T.mx_NoRow))))))))), fun ts Q W h => ?_⟩
    obtain ⟨k, row, word, name, rfl, hr, k0, k6, hw⟩ := h
    have hi := hr.im
    have hy : ∀ {n : Int}, decide ((L2.T.i k).v = (L2.T.i n).v) = true → k = n := fun h => V.int.inj (of_decide_eq_true h)
    have hn : ∀ {n : Int}, ¬ decide ((L2.T.i k).v = (L2.T.i n).v) = true → k ≠ n := fun h z => h (by rw [z]; exact decide_eq_true rfl)
    unfold excOf at hw
    refine ⟨rfl, ite2 (fun h => ?_) (fun h => ?_)⟩
    · rw [if_pos (hy h)] at hw
      exact ⟨by simp [L2.T.ims, hi], rfl, (by simp), hw⟩
    rw [if_neg (hn h)] at hw
    refine ⟨rfl, ite2 (fun h1 => ?_) (fun h1 => ?_)⟩
    · rw [if_pos (hy h1)] at hw
      exact ⟨rfl, rfl, (by simp), hw⟩
    rw [if_neg (hn h1)] at hw
    refine ⟨rfl, ite2 (fun h2 => ?_) (fun h2 => ?_)⟩
    · rw [if_pos (hy h2)] at hw
      exact hw
    rw [if_neg (hn h2)] at hw
    refine ⟨rfl, ite2 (fun h3 => ?_) (fun h3 => ?_)⟩
    · rw [if_pos (hy h3)] at hw
      exact ⟨by simp [L2.T.ims, hi], rfl, (by simp), hw⟩
    rw [if_neg (hn h3)] at hw
    refine ⟨rfl, ite2 (fun h4 => ?_) (fun h4 => ?_)⟩
    · rw [if_pos (hy h4)] at hw
      exact hw
    rw [if_neg (hn h4)] at hw
    refine ⟨rfl, ite2 (fun h5 => ?_) (fun h5 => ?_)⟩
    · rw [if_pos (hy h5)] at hw
      exact ⟨rfl, rfl, (by simp), hw⟩
    rw [if_neg (hn h5)] at hw
    exact hw
theorem ok_fields (T : Txt K mg a) : FnOk P w K mg base CX0 4 a.f_fields a.d_fields ["_law_k", "_law_row", "_law_word", "_law_name"] (spQ K psFields) := by
  have G_raise := ok_raise (P := P) (w := w) (base := base) T
  refine T.F_fields.okQ sc_fields (fun ts Q h => ?_) (fun cdv A outer s H E hr => ?_)
  · obtain ⟨k, row, word, name, rfl, _⟩ := h; rfl
  · have hu := hu_of hr
    refine ⟨_, _, ((qss_cons (qs_set (i := 4) sc_fields.nd rfl (Or.inl rfl) qe_non)
  (qss_cons (qs_try (fun _ _ => (qssx_one (qsx_expr (qx_call G_raise (hr.mono (by omega)) rfl T.m_raise T.F_raise.kp T.b_raise (qa_cons (qv 0) (qa_cons (qv 1) (qa_cons (qv 2) (qa_cons (qv 3) (QPAF.w qa_nil)))))))))
  (qh_as (i := 5) rfl sc_fields.nd rfl rfl rfl T.mx_NoText T.x_NoText (fun _ => (qss_one (qs_set (i := 4) sc_fields.nd rfl (Or.inl rfl) (qe_lst (qa_consF qe_int (qa_consF (qe_fldX (fn := fns) rfl mem_row fo_row (qv 5)) qa_nil))))))
  (qh_as (i := 5) rfl sc_fields.nd rfl rfl rfl T.mx_NoProgram T.x_NoProgram (fun _ => (qss_one (qs_set (i := 4) sc_fields.nd rfl (Or.inl rfl) (qe_lst (qa_consF qe_int (qa_consF (qe_fldX (fn := fns) rfl mem_word fo_word (qv 5)) (qa_consF (qe_fldX (fn := fns) rfl mem_name fo_name (qv 5)) qa_nil)))))))
  (qh_own rfl rfl T.mx_NoValue T.x_NoValue (fun _ => (qss_one (qs_set (i := 4) sc_fields.nd rfl (Or.inl rfl) (qe_lst (qa_consF qe_int qa_nil)))))
  (qh_as (i := 5) rfl sc_fields.nd rfl rfl rfl T.mx_NoPaper T.x_NoPaper (fun _ => (qss_one (qs_set (i := 4) sc_fields.nd rfl (Or.inl rfl) (qe_lst (qa_consF qe_int (qa_consF (qe_fldX (fn := fns) rfl mem_row fo_row (qv 5)) qa_nil))))))
  (qh_own rfl rfl T.mx_NoTurn T.x_NoTurn (fun _ => (qss_one (qs_set (i := 4) sc_fields.nd rfl (Or.inl rfl) (qe_lst (qa_consF qe_int qa_nil)))))
  (qh_as (i := 5) rfl sc_fields.nd rfl rfl rfl T.mx_NoChain T.x_NoChain (fun _ => (qss_one (qs_set (i := 4) sc_fields.nd rfl (Or.inl rfl) (qe_lst (qa_consF qe_int (qa_consF (qe_fldX (fn := fns) rfl mem_maker fo_maker (qv 5)) qa_nil))))))
  (qh_own rfl rfl T.mx_NoRow T.x_NoRow (fun _ => (qss_one (qs_set (i := 4) sc_fields.nd rfl (Or.inl rfl) (qe_lst (qa_consF qe_int qa_nil)))))
  qh_never))))))))
  (qss_one (qs_retO (i := 4) (pv 4)))))), fun ts Q h => ?_⟩
    obtain ⟨k, row, word, name, rfl, hr, k0, k6, hq⟩ := h
    have hi := hr.im
    refine ⟨k, row, word, name, rfl, hr, k0, k6, ?_⟩
    have ne : ∀ {x y : Addr} (i j : Nat), [a.c_PurseError, a.c_NoText, a.c_NoProgram, a.c_NoValue, a.c_NoPaper, a.c_NoTurn, a.c_NoChain, a.c_NoRow][i]? = some x → [a.c_PurseError, a.c_NoText, a.c_NoProgram, a.c_NoValue, a.c_NoPaper, a.c_NoTurn, a.c_NoChain, a.c_NoRow][j]? = some y → i ≠ j → x ≠ y := fun i j => nd_ne T.nd i j
    rcases (show k = 0 ∨ k = 1 ∨ k = 2 ∨ k = 3 ∨ k = 4 ∨ k = 5 ∨ k = 6 by omega) with rfl | rfl | rfl | rfl | rfl | rfl | rfl
    · refine asYes T.x_NoText sub_me ?_
      exact ⟨_, _, row, T.x_NoText, rfl, hq⟩
    · refine asNo T.x_NoProgram (sub_no (ne 1 2 rfl rfl (by decide)) (ne 1 0 rfl rfl (by decide))) (asYes T.x_NoProgram sub_me ?_)
      exact ⟨_, _, _, T.x_NoProgram, rfl, _, _, _, T.x_NoProgram, rfl, hq⟩
    · refine asNo T.x_NoValue (sub_no (ne 1 3 rfl rfl (by decide)) (ne 1 0 rfl rfl (by decide))) (asNo T.x_NoValue (sub_no (ne 2 3 rfl rfl (by decide)) (ne 2 0 rfl rfl (by decide))) (ownYes T.x_NoValue sub_me ?_))
      exact hq
    · refine asNo T.x_NoPaper (sub_no (ne 1 4 rfl rfl (by decide)) (ne 1 0 rfl rfl (by decide))) (asNo T.x_NoPaper (sub_no (ne 2 4 rfl rfl (by decide)) (ne 2 0 rfl rfl (by decide))) (ownNo T.x_NoPaper (sub_no (ne 3 4 rfl rfl (by decide)) (ne 3 0 rfl rfl (by decide))) (asYes T.x_NoPaper sub_me ?_)))
      exact ⟨_, _, row, T.x_NoPaper, rfl, hq⟩
    · refine asNo T.x_NoTurn (sub_no (ne 1 5 rfl rfl (by decide)) (ne 1 0 rfl rfl (by decide))) (asNo T.x_NoTurn (sub_no (ne 2 5 rfl rfl (by decide)) (ne 2 0 rfl rfl (by decide))) (ownNo T.x_NoTurn (sub_no (ne 3 5 rfl rfl (by decide)) (ne 3 0 rfl rfl (by decide))) (asNo T.x_NoTurn (sub_no (ne 4 5 rfl rfl (by decide)) (ne 4 0 rfl rfl (by decide))) (ownYes T.x_NoTurn sub_me ?_))))
      exact hq
    · refine asNo T.x_NoChain (sub_no (ne 1 6 rfl rfl (by decide)) (ne 1 0 rfl rfl (by decide))) (asNo T.x_NoChain (sub_no (ne 2 6 rfl rfl (by decide)) (ne 2 0 rfl rfl (by decide))) (ownNo T.x_NoChain (sub_no (ne 3 6 rfl rfl (by decide)) (ne 3 0 rfl rfl (by decide))) (asNo T.x_NoChain (sub_no (ne 4 6 rfl rfl (by decide)) (ne 4 0 rfl rfl (by decide))) (ownNo T.x_NoChain (sub_no (ne 5 6 rfl rfl (by decide)) (ne 5 0 rfl rfl (by decide))) (asYes T.x_NoChain sub_me ?_)))))
      exact ⟨_, _, _, T.x_NoChain, rfl, hq⟩
    · refine asNo T.x_NoRow (sub_no (ne 1 7 rfl rfl (by decide)) (ne 1 0 rfl rfl (by decide))) (asNo T.x_NoRow (sub_no (ne 2 7 rfl rfl (by decide)) (ne 2 0 rfl rfl (by decide))) (ownNo T.x_NoRow (sub_no (ne 3 7 rfl rfl (by decide)) (ne 3 0 rfl rfl (by decide))) (asNo T.x_NoRow (sub_no (ne 4 7 rfl rfl (by decide)) (ne 4 0 rfl rfl (by decide))) (ownNo T.x_NoRow (sub_no (ne 5 7 rfl rfl (by decide)) (ne 5 0 rfl rfl (by decide))) (asNo T.x_NoRow (sub_no (ne 6 7 rfl rfl (by decide)) (ne 6 0 rfl rfl (by decide))) (ownYes T.x_NoRow sub_me ?_))))))
      exact hq
theorem ok_stands (T : Txt K mg a) : FnOk P w K mg base CX0 4 a.f_stands a.d_stands ["_law_k", "_law_row", "_law_word", "_law_name"] (spQ K psTrue) := by
  have G_raise := ok_raise (P := P) (w := w) (base := base) T
  refine T.F_stands.okQ sc_stands (fun ts Q h => ?_) (fun cdv A outer s H E hr => ?_)
  · obtain ⟨k, row, word, name, rfl, _⟩ := h; rfl
  · have hu := hu_of hr
    refine ⟨_, _, ((qss_cons (qs_set (i := 4) sc_stands.nd rfl (Or.inl rfl) qe_non)
  (qss_cons (qs_try (fun _ _ => (qssx_one (qsx_expr (qx_call G_raise (hr.mono (by omega)) rfl T.m_raise T.F_raise.kp T.b_raise (qa_cons (qv 0) (qa_cons (qv 1) (qa_cons (qv 2) (qa_cons (qv 3) (QPAF.w qa_nil)))))))))
  (qh_as (i := 5) rfl sc_stands.nd rfl rfl rfl T.mx_PurseError T.x_PurseError (fun _ => (qss_cons (qs_set (i := 4) sc_stands.nd rfl (Or.inl rfl) (qe_lst (qa_consF (qe_isX rfl T.x_NoText rfl T.b_isinstance rfl T.mx_NoText (qv 5)) (qa_consF (qe_isX rfl T.x_NoProgram rfl T.b_isinstance rfl T.mx_NoProgram (qv 5)) (qa_consF (qe_isX rfl T.x_NoValue rfl T.b_isinstance rfl T.mx_NoValue (qv 5)) (qa_consF (qe_isX rfl T.x_NoPaper rfl T.b_isinstance rfl T.mx_NoPaper (qv 5)) qa_nil))))))
  (qss_one (qs_set (i := 4) sc_stands.nd rfl (Or.inl rfl) (qe_add (qv 4) (QPF.w (qe_lst (qa_consF (qe_isX rfl T.x_NoTurn rfl T.b_isinstance rfl T.mx_NoTurn (qv 5)) (qa_consF (qe_isX rfl T.x_NoChain rfl T.b_isinstance rfl T.mx_NoChain (qv 5)) (qa_consF (qe_isX rfl T.x_NoRow rfl T.b_isinstance rfl T.mx_NoRow (qv 5)) (qa_consF (qe_isT (fn := fns) (n := "ValueError") rfl (by decide +kernel) rfl T.b_isinstance rfl T.b_ValueError (by kernel_rfl) (qv 5)) qa_nil)))))))))))
  qh_never))
  (qss_one (qs_ret (qe_cmp (op_eq3 hu rfl) sim_eq3 (nomark _) (qv 4) (QPF.w (qe_add (QPF.w (qe_comp rfl (qi_range1 rfl T.b_range (qa_cons (QPF.w qe_int) (QPAF.w qa_nil))) (N' := ["_law_j", "_law_k"]) (.own rfl (.got (i := 0) rfl rfl (.inl rfl) .nil)) (qb_mk0 (g := (Tg.nm 0)) (fun _ _ _ _ _ => ⟨(pg_name (i := 0) (show (["_law_j", "_law_k"] : List Str).Nodup from by decide +kernel) rfl (Or.inl rfl)), (qe_cmp (op_eq3 hu rfl) sim_eq3 (nomark _) (qv 0) (qv 1))⟩)))) (QPF.w (qe_lst (qa_consF qe_bl qa_nil))))))))))), fun ts Q h => ?_⟩
    obtain ⟨k, row, word, name, rfl, hr, k0, k6, hq⟩ := h
    refine ⟨k, row, word, name, rfl, hr, k0, k6, ?_⟩
    have ne : ∀ {x y : Addr} (i j : Nat), [a.c_PurseError, a.c_NoText, a.c_NoProgram, a.c_NoValue, a.c_NoPaper, a.c_NoTurn, a.c_NoChain, a.c_NoRow][i]? = some x → [a.c_PurseError, a.c_NoText, a.c_NoProgram, a.c_NoValue, a.c_NoPaper, a.c_NoTurn, a.c_NoChain, a.c_NoRow][j]? = some y → i ≠ j → x ≠ y := fun i j => nd_ne T.nd i j
    rcases (show k = 0 ∨ k = 1 ∨ k = 2 ∨ k = 3 ∨ k = 4 ∨ k = 5 ∨ k = 6 by omega) with rfl | rfl | rfl | rfl | rfl | rfl | rfl
    · rw [show excOf a 0 row word name = (a.c_NoText, (["row"] : List Str), ([row] : List L2.T)) from rfl]
      dsimp only
      refine asYes T.x_NoText sub_up ?_
      refine ⟨_, _, T.x_NoText, _, _, T.x_NoText, _, _, T.x_NoText, _, _, T.x_NoText, ?_⟩
      refine ⟨_, _, T.x_NoText, _, _, T.x_NoText, _, _, T.x_NoText, _, _, T.x_NoText, (by show 8 ≤ sizeLine; decide), rfl, rfl, ?_⟩
      refine stands_tail ?_ hq
      rw [sub_me, sub_no (C := a.c_NoText) (C' := a.c_NoProgram) (ne 2 1 rfl rfl (by decide)) (ne 2 0 rfl rfl (by decide)), sub_no (C := a.c_NoText) (C' := a.c_NoValue) (ne 3 1 rfl rfl (by decide)) (ne 3 0 rfl rfl (by decide)), sub_no (C := a.c_NoText) (C' := a.c_NoPaper) (ne 4 1 rfl rfl (by decide)) (ne 4 0 rfl rfl (by decide)), sub_no (C := a.c_NoText) (C' := a.c_NoTurn) (ne 5 1 rfl rfl (by decide)) (ne 5 0 rfl rfl (by decide)), sub_no (C := a.c_NoText) (C' := a.c_NoChain) (ne 6 1 rfl rfl (by decide)) (ne 6 0 rfl rfl (by decide)), sub_no (C := a.c_NoText) (C' := a.c_NoRow) (ne 7 1 rfl rfl (by decide)) (ne 7 0 rfl rfl (by decide))]
      rfl
    · rw [show excOf a 1 row word name = (a.c_NoProgram, (["word", "name"] : List Str), ([.s word, .s name] : List L2.T)) from rfl]
      dsimp only
      refine asYes T.x_NoProgram sub_up ?_
      refine ⟨_, _, T.x_NoProgram, _, _, T.x_NoProgram, _, _, T.x_NoProgram, _, _, T.x_NoProgram, ?_⟩
      refine ⟨_, _, T.x_NoProgram, _, _, T.x_NoProgram, _, _, T.x_NoProgram, _, _, T.x_NoProgram, (by show 8 ≤ sizeLine; decide), rfl, rfl, ?_⟩
      refine stands_tail ?_ hq
      rw [sub_no (C := a.c_NoProgram) (C' := a.c_NoText) (ne 1 2 rfl rfl (by decide)) (ne 1 0 rfl rfl (by decide)), sub_me, sub_no (C := a.c_NoProgram) (C' := a.c_NoValue) (ne 3 2 rfl rfl (by decide)) (ne 3 0 rfl rfl (by decide)), sub_no (C := a.c_NoProgram) (C' := a.c_NoPaper) (ne 4 2 rfl rfl (by decide)) (ne 4 0 rfl rfl (by decide)), sub_no (C := a.c_NoProgram) (C' := a.c_NoTurn) (ne 5 2 rfl rfl (by decide)) (ne 5 0 rfl rfl (by decide)), sub_no (C := a.c_NoProgram) (C' := a.c_NoChain) (ne 6 2 rfl rfl (by decide)) (ne 6 0 rfl rfl (by decide)), sub_no (C := a.c_NoProgram) (C' := a.c_NoRow) (ne 7 2 rfl rfl (by decide)) (ne 7 0 rfl rfl (by decide))]
      rfl
    · rw [show excOf a 2 row word name = (a.c_NoValue, ([] : List Str), ([] : List L2.T)) from rfl]
      dsimp only
      refine asYes T.x_NoValue sub_up ?_
      refine ⟨_, _, T.x_NoValue, _, _, T.x_NoValue, _, _, T.x_NoValue, _, _, T.x_NoValue, ?_⟩
      refine ⟨_, _, T.x_NoValue, _, _, T.x_NoValue, _, _, T.x_NoValue, _, _, T.x_NoValue, (by show 8 ≤ sizeLine; decide), rfl, rfl, ?_⟩
      refine stands_tail ?_ hq
      rw [sub_no (C := a.c_NoValue) (C' := a.c_NoText) (ne 1 3 rfl rfl (by decide)) (ne 1 0 rfl rfl (by decide)), sub_no (C := a.c_NoValue) (C' := a.c_NoProgram) (ne 2 3 rfl rfl (by decide)) (ne 2 0 rfl rfl (by decide)), sub_me, sub_no (C := a.c_NoValue) (C' := a.c_NoPaper) (ne 4 3 rfl rfl (by decide)) (ne 4 0 rfl rfl (by decide)), sub_no (C := a.c_NoValue) (C' := a.c_NoTurn) (ne 5 3 rfl rfl (by decide)) (ne 5 0 rfl rfl (by decide)), sub_no (C := a.c_NoValue) (C' := a.c_NoChain) (ne 6 3 rfl rfl (by decide)) (ne 6 0 rfl rfl (by decide)), sub_no (C := a.c_NoValue) (C' := a.c_NoRow) (ne 7 3 rfl rfl (by decide)) (ne 7 0 rfl rfl (by decide))]
      rfl
    · rw [show excOf a 3 row word name = (a.c_NoPaper, (["row"] : List Str), ([row] : List L2.T)) from rfl]
      dsimp only
      refine asYes T.x_NoPaper sub_up ?_
      refine ⟨_, _, T.x_NoPaper, _, _, T.x_NoPaper, _, _, T.x_NoPaper, _, _, T.x_NoPaper, ?_⟩
      refine ⟨_, _, T.x_NoPaper, _, _, T.x_NoPaper, _, _, T.x_NoPaper, _, _, T.x_NoPaper, (by show 8 ≤ sizeLine; decide), rfl, rfl, ?_⟩
      refine stands_tail ?_ hq
      rw [sub_no (C := a.c_NoPaper) (C' := a.c_NoText) (ne 1 4 rfl rfl (by decide)) (ne 1 0 rfl rfl (by decide)), sub_no (C := a.c_NoPaper) (C' := a.c_NoProgram) (ne 2 4 rfl rfl (by decide)) (ne 2 0 rfl rfl (by decide)), sub_no (C := a.c_NoPaper) (C' := a.c_NoValue) (ne 3 4 rfl rfl (by decide)) (ne 3 0 rfl rfl (by decide)), sub_me, sub_no (C := a.c_NoPaper) (C' := a.c_NoTurn) (ne 5 4 rfl rfl (by decide)) (ne 5 0 rfl rfl (by decide)), sub_no (C := a.c_NoPaper) (C' := a.c_NoChain) (ne 6 4 rfl rfl (by decide)) (ne 6 0 rfl rfl (by decide)), sub_no (C := a.c_NoPaper) (C' := a.c_NoRow) (ne 7 4 rfl rfl (by decide)) (ne 7 0 rfl rfl (by decide))]
      rfl
    · rw [show excOf a 4 row word name = (a.c_NoTurn, ([] : List Str), ([] : List L2.T)) from rfl]
      dsimp only
      refine asYes T.x_NoTurn sub_up ?_
      refine ⟨_, _, T.x_NoTurn, _, _, T.x_NoTurn, _, _, T.x_NoTurn, _, _, T.x_NoTurn, ?_⟩
      refine ⟨_, _, T.x_NoTurn, _, _, T.x_NoTurn, _, _, T.x_NoTurn, _, _, T.x_NoTurn, (by show 8 ≤ sizeLine; decide), rfl, rfl, ?_⟩
      refine stands_tail ?_ hq
      rw [sub_no (C := a.c_NoTurn) (C' := a.c_NoText) (ne 1 5 rfl rfl (by decide)) (ne 1 0 rfl rfl (by decide)), sub_no (C := a.c_NoTurn) (C' := a.c_NoProgram) (ne 2 5 rfl rfl (by decide)) (ne 2 0 rfl rfl (by decide)), sub_no (C := a.c_NoTurn) (C' := a.c_NoValue) (ne 3 5 rfl rfl (by decide)) (ne 3 0 rfl rfl (by decide)), sub_no (C := a.c_NoTurn) (C' := a.c_NoPaper) (ne 4 5 rfl rfl (by decide)) (ne 4 0 rfl rfl (by decide)), sub_me, sub_no (C := a.c_NoTurn) (C' := a.c_NoChain) (ne 6 5 rfl rfl (by decide)) (ne 6 0 rfl rfl (by decide)), sub_no (C := a.c_NoTurn) (C' := a.c_NoRow) (ne 7 5 rfl rfl (by decide)) (ne 7 0 rfl rfl (by decide))]
      rfl
    · rw [show excOf a 5 row word name = (a.c_NoChain, (["maker"] : List Str), ([.s name] : List L2.T)) from rfl]
      dsimp only
      refine asYes T.x_NoChain sub_up ?_
      refine ⟨_, _, T.x_NoChain, _, _, T.x_NoChain, _, _, T.x_NoChain, _, _, T.x_NoChain, ?_⟩
      refine ⟨_, _, T.x_NoChain, _, _, T.x_NoChain, _, _, T.x_NoChain, _, _, T.x_NoChain, (by show 8 ≤ sizeLine; decide), rfl, rfl, ?_⟩
      refine stands_tail ?_ hq
      rw [sub_no (C := a.c_NoChain) (C' := a.c_NoText) (ne 1 6 rfl rfl (by decide)) (ne 1 0 rfl rfl (by decide)), sub_no (C := a.c_NoChain) (C' := a.c_NoProgram) (ne 2 6 rfl rfl (by decide)) (ne 2 0 rfl rfl (by decide)), sub_no (C := a.c_NoChain) (C' := a.c_NoValue) (ne 3 6 rfl rfl (by decide)) (ne 3 0 rfl rfl (by decide)), sub_no (C := a.c_NoChain) (C' := a.c_NoPaper) (ne 4 6 rfl rfl (by decide)) (ne 4 0 rfl rfl (by decide)), sub_no (C := a.c_NoChain) (C' := a.c_NoTurn) (ne 5 6 rfl rfl (by decide)) (ne 5 0 rfl rfl (by decide)), sub_me, sub_no (C := a.c_NoChain) (C' := a.c_NoRow) (ne 7 6 rfl rfl (by decide)) (ne 7 0 rfl rfl (by decide))]
      rfl
    · rw [show excOf a 6 row word name = (a.c_NoRow, ([] : List Str), ([] : List L2.T)) from rfl]
      dsimp only
      refine asYes T.x_NoRow sub_up ?_
      refine ⟨_, _, T.x_NoRow, _, _, T.x_NoRow, _, _, T.x_NoRow, _, _, T.x_NoRow, ?_⟩
      refine ⟨_, _, T.x_NoRow, _, _, T.x_NoRow, _, _, T.x_NoRow, _, _, T.x_NoRow, (by show 8 ≤ sizeLine; decide), rfl, rfl, ?_⟩
      refine stands_tail ?_ hq
      rw [sub_no (C := a.c_NoRow) (C' := a.c_NoText) (ne 1 7 rfl rfl (by decide)) (ne 1 0 rfl rfl (by decide)), sub_no (C := a.c_NoRow) (C' := a.c_NoProgram) (ne 2 7 rfl rfl (by decide)) (ne 2 0 rfl rfl (by decide)), sub_no (C := a.c_NoRow) (C' := a.c_NoValue) (ne 3 7 rfl rfl (by decide)) (ne 3 0 rfl rfl (by decide)), sub_no (C := a.c_NoRow) (C' := a.c_NoPaper) (ne 4 7 rfl rfl (by decide)) (ne 4 0 rfl rfl (by decide)), sub_no (C := a.c_NoRow) (C' := a.c_NoTurn) (ne 5 7 rfl rfl (by decide)) (ne 5 0 rfl rfl (by decide)), sub_no (C := a.c_NoRow) (C' := a.c_NoChain) (ne 6 7 rfl rfl (by decide)) (ne 6 0 rfl rfl (by decide)), sub_me]
      rfl
theorem ok_right (T : Txt K mg a) : FnOk P w K mg base CX0 5 a.f_right a.d_right ["_law_k", "_law_row", "_law_word", "_law_name"] (spQ K psTrue) := by
  have G_fields := ok_fields (P := P) (w := w) (base := base) T
  have G_stands := ok_stands (P := P) (w := w) (base := base) T
  refine T.F_right.okQ sc_right (fun ts Q h => ?_) (fun cdv A outer s H E hr => ?_)
  · obtain ⟨k, row, word, name, rfl, _⟩ := h; rfl
  · have hu := hu_of hr
    refine ⟨_, _, ((qss_cons (qs_set (i := 4) sc_right.nd rfl (Or.inl rfl) (qe_ixN (qe_lst (qa_consF (qe_lst (qa_consF qe_int (qa_consF (QPE.f (qv 1)) qa_nil))) (qa_consF (qe_lst (qa_consF qe_int (qa_consF (QPE.f (qv 2)) (qa_consF (QPE.f (qv 3)) qa_nil)))) (qa_consF (qe_lst (qa_consF qe_int qa_nil)) (qa_consF (qe_lst (qa_consF qe_int (qa_consF (QPE.f (qv 1)) qa_nil))) (qa_consF (qe_lst (qa_consF qe_int qa_nil)) (qa_consF (qe_lst (qa_consF qe_int (qa_consF (QPE.f (qv 3)) qa_nil))) (qa_consF (qe_lst (qa_consF qe_int qa_nil)) qa_nil)))))))) (qv 0)))
  (qss_one (qs_ret (qe_and (QPF.w (qe_cmp (op_eq3 hu rfl) sim_eq3 (nomark _) (QPF.w (qe_call G_fields (hr.mono (by omega)) rfl T.m_fields T.F_fields.kp T.b_fields (qa_cons (qv 0) (qa_cons (qv 1) (qa_cons (qv 2) (qa_cons (qv 3) (QPAF.w qa_nil))))))) (qv 4))) (qe_one (qe_call G_stands (hr.mono (by omega)) rfl T.m_stands T.F_stands.kp T.b_stands (qa_cons (qv 0) (qa_cons (qv 1) (qa_cons (qv 2) (qa_cons (qv 3) (QPAF.w qa_nil)))))))))))), fun ts Q h => ?_⟩
    obtain ⟨k, row, word, name, rfl, hr, k0, k6, hq⟩ := h
    have hi := hr.im
    obtain ⟨d1, d2⟩ := due_ok (k := k) (word := word) (name := name) hr
    refine ⟨hi, rfl, rfl, hi, rfl, _, due_at k0 k6, ?_⟩
    refine ⟨k, row, word, name, rfl, hr, k0, k6, ?_⟩
    refine ⟨by rw [d1]; rfl, ?_⟩
    rw [d2]
    exact ⟨k, row, word, name, rfl, hr, k0, k6, hq⟩
theorem ok_side (T : Txt K mg a) : FnOk P w K mg base CX0 3 a.f_side_by_side a.d_side_by_side ["_law_lines", "_law_words", "_law_names"] (spQ K psSide) := by
  have GI_NoText := ok_iNoText (P := P) (w := w) (base := base) T
  have GI_NoProgram := ok_iNoProgram (P := P) (w := w) (base := base) T
  have GI_NoChain := ok_iNoChain (P := P) (w := w) (base := base) T
  refine T.F_side_by_side.okQ sc_side_by_side (fun ts Q h => ?_) (fun cdv A outer s H E hr => ?_)
  · obtain ⟨ls, ws, ns, rfl, _⟩ := h; rfl
  · have hu := hu_of hr
    refine ⟨_, _, ((qss_cons (qs_comp (i := 3) sc_side_by_side.nd rfl (Or.inl rfl) rfl (qi_list (qv 0)) (N' := ["_law_row"]) (.own rfl .nil) (qb_mk0 (g := (Tg.nm 0)) (fun _ _ _ _ _ => ⟨(pg_name (i := 0) (show (["_law_row"] : List Str).Nodup from by decide +kernel) rfl (Or.inl rfl)), (qe_makeX rfl T.x_NoText T.fi_NoText T.kx_NoText GI_NoText (hr.mono (by omega)) rfl T.mx_NoText T.bi_NoText (qa_cons (qv 0) (QPAF.w qa_nil)))⟩)))
  (qss_cons (qs_comp (i := 4) sc_side_by_side.nd rfl (Or.inl rfl) rfl (qi_zipL rfl T.b_zip (by kernel_rfl) (qa_cons (qv 1) (qa_cons (qv 2) (QPAF.w qa_nil)))) (N' := ["_law_word", "_law_name"]) (.own rfl (.own rfl .nil)) (qb_mk0 (g := (Tg.tp [0, 1])) (fun _ _ _ _ _ => ⟨(pg_tupK (K := K) (n := 2) rfl rfl (pgs_cons (pg_name (i := 0) (show (["_law_word", "_law_name"] : List Str).Nodup from by decide +kernel) rfl (Or.inl rfl) (Or.inr rfl)) (pgs_cons (pg_name (i := 1) (show (["_law_word", "_law_name"] : List Str).Nodup from by decide +kernel) rfl (Or.inl rfl) (Or.inr rfl)) pgs_nil))), (qe_makeX rfl T.x_NoProgram T.fi_NoProgram T.kx_NoProgram GI_NoProgram (hr.mono (by omega)) rfl T.mx_NoProgram T.bi_NoProgram (qa_cons (qv 0) (qa_cons (qv 1) (QPAF.w qa_nil))))⟩)))
  (qss_cons (qs_comp (i := 5) sc_side_by_side.nd rfl (Or.inl rfl) rfl (qi_list (qv 2)) (N' := ["_law_name"]) (.own rfl .nil) (qb_mk0 (g := (Tg.nm 0)) (fun _ _ _ _ _ => ⟨(pg_name (i := 0) (show (["_law_name"] : List Str).Nodup from by decide +kernel) rfl (Or.inl rfl)), (qe_makeX rfl T.x_NoChain T.fi_NoChain T.kx_NoChain GI_NoChain (hr.mono (by omega)) rfl T.mx_NoChain T.bi_NoChain (qa_cons (qv 0) (QPAF.w qa_nil)))⟩)))
  (qss_cons (qs_if (QPW.pt (qw_or (qt_cmp (op_neL hu rfl) sim_neL (nomark _) (QPF.w (qe_comp rfl (qi_list (qv 3)) (N' := ["_law_e"]) (.own rfl .nil) (qb_mk0 (g := (Tg.nm 0)) (fun _ _ _ _ _ => ⟨(pg_name (i := 0) (show (["_law_e"] : List Str).Nodup from by decide +kernel) rfl (Or.inl rfl)), (qe_fldX (fn := fns) rfl mem_row fo_row (qv 0))⟩)))) (qv 0)) (qw_or1 (qt_cmp (op_neL hu rfl) sim_neL (nomark _) (QPF.w (qe_comp rfl (qi_list (qv 5)) (N' := ["_law_e"]) (.own rfl .nil) (qb_mk0 (g := (Tg.nm 0)) (fun _ _ _ _ _ => ⟨(pg_name (i := 0) (show (["_law_e"] : List Str).Nodup from by decide +kernel) rfl (Or.inl rfl)), (qe_fldX (fn := fns) rfl mem_maker fo_maker (qv 0))⟩)))) (qv 2)))))
  (qss_one (qs_ret qe_bl))
  qss_nil)
  (qss_one (qs_ret (qe_and (QPF.w (qe_cmp (op_eq3 hu rfl) sim_eq3 (nomark _) (QPF.w (qe_comp rfl (qi_list (qv 4)) (N' := ["_law_e"]) (.own rfl .nil) (qb_mk0 (g := (Tg.nm 0)) (fun _ _ _ _ _ => ⟨(pg_name (i := 0) (show (["_law_e"] : List Str).Nodup from by decide +kernel) rfl (Or.inl rfl)), (qe_fldX (fn := fns) rfl mem_word fo_word (qv 0))⟩)))) (qv 1))) (qe_one (qe_cmp (op_eq3 hu rfl) sim_eq3 (nomark _) (QPF.w (qe_comp rfl (qi_list (qv 4)) (N' := ["_law_e"]) (.own rfl .nil) (qb_mk0 (g := (Tg.nm 0)) (fun _ _ _ _ _ => ⟨(pg_name (i := 0) (show (["_law_e"] : List Str).Nodup from by decide +kernel) rfl (Or.inl rfl)), (qe_fldX (fn := fns) rfl mem_name fo_name (qv 0))⟩)))) (qv 2))))))))))), fun ts Q h => ?_⟩
    obtain ⟨ls, ws, ns, rfl, l1, l2, l3, hq⟩ := h
    have lz : (zipT (ws.map L2.T.s) (ns.map L2.T.s)).length ≤ 1000 := by rw [zipT_len, List.length_map, List.length_map]; omega
    dsimp only [qSeq, qSet, qIfS, qOr, qTest, qOp, qAndV]
    refine comp_L (xs := ls.map L2.T.i) (fun x => .xc a.c_NoText ["row"] [x]) ?_ ?_ (fun x hx => ?_) ?_
    · exact .inl rfl
    · rw [List.length_map]; omega
    · obtain ⟨l, _, rfl⟩ := List.mem_map.mp hx
      exact ⟨_, rfl, fun R h => ⟨rfl, rfl, by simp, h⟩⟩
    try dsimp only
    refine comp_Z (xs := ws.map L2.T.s) (ys := ns.map L2.T.s) (mk2 a.c_NoProgram) ?_ ?_ lz (fun x hx => ?_) ?_
    · rfl
    · rfl
    · obtain ⟨w, n, rfl⟩ := progs_at (c := a.c_NoProgram) hx
      exact ⟨_, rfl, fun R h => ⟨rfl, rfl, by simp, h⟩⟩
    try dsimp only
    refine comp_L (xs := ns.map L2.T.s) (fun x => .xc a.c_NoChain ["maker"] [x]) ?_ ?_ (fun x hx => ?_) ?_
    · exact .inl rfl
    · rw [List.length_map]; omega
    · obtain ⟨l, _, rfl⟩ := List.mem_map.mp hx
      exact ⟨_, rfl, fun R h => ⟨rfl, rfl, by simp, h⟩⟩
    have e1 : ((ls.map L2.T.i).map fun x => L2.T.xc a.c_NoText ["row"] [x]).map fld1 = ls.map L2.T.i := by rw [List.map_map, List.map_map]; rfl
    have e2 : ((ns.map L2.T.s).map fun x => L2.T.xc a.c_NoChain ["maker"] [x]).map fld1 = ns.map L2.T.s := by rw [List.map_map, List.map_map]; rfl
    have e3 := progs_A (c := a.c_NoProgram) l3
    have e4 := progs_B (c := a.c_NoProgram) l3
    refine comp_L (xs := (ls.map L2.T.i).map fun x => L2.T.xc a.c_NoText ["row"] [x]) fld1 ?_ ?_ (fun x hx => ?_) ?_
    · exact .inr rfl
    · rw [List.length_map, List.length_map]; omega
    · obtain ⟨l, hl, rfl⟩ := List.mem_map.mp hx
      obtain ⟨l, _, rfl⟩ := List.mem_map.mp hl
      exact ⟨_, rfl, fun R h => ⟨_, _, _, T.x_NoText, rfl, h⟩⟩
    rw [e1]
    refine ⟨by rw [fls_ints]; rfl, ?_⟩
    rw [eqF_i]
    refine ite2 (fun z => nomatch z) (fun _ => ?_)
    try dsimp only
    refine comp_L (xs := (ns.map L2.T.s).map fun x => L2.T.xc a.c_NoChain ["maker"] [x]) fld1 ?_ ?_ (fun x hx => ?_) ?_
    · exact .inr rfl
    · rw [List.length_map, List.length_map]; omega
    · obtain ⟨l, hl, rfl⟩ := List.mem_map.mp hx
      obtain ⟨l, _, rfl⟩ := List.mem_map.mp hl
      exact ⟨_, rfl, fun R h => ⟨_, _, _, T.x_NoChain, rfl, h⟩⟩
    rw [e2]
    refine ⟨by rw [fls_strs]; rfl, ?_⟩
    rw [eqF_s]
    refine ite2 (fun z => nomatch z) (fun _ => ?_)
    dsimp only [qNext]
    have pr : ∀ x ∈ (zipT (ws.map L2.T.s) (ns.map L2.T.s)).map (mk2 a.c_NoProgram), ∃ w n, x = .xc a.c_NoProgram ["word", "name"] [.s w, .s n] := fun x hx => by
      obtain ⟨y, hy, rfl⟩ := List.mem_map.mp hx
      obtain ⟨w, n, rfl⟩ := progs_at (c := a.c_NoProgram) hy
      exact ⟨w, n, rfl⟩
    try dsimp only
    refine comp_L (xs := (zipT (ws.map L2.T.s) (ns.map L2.T.s)).map (mk2 a.c_NoProgram)) fldA ?_ ?_ (fun x hx => ?_) ?_
    · exact .inr rfl
    · rw [List.length_map]; exact lz
    · obtain ⟨w, n, rfl⟩ := pr x hx
      exact ⟨_, rfl, fun R h => ⟨_, _, _, T.x_NoProgram, rfl, h⟩⟩
    rw [e3]
    refine ⟨by rw [fls_strs]; rfl, ?_⟩
    rw [eqF_s]
    refine ite2 (fun _ => ?_) (fun z => absurd rfl z)
    try dsimp only
    refine comp_L (xs := (zipT (ws.map L2.T.s) (ns.map L2.T.s)).map (mk2 a.c_NoProgram)) fldB ?_ ?_ (fun x hx => ?_) ?_
    · exact .inr rfl
    · rw [List.length_map]; exact lz
    · obtain ⟨w, n, rfl⟩ := pr x hx
      exact ⟨_, rfl, fun R h => ⟨_, _, _, T.x_NoProgram, rfl, h⟩⟩
    rw [e4]
    refine ⟨by rw [fls_strs]; rfl, ?_⟩
    rw [eqF_s]
    exact hq
theorem ok_law (T : Txt K mg a) : FnOk P w K mg base CX0 70 a.f_law a.d_law ["_law_script"] (spLawQ K) := by
  have G_deal : FnOk P w K mg base CX0 1 a.f_deal a.d_deal ["_law_script", "_law_base"] (spDeal K) := ok_deal T
  have G_draw : FnOk P w K mg base CX0 1 a.f_draw a.d_draw ["_law_deal_here", "_law_many"] (spQ K psDraw) := draw_q (ok_draw T)
  have G_letters := ok_letters (P := P) (w := w) (base := base) T
  have G_right := ok_right (P := P) (w := w) (base := base) T
  have G_side_by_side := ok_side (P := P) (w := w) (base := base) T
  refine T.F_law.lawQ (n := 4) (s1 := (defBody s_law).headD (.Pass ⟨0, 0, 0, 0⟩)) (rest := (defBody s_law).tail) sc_law rfl rfl (fun cdv A outer s H E hr => ?_)
  have hu := hu_of hr
  refine ⟨_, _, _, (ps_set (i := 1) sc_law.nd rfl (Or.inl rfl) (pe_call G_deal (hr.mono (by decide)) rfl T.m_deal T.F_deal.kp T.b_deal .nil pass0 (pa_cons (pv 0) (pa_cons pe_int pa_nil)))), ((qss_cons (qs_unpO (is := [2, 3, 4]) (qe_tup (qa_consF (qe_lst qa_nil) (qa_consF (qe_lst qa_nil) (qa_consF (qe_lst qa_nil) qa_nil)))) (pg_tupK (K := K) (n := 3) rfl rfl (pgs_cons (pg_name (i := 2) sc_law.nd rfl (Or.inr rfl)) (pgs_cons (pg_name (i := 3) sc_law.nd rfl (Or.inr rfl)) (pgs_cons (pg_name (i := 4) sc_law.nd rfl (Or.inr rfl)) pgs_nil)))))
  (qss_cons (qs_for (g := (Tg.nm 5)) PassesOwn.never rfl (qj_range1 rfl T.b_range (qa_cons (QPF.w qe_int) (QPAF.w qa_nil))) (pg_name (i := 5) sc_law.nd rfl (Or.inl rfl))
  (qss_cons (qs_append (i := 2) (pv 2) (qe_ixN (qe_lst (qa_consF (qe_call G_draw (hr.mono (by omega)) rfl T.m_draw T.F_draw.kp T.b_draw (qa_cons (qv 1) (qa_cons (QPF.w qe_int) (QPAF.w qa_nil)))) (qa_consF (qe_call G_draw (hr.mono (by omega)) rfl T.m_draw T.F_draw.kp T.b_draw (qa_cons (qv 1) (qa_cons (QPF.w (qe_pow (QPF.w qe_int) (QPF.w qe_int))) (QPAF.w qa_nil)))) qa_nil))) (QPF.w (qe_call G_draw (hr.mono (by omega)) rfl T.m_draw T.F_draw.kp T.b_draw (qa_cons (qv 1) (qa_cons (QPF.w qe_int) (QPAF.w qa_nil)))))))
  (qss_cons (qs_append (i := 3) (pv 3) (qe_call G_letters (hr.mono (by omega)) rfl T.m_letters T.F_letters.kp T.b_letters (qa_cons (qv 1) (QPAF.w qa_nil))))
  (qss_cons (qs_append (i := 4) (pv 4) (qe_call G_letters (hr.mono (by omega)) rfl T.m_letters T.F_letters.kp T.b_letters (qa_cons (qv 1) (QPAF.w qa_nil))))
  (qss_one (qs_if (qt_not (qt_truth (QPF.w (qe_call G_right (hr.mono (by omega)) rfl T.m_right T.F_right.kp T.b_right (qa_cons (qv 5) (qa_cons (qe_ix (qv 2) (QPF.w (qe_neg (QPF.w qe_int)))) (qa_cons (qe_ix (qv 3) (QPF.w (qe_neg (QPF.w qe_int)))) (qa_cons (qe_ix (qv 4) (QPF.w (qe_neg (QPF.w qe_int)))) (QPAF.w qa_nil)))))))))
  (qss_one (qs_ret qe_bl))
  qss_nil))))))
  (qss_cons (qs_if (qt_not (qt_truth (QPF.w (qe_callB (call_allK rfl rfl) sim_all (by rfl) T.b_all (by kernel_rfl) (qa_cons (QPF.w (qe_comp rfl (qi_range1 rfl T.b_range (qa_cons (QPF.w qe_int) (QPAF.w qa_nil))) (N' := ["_law_k", "_law_lines", "_law_words", "_law_names"]) (.own rfl (.got (i := 2) rfl rfl (.inl rfl) (.got (i := 3) rfl rfl (.inl rfl) (.got (i := 4) rfl rfl (.inl rfl) .nil)))) (qb_mk0 (g := (Tg.nm 0)) (fun _ _ _ _ _ => ⟨(pg_name (i := 0) (show (["_law_k", "_law_lines", "_law_words", "_law_names"] : List Str).Nodup from by decide +kernel) rfl (Or.inl rfl)), (qe_call G_right (hr.mono (by omega)) rfl T.m_right T.F_right.kp T.b_right (qa_cons (qv 0) (qa_cons (qe_ix (qv 1) (QPF.w (qe_sub (qv 0) (QPF.w qe_int)))) (qa_cons (qe_ix (qv 2) (QPF.w (qe_sub (qv 0) (QPF.w qe_int)))) (qa_cons (qe_ix (qv 3) (QPF.w (qe_sub (qv 0) (QPF.w qe_int)))) (QPAF.w qa_nil))))))⟩)))) (QPAF.w qa_nil))))))
  (qss_one (qs_ret qe_bl))
  qss_nil)
  (qss_one (qs_ret (qe_and (QPF.w (qe_call G_right (hr.mono (by omega)) rfl T.m_right T.F_right.kp T.b_right (qa_cons (QPF.w qe_int) (qa_cons (QPF.w qe_non) (qa_cons (qe_ix (qv 3) (QPF.w qe_int)) (qa_cons (qe_ix (qv 4) (QPF.w qe_int)) (QPAF.w qa_nil))))))) (qe_one (qe_call G_side_by_side (hr.mono (by omega)) rfl T.m_side_by_side T.F_side_by_side.kp T.b_side_by_side (qa_cons (qv 2) (qa_cons (qv 3) (qa_cons (qv 4) (QPAF.w qa_nil))))))))))))), fun p0 ns D hS hlen k => ?_, fun ns hlen => ?_⟩
  · refine ⟨_, rfl, p0, ns, _, rfl, hS, hlen, by decide, by decide, fun d l H1 fd fl D1 s1 => ?_⟩
    exact k d l H1 fd fl D1 s1
  · refine ⟨_, rfl, ?_⟩
    refine ⟨by decide, by decide, fun i q => ∃ (ls : List Int) (ws ns' : List Str) (o5 : Sl), q = [.r (.z ns), .r .deal, .o (.l (ls.map .i)), .o (.l (ws.map .s)), .o (.l (ns'.map .s)), o5] ∧ ls.length = i ∧ ws.length = i ∧ ns'.length = i, ⟨[], [], [], _, rfl, rfl, rfl, rfl⟩, ?_, ?_⟩
    · rintro i x q hx ⟨ls, ws, ns', o5, rfl, h1, h2, h3⟩
      obtain ⟨rfl, hi⟩ := rng_at hx
      have hi : i < 7 := hi
      refine ⟨_, rfl, small1000 (by rw [List.length_map]; omega), by decide, by decide, fun r1 r10 r11 => ⟨⟨by decide, by decide, by decide⟩, by decide, by decide, fun r2 r20 r21 => ⟨by decide, by decide, fun r3 r30 r31 => ?_⟩⟩⟩
      obtain ⟨l, el⟩ := atI_ints (ls := [r1, r2]) (k := r3) (by simp; omega) (by simpa using r31)
      refine ⟨.i l, el, ?_⟩
      refine ⟨small1000 (by rw [List.length_map]; omega), rfl, fun w1 lw1 => ?_⟩
      refine ⟨small1000 (by rw [List.length_map]; omega), rfl, fun w2 lw2 => ?_⟩
      have e1 : ls.map L2.T.i ++ [.i l] = (ls ++ [l]).map L2.T.i := by simp
      have e2 : ws.map L2.T.s ++ [.s w1] = (ws ++ [w1]).map L2.T.s := by simp
      have e3 : ns'.map L2.T.s ++ [.s w2] = (ns' ++ [w2]).map L2.T.s := by simp
      obtain ⟨x1, y1⟩ := atI_ints (ls := ls ++ [l]) (k := -1) (by simp; omega) (by simp; omega)
      obtain ⟨x2, y2⟩ := atI_strs (ls := ws ++ [w1]) (k := -1) (by simp; omega) (by simp; omega)
      obtain ⟨x3, y3⟩ := atI_strs (ls := ns' ++ [w2]) (k := -1) (by simp; omega) (by simp; omega)
      refine ⟨.i x1, by rw [e1]; exact y1, .s x2, by rw [e2]; exact y2, .s x3, by rw [e3]; exact y3, ?_⟩
      refine ⟨0 + (i : Int), .i x1, x2, x3, rfl, .inr ⟨x1, rfl⟩, by omega, by omega, ?_⟩
      refine ite2 (fun z => nomatch z) (fun _ => ?_)
      exact ⟨ls ++ [l], ws ++ [w1], ns' ++ [w2], _, by rw [← e1, ← e2, ← e3]; rfl, by simp [h1], by simp [h2], by simp [h3]⟩
    · rintro q ⟨ls, ws, ns', o5, rfl, h1, h2, h3⟩
      rw [rng_len] at h1 h2 h3
      have h1 : ls.length = 7 := h1
      have h2 : ws.length = 7 := h2
      have h3 : ns'.length = 7 := h3
      refine ⟨by decide, by decide, small1000 (by rw [rng_len]; decide), fun i ys => ys = (List.replicate i true).map .b, rfl, ?_, ?_⟩
      · rintro i x ys hx rfl
        obtain ⟨rfl, hi⟩ := rng_at hx
        have hi : i < 7 := hi
        obtain ⟨x1, y1⟩ := atI_ints (ls := ls) (k := 0 + (i : Int) - 3) (by omega) (by omega)
        obtain ⟨x2, y2⟩ := atI_strs (ls := ws) (k := 0 + (i : Int) - 2) (by omega) (by omega)
        obtain ⟨x3, y3⟩ := atI_strs (ls := ns') (k := 0 + (i : Int) - 1) (by omega) (by omega)
        refine ⟨_, rfl, .i x1, y1, .s x2, y2, .s x3, y3, ?_⟩
        refine ⟨0 + (i : Int), .i x1, x2, x3, rfl, .inr ⟨x1, rfl⟩, by omega, by omega, ?_⟩
        show _ ++ [_] = _
        rw [List.replicate_succ', List.map_append]
        rfl
      · rintro ys rfl
        refine ⟨_, bls_map _, ?_⟩
        rw [rng_len]
        refine ite2 (fun z => nomatch z) (fun _ => ?_)
        obtain ⟨x2, y2⟩ := atI_strs (ls := ws) (k := 0) (by omega) (by omega)
        obtain ⟨x3, y3⟩ := atI_strs (ls := ns') (k := 0) (by omega) (by omega)
        refine ⟨.s x2, y2, .s x3, y3, ?_⟩
        refine ⟨3, .n, x2, x3, rfl, .inl rfl, by decide, by decide, ?_⟩
        exact ⟨ls, ws, ns', rfl, by omega, by omega, by omega, rfl⟩
end
theorem all_mk {l : PySem.W.OpenLaw} {w : World} {K : PySem.W.Frag} {h : Heap} {mg : Str → Option Value} {fa : Addr} (X : K.In h) (G : h.Ns mainGlobals mg) (hfa : mg "law" = some (.ref fa))
    {c_PurseError : Addr} (xa_PurseError : PySem.W.nsIn K mainGlobals "PurseError" = some (some (.ref c_PurseError))) (xk_PurseError : PySem.W.keepIn K (.ref c_PurseError) = true)
    (xx_PurseError : xclsIn K fns c_PurseError (bmV) none = true)
    {c_NoText : Addr} (xa_NoText : PySem.W.nsIn K mainGlobals "NoText" = some (some (.ref c_NoText))) (xk_NoText : PySem.W.keepIn K (.ref c_NoText) = true)
    {cd_NoText : ClassData} (xn_NoText : PySem.W.clsIn K c_NoText = some cd_NoText)
    {i_NoText : Addr} {ioc_NoText ikV_NoText idc_NoText ipm_NoText icd_NoText ict_NoText : Value} {iod_NoText ian_NoText : Option Addr} {isl_NoText : Array (Option Value)}
    (xi_NoText : PySem.W.nsIn K cd_NoText.ns "__init__" = some (some (.ref i_NoText)))
    (xl_NoText : K.lookup i_NoText = some ⟨ioc_NoText, iod_NoText, .func (PySem.W.fnOf "__init__" "NoText.__init__" (defArgs si_NoText) (defBody si_NoText) (defScope si_NoText) .none ikV_NoText idc_NoText ipm_NoText ian_NoText icd_NoText ict_NoText), isl_NoText⟩)
    (xc_NoText : PySem.W.codeIn K icd_NoText "NoText.__init__" = true) (xp_NoText : PySem.W.keepIn K (.ref i_NoText) = true) (xf_NoText : PySem.W.isFn K (.ref i_NoText) = true)
    (xx_NoText : xclsIn K fns c_NoText (.ref c_PurseError :: bmV) (some i_NoText) = true)
    {c_NoProgram : Addr} (xa_NoProgram : PySem.W.nsIn K mainGlobals "NoProgram" = some (some (.ref c_NoProgram))) (xk_NoProgram : PySem.W.keepIn K (.ref c_NoProgram) = true)
    {cd_NoProgram : ClassData} (xn_NoProgram : PySem.W.clsIn K c_NoProgram = some cd_NoProgram)
    {i_NoProgram : Addr} {ioc_NoProgram ikV_NoProgram idc_NoProgram ipm_NoProgram icd_NoProgram ict_NoProgram : Value} {iod_NoProgram ian_NoProgram : Option Addr} {isl_NoProgram : Array (Option Value)}
    (xi_NoProgram : PySem.W.nsIn K cd_NoProgram.ns "__init__" = some (some (.ref i_NoProgram)))
    (xl_NoProgram : K.lookup i_NoProgram = some ⟨ioc_NoProgram, iod_NoProgram, .func (PySem.W.fnOf "__init__" "NoProgram.__init__" (defArgs si_NoProgram) (defBody si_NoProgram) (defScope si_NoProgram) .none ikV_NoProgram idc_NoProgram ipm_NoProgram ian_NoProgram icd_NoProgram ict_NoProgram), isl_NoProgram⟩)
    (xc_NoProgram : PySem.W.codeIn K icd_NoProgram "NoProgram.__init__" = true) (xp_NoProgram : PySem.W.keepIn K (.ref i_NoProgram) = true) (xf_NoProgram : PySem.W.isFn K (.ref i_NoProgram) = true)
    (xx_NoProgram : xclsIn K fns c_NoProgram (.ref c_PurseError :: bmV) (some i_NoProgram) = true)
    {c_NoValue : Addr} (xa_NoValue : PySem.W.nsIn K mainGlobals "NoValue" = some (some (.ref c_NoValue))) (xk_NoValue : PySem.W.keepIn K (.ref c_NoValue) = true)
    (xx_NoValue : xclsIn K fns c_NoValue (.ref c_PurseError :: bmV) none = true)
    {c_NoPaper : Addr} (xa_NoPaper : PySem.W.nsIn K mainGlobals "NoPaper" = some (some (.ref c_NoPaper))) (xk_NoPaper : PySem.W.keepIn K (.ref c_NoPaper) = true)
    {cd_NoPaper : ClassData} (xn_NoPaper : PySem.W.clsIn K c_NoPaper = some cd_NoPaper)
    {i_NoPaper : Addr} {ioc_NoPaper ikV_NoPaper idc_NoPaper ipm_NoPaper icd_NoPaper ict_NoPaper : Value} {iod_NoPaper ian_NoPaper : Option Addr} {isl_NoPaper : Array (Option Value)}
    (xi_NoPaper : PySem.W.nsIn K cd_NoPaper.ns "__init__" = some (some (.ref i_NoPaper)))
    (xl_NoPaper : K.lookup i_NoPaper = some ⟨ioc_NoPaper, iod_NoPaper, .func (PySem.W.fnOf "__init__" "NoPaper.__init__" (defArgs si_NoPaper) (defBody si_NoPaper) (defScope si_NoPaper) .none ikV_NoPaper idc_NoPaper ipm_NoPaper ian_NoPaper icd_NoPaper ict_NoPaper), isl_NoPaper⟩)
    (xc_NoPaper : PySem.W.codeIn K icd_NoPaper "NoPaper.__init__" = true) (xp_NoPaper : PySem.W.keepIn K (.ref i_NoPaper) = true) (xf_NoPaper : PySem.W.isFn K (.ref i_NoPaper) = true)
    (xx_NoPaper : xclsIn K fns c_NoPaper (.ref c_PurseError :: bmV) (some i_NoPaper) = true)
    {c_NoTurn : Addr} (xa_NoTurn : PySem.W.nsIn K mainGlobals "NoTurn" = some (some (.ref c_NoTurn))) (xk_NoTurn : PySem.W.keepIn K (.ref c_NoTurn) = true)
    (xx_NoTurn : xclsIn K fns c_NoTurn (.ref c_PurseError :: bmV) none = true)
    {c_NoChain : Addr} (xa_NoChain : PySem.W.nsIn K mainGlobals "NoChain" = some (some (.ref c_NoChain))) (xk_NoChain : PySem.W.keepIn K (.ref c_NoChain) = true)
    {cd_NoChain : ClassData} (xn_NoChain : PySem.W.clsIn K c_NoChain = some cd_NoChain)
    {i_NoChain : Addr} {ioc_NoChain ikV_NoChain idc_NoChain ipm_NoChain icd_NoChain ict_NoChain : Value} {iod_NoChain ian_NoChain : Option Addr} {isl_NoChain : Array (Option Value)}
    (xi_NoChain : PySem.W.nsIn K cd_NoChain.ns "__init__" = some (some (.ref i_NoChain)))
    (xl_NoChain : K.lookup i_NoChain = some ⟨ioc_NoChain, iod_NoChain, .func (PySem.W.fnOf "__init__" "NoChain.__init__" (defArgs si_NoChain) (defBody si_NoChain) (defScope si_NoChain) .none ikV_NoChain idc_NoChain ipm_NoChain ian_NoChain icd_NoChain ict_NoChain), isl_NoChain⟩)
    (xc_NoChain : PySem.W.codeIn K icd_NoChain "NoChain.__init__" = true) (xp_NoChain : PySem.W.keepIn K (.ref i_NoChain) = true) (xf_NoChain : PySem.W.isFn K (.ref i_NoChain) = true)
    (xx_NoChain : xclsIn K fns c_NoChain (.ref c_PurseError :: bmV) (some i_NoChain) = true)
    {c_NoRow : Addr} (xa_NoRow : PySem.W.nsIn K mainGlobals "NoRow" = some (some (.ref c_NoRow))) (xk_NoRow : PySem.W.keepIn K (.ref c_NoRow) = true)
    (xx_NoRow : xclsIn K fns c_NoRow (.ref c_PurseError :: bmV) none = true)
    (xnd : decide [c_PurseError, c_NoText, c_NoProgram, c_NoValue, c_NoPaper, c_NoTurn, c_NoChain, c_NoRow].Nodup = true)
    {f_deal : Addr} {oc_deal kV_deal dc_deal pm_deal cd_deal ct_deal : Value} {od_deal an_deal : Option Addr} {sl_deal : Array (Option Value)}
    (a_deal : PySem.W.nsIn K mainGlobals "_law_deal" = some (some (.ref f_deal)))
    (l_deal : K.lookup f_deal = some ⟨oc_deal, od_deal, .func (PySem.W.fnOf "_law_deal" "_law_deal" (defArgs s_deal) (defBody s_deal) (defScope s_deal) .none kV_deal dc_deal pm_deal an_deal cd_deal ct_deal), sl_deal⟩)
    (c_deal : PySem.W.codeIn K cd_deal "_law_deal" = true) (k_deal : PySem.W.keepIn K (.ref f_deal) = true)
    {f_draw : Addr} {oc_draw kV_draw dc_draw pm_draw cd_draw ct_draw : Value} {od_draw an_draw : Option Addr} {sl_draw : Array (Option Value)}
    (a_draw : PySem.W.nsIn K mainGlobals "_law_draw" = some (some (.ref f_draw)))
    (l_draw : K.lookup f_draw = some ⟨oc_draw, od_draw, .func (PySem.W.fnOf "_law_draw" "_law_draw" (defArgs s_draw) (defBody s_draw) (defScope s_draw) .none kV_draw dc_draw pm_draw an_draw cd_draw ct_draw), sl_draw⟩)
    (c_draw : PySem.W.codeIn K cd_draw "_law_draw" = true) (k_draw : PySem.W.keepIn K (.ref f_draw) = true)
    {f_letters : Addr} {oc_letters kV_letters dc_letters pm_letters cd_letters ct_letters : Value} {od_letters an_letters : Option Addr} {sl_letters : Array (Option Value)}
    (a_letters : PySem.W.nsIn K mainGlobals "_law_letters" = some (some (.ref f_letters)))
    (l_letters : K.lookup f_letters = some ⟨oc_letters, od_letters, .func (PySem.W.fnOf "_law_letters" "_law_letters" (defArgs s_letters) (defBody s_letters) (defScope s_letters) .none kV_letters dc_letters pm_letters an_letters cd_letters ct_letters), sl_letters⟩)
    (c_letters : PySem.W.codeIn K cd_letters "_law_letters" = true) (k_letters : PySem.W.keepIn K (.ref f_letters) = true)
    {f_raise : Addr} {oc_raise kV_raise dc_raise pm_raise cd_raise ct_raise : Value} {od_raise an_raise : Option Addr} {sl_raise : Array (Option Value)}
    (a_raise : PySem.W.nsIn K mainGlobals "_law_raise" = some (some (.ref f_raise)))
    (l_raise : K.lookup f_raise = some ⟨oc_raise, od_raise, .func (PySem.W.fnOf "_law_raise" "_law_raise" (defArgs s_raise) (defBody s_raise) (defScope s_raise) .none kV_raise dc_raise pm_raise an_raise cd_raise ct_raise), sl_raise⟩)
    (c_raise : PySem.W.codeIn K cd_raise "_law_raise" = true) (k_raise : PySem.W.keepIn K (.ref f_raise) = true)
    {f_fields : Addr} {oc_fields kV_fields dc_fields pm_fields cd_fields ct_fields : Value} {od_fields an_fields : Option Addr} {sl_fields : Array (Option Value)}
    (a_fields : PySem.W.nsIn K mainGlobals "_law_fields" = some (some (.ref f_fields)))
    (l_fields : K.lookup f_fields = some ⟨oc_fields, od_fields, .func (PySem.W.fnOf "_law_fields" "_law_fields" (defArgs s_fields) (defBody s_fields) (defScope s_fields) .none kV_fields dc_fields pm_fields an_fields cd_fields ct_fields), sl_fields⟩)
    (c_fields : PySem.W.codeIn K cd_fields "_law_fields" = true) (k_fields : PySem.W.keepIn K (.ref f_fields) = true)
    {f_stands : Addr} {oc_stands kV_stands dc_stands pm_stands cd_stands ct_stands : Value} {od_stands an_stands : Option Addr} {sl_stands : Array (Option Value)}
    (a_stands : PySem.W.nsIn K mainGlobals "_law_stands" = some (some (.ref f_stands)))
    (l_stands : K.lookup f_stands = some ⟨oc_stands, od_stands, .func (PySem.W.fnOf "_law_stands" "_law_stands" (defArgs s_stands) (defBody s_stands) (defScope s_stands) .none kV_stands dc_stands pm_stands an_stands cd_stands ct_stands), sl_stands⟩)
    (c_stands : PySem.W.codeIn K cd_stands "_law_stands" = true) (k_stands : PySem.W.keepIn K (.ref f_stands) = true)
    {f_right : Addr} {oc_right kV_right dc_right pm_right cd_right ct_right : Value} {od_right an_right : Option Addr} {sl_right : Array (Option Value)}
    (a_right : PySem.W.nsIn K mainGlobals "_law_right" = some (some (.ref f_right)))
    (l_right : K.lookup f_right = some ⟨oc_right, od_right, .func (PySem.W.fnOf "_law_right" "_law_right" (defArgs s_right) (defBody s_right) (defScope s_right) .none kV_right dc_right pm_right an_right cd_right ct_right), sl_right⟩)
    (c_right : PySem.W.codeIn K cd_right "_law_right" = true) (k_right : PySem.W.keepIn K (.ref f_right) = true)
    {f_side_by_side : Addr} {oc_side_by_side kV_side_by_side dc_side_by_side pm_side_by_side cd_side_by_side ct_side_by_side : Value} {od_side_by_side an_side_by_side : Option Addr} {sl_side_by_side : Array (Option Value)}
    (a_side_by_side : PySem.W.nsIn K mainGlobals "_law_side_by_side" = some (some (.ref f_side_by_side)))
    (l_side_by_side : K.lookup f_side_by_side = some ⟨oc_side_by_side, od_side_by_side, .func (PySem.W.fnOf "_law_side_by_side" "_law_side_by_side" (defArgs s_side_by_side) (defBody s_side_by_side) (defScope s_side_by_side) .none kV_side_by_side dc_side_by_side pm_side_by_side an_side_by_side cd_side_by_side ct_side_by_side), sl_side_by_side⟩)
    (c_side_by_side : PySem.W.codeIn K cd_side_by_side "_law_side_by_side" = true) (k_side_by_side : PySem.W.keepIn K (.ref f_side_by_side) = true)
    {f_law : Addr} {oc_law kV_law dc_law pm_law cd_law ct_law : Value} {od_law an_law : Option Addr} {sl_law : Array (Option Value)}
    (a_law : PySem.W.nsIn K mainGlobals "law" = some (some (.ref f_law)))
    (l_law : K.lookup f_law = some ⟨oc_law, od_law, .func (PySem.W.fnOf "law" "law" (defArgs s_law) (defBody s_law) (defScope s_law) .none kV_law dc_law pm_law an_law cd_law ct_law), sl_law⟩)
    (c_law : PySem.W.codeIn K cd_law "law" = true) (k_law : PySem.W.keepIn K (.ref f_law) = true)
    (z_len : PySem.W.nsIn K mainGlobals "len" = some none)
    (z_all : PySem.W.nsIn K mainGlobals "all" = some none)
    (z_list : PySem.W.nsIn K mainGlobals "list" = some none)
    (z_reversed : PySem.W.nsIn K mainGlobals "reversed" = some none)
    (z_max : PySem.W.nsIn K mainGlobals "max" = some none)
    (z_range : PySem.W.nsIn K mainGlobals "range" = some none)
    (z_isinstance : PySem.W.nsIn K mainGlobals "isinstance" = some none)
    (z_zip : PySem.W.nsIn K mainGlobals "zip" = some none)
    (z_ValueError : PySem.W.nsIn K mainGlobals "ValueError" = some none)
    : ∃ fd : FuncData, (∀ (s : Shared) (v : Value), BindsTo s fd ⟨[v], []⟩ [("_law_script", v)]) ∧ ∀ base : Heap, K.In base → base.Ns mainGlobals mg → FnOk l.prog w K mg base CX0 70 fa fd ["_law_script"] (spLawQ K) := by
  have e := hfa.symm.trans (PySem.W.mg_of X G a_law)
  cases e
  have FI_NoText := fun_mk (st := si_NoText) xl_NoText xc_NoText xp_NoText
  have bi_NoText := FI_NoText.binds (ps := ["self", "row"]) fun _ _ _ _ _ _ us hl => match us, hl with | [_, _], _ => rfl
  have FI_NoProgram := fun_mk (st := si_NoProgram) xl_NoProgram xc_NoProgram xp_NoProgram
  have bi_NoProgram := FI_NoProgram.binds (ps := ["self", "word", "name"]) fun _ _ _ _ _ _ us hl => match us, hl with | [_, _, _], _ => rfl
  have FI_NoPaper := fun_mk (st := si_NoPaper) xl_NoPaper xc_NoPaper xp_NoPaper
  have bi_NoPaper := FI_NoPaper.binds (ps := ["self", "row"]) fun _ _ _ _ _ _ us hl => match us, hl with | [_, _], _ => rfl
  have FI_NoChain := fun_mk (st := si_NoChain) xl_NoChain xc_NoChain xp_NoChain
  have bi_NoChain := FI_NoChain.binds (ps := ["self", "maker"]) fun _ _ _ _ _ _ us hl => match us, hl with | [_, _], _ => rfl
  have F_deal := fun_mk (st := s_deal) l_deal c_deal k_deal
  have b_deal := F_deal.binds (ps := ["_law_script", "_law_base"]) fun _ _ _ _ _ _ us hl => match us, hl with | [_, _], _ => rfl
  have F_draw := fun_mk (st := s_draw) l_draw c_draw k_draw
  have b_draw := F_draw.binds (ps := ["_law_deal_here", "_law_many"]) fun _ _ _ _ _ _ us hl => match us, hl with | [_, _], _ => rfl
  have F_letters := fun_mk (st := s_letters) l_letters c_letters k_letters
  have b_letters := F_letters.binds (ps := ["_law_deal_here"]) fun _ _ _ _ _ _ us hl => match us, hl with | [_], _ => rfl
  have F_raise := fun_mk (st := s_raise) l_raise c_raise k_raise
  have b_raise := F_raise.binds (ps := ["_law_k", "_law_row", "_law_word", "_law_name"]) fun _ _ _ _ _ _ us hl => match us, hl with | [_, _, _, _], _ => rfl
  have F_fields := fun_mk (st := s_fields) l_fields c_fields k_fields
  have b_fields := F_fields.binds (ps := ["_law_k", "_law_row", "_law_word", "_law_name"]) fun _ _ _ _ _ _ us hl => match us, hl with | [_, _, _, _], _ => rfl
  have F_stands := fun_mk (st := s_stands) l_stands c_stands k_stands
  have b_stands := F_stands.binds (ps := ["_law_k", "_law_row", "_law_word", "_law_name"]) fun _ _ _ _ _ _ us hl => match us, hl with | [_, _, _, _], _ => rfl
  have F_right := fun_mk (st := s_right) l_right c_right k_right
  have b_right := F_right.binds (ps := ["_law_k", "_law_row", "_law_word", "_law_name"]) fun _ _ _ _ _ _ us hl => match us, hl with | [_, _, _, _], _ => rfl
  have F_side_by_side := fun_mk (st := s_side_by_side) l_side_by_side c_side_by_side k_side_by_side
  have b_side_by_side := F_side_by_side.binds (ps := ["_law_lines", "_law_words", "_law_names"]) fun _ _ _ _ _ _ us hl => match us, hl with | [_, _, _], _ => rfl
  have F_law := fun_mk (st := s_law) l_law c_law k_law
  have b_law := F_law.binds (ps := ["_law_script"]) fun _ _ _ _ _ _ us hl => match us, hl with | [_], _ => rfl
  have T : Txt K mg ⟨c_PurseError, c_NoText, i_NoText, _, c_NoProgram, i_NoProgram, _, c_NoValue, c_NoPaper, i_NoPaper, _, c_NoTurn, c_NoChain, i_NoChain, _, c_NoRow, f_deal, _, f_draw, _, f_letters, _, f_raise, _, f_fields, _, f_stands, _, f_right, _, f_side_by_side, _, fa, _⟩ := ⟨xcls_in xx_PurseError, PySem.W.mg_of X G xa_PurseError, xk_PurseError, xcls_in xx_NoText, PySem.W.mg_of X G xa_NoText, xk_NoText, FI_NoText, xf_NoText, bi_NoText, xcls_in xx_NoProgram, PySem.W.mg_of X G xa_NoProgram, xk_NoProgram, FI_NoProgram, xf_NoProgram, bi_NoProgram, xcls_in xx_NoValue, PySem.W.mg_of X G xa_NoValue, xk_NoValue, xcls_in xx_NoPaper, PySem.W.mg_of X G xa_NoPaper, xk_NoPaper, FI_NoPaper, xf_NoPaper, bi_NoPaper, xcls_in xx_NoTurn, PySem.W.mg_of X G xa_NoTurn, xk_NoTurn, xcls_in xx_NoChain, PySem.W.mg_of X G xa_NoChain, xk_NoChain, FI_NoChain, xf_NoChain, bi_NoChain, xcls_in xx_NoRow, PySem.W.mg_of X G xa_NoRow, xk_NoRow, of_decide_eq_true xnd, F_deal, PySem.W.mg_of X G a_deal, b_deal, F_draw, PySem.W.mg_of X G a_draw, b_draw, F_letters, PySem.W.mg_of X G a_letters, b_letters, F_raise, PySem.W.mg_of X G a_raise, b_raise, F_fields, PySem.W.mg_of X G a_fields, b_fields, F_stands, PySem.W.mg_of X G a_stands, b_stands, F_right, PySem.W.mg_of X G a_right, b_right, F_side_by_side, PySem.W.mg_of X G a_side_by_side, b_side_by_side, F_law, PySem.W.mg_of X G a_law, b_law, PySem.W.mg_none_of X G z_len, PySem.W.mg_none_of X G z_all, PySem.W.mg_none_of X G z_list, PySem.W.mg_none_of X G z_reversed, PySem.W.mg_none_of X G z_max, PySem.W.mg_none_of X G z_range, PySem.W.mg_none_of X G z_isinstance, PySem.W.mg_none_of X G z_zip, PySem.W.mg_none_of X G z_ValueError⟩
  exact ⟨PySem.W.fnOf "law" "law" (defArgs s_law) (defBody s_law) (defScope s_law) .none kV_law dc_law pm_law an_law cd_law ct_law, fun s v => .of_eq rfl, fun base _ _ => ok_law T⟩
theorem walk {l : PySem.W.OpenLaw} {q : Program} {loose : List Str} {XP : (Str → Option Value) → Heap → Prop} {YP : World → Heap → Prop} {d : DefRec} {K : Params → PySem.W.Frag} (hn : l.most = some 63) (hdf : d.params.defaults = [])
    (hY : ∀ (w : World) (h : Heap), YP w h → (K w.params).In h)
    (F : ∀ (w : World) (mg : Str → Option Value) (fa : Addr) (h : Heap), (K w.params).In h → h.Ns mainGlobals mg → mg d.name = some (.ref fa) →
      ∃ fd : FuncData, (∀ (s : Shared) (u : Value), BindsTo s fd ⟨[u], []⟩ [("_law_script", u)]) ∧ ∀ base : Heap, (K w.params).In base → base.Ns mainGlobals mg → FnOk l.prog w (K w.params) mg base CX0 70 fa fd ["_law_script"] (spLawQ (K w.params))) :
    PySem.W.WalkO q loose XP YP l.row.toRowW d [] (fun f vs => PySem.call f vs) :=
  L2.walk_of (n := 63) (k := 70) (x := "_law_script") (CX := fun _ => CX0) (sp := fun w => spLawQ (K w.params)) hn (by decide) hdf ⟨rfl, by decide, by decide⟩ hY F (fun _ _ a ns hl hO hS => ⟨a, ns, rfl, fz_of hO hS, hl, fun _ => rfl⟩) fun _ _ _ _ _ z => z
end K05
open PySem PySem.W PyProof.Rows
set_option maxRecDepth 100000 in
set_option maxHeartbeats 0 in
theorem PySem.Challenge.cw_pursewright_k05_refusals_holds : PySem.Challenge.rw_pursewright_k05_refusals.Holds := by
  w_on; o_law; k_head; (case hw => w_witness2)
  k_fill
  refine K05.walk (l := PySem.Challenge.rw_pursewright_k05_refusals) rfl rfl (fun w h Y => PySem.W.kIn_of Y) ?F
  case F =>
    intro w mg fa h KX G hmg
    refine' K05.all_mk KX G hmg ?xa_PurseError ?xk_PurseError ?xx_PurseError ?xa_NoText ?xk_NoText ?xn_NoText ?xi_NoText ?xl_NoText ?xc_NoText ?xp_NoText ?xf_NoText ?xx_NoText ?xa_NoProgram ?xk_NoProgram ?xn_NoProgram ?xi_NoProgram ?xl_NoProgram ?xc_NoProgram ?xp_NoProgram ?xf_NoProgram ?xx_NoProgram ?xa_NoValue ?xk_NoValue ?xx_NoValue ?xa_NoPaper ?xk_NoPaper ?xn_NoPaper ?xi_NoPaper ?xl_NoPaper ?xc_NoPaper ?xp_NoPaper ?xf_NoPaper ?xx_NoPaper ?xa_NoTurn ?xk_NoTurn ?xx_NoTurn ?xa_NoChain ?xk_NoChain ?xn_NoChain ?xi_NoChain ?xl_NoChain ?xc_NoChain ?xp_NoChain ?xf_NoChain ?xx_NoChain ?xa_NoRow ?xk_NoRow ?xx_NoRow ?xnd ?a_deal ?l_deal ?c_deal ?k_deal ?a_draw ?l_draw ?c_draw ?k_draw ?a_letters ?l_letters ?c_letters ?k_letters ?a_raise ?l_raise ?c_raise ?k_raise ?a_fields ?l_fields ?c_fields ?k_fields ?a_stands ?l_stands ?c_stands ?k_stands ?a_right ?l_right ?c_right ?k_right ?a_side_by_side ?l_side_by_side ?c_side_by_side ?k_side_by_side ?a_law ?l_law ?c_law ?k_law ?z_len ?z_all ?z_list ?z_reversed ?z_max ?z_range ?z_isinstance ?z_zip ?z_ValueError
    (case xa_PurseError => k_is)
    (case xk_PurseError => k_is)
    (case xx_PurseError => kernel_rfl)
    (case xa_NoText => k_is)
    (case xk_NoText => k_is)
    (case xn_NoText => k_is)
    (case xi_NoText => k_is)
    (case xl_NoText => k_is)
    (case xc_NoText => k_is)
    (case xp_NoText => k_is)
    (case xf_NoText => k_is)
    (case xx_NoText => kernel_rfl)
    (case xa_NoProgram => k_is)
    (case xk_NoProgram => k_is)
    (case xn_NoProgram => k_is)
    (case xi_NoProgram => k_is)
    (case xl_NoProgram => k_is)
    (case xc_NoProgram => k_is)
    (case xp_NoProgram => k_is)
    (case xf_NoProgram => k_is)
    (case xx_NoProgram => kernel_rfl)
    (case xa_NoValue => k_is)
    (case xk_NoValue => k_is)
    (case xx_NoValue => kernel_rfl)
    (case xa_NoPaper => k_is)
    (case xk_NoPaper => k_is)
    (case xn_NoPaper => k_is)
    (case xi_NoPaper => k_is)
    (case xl_NoPaper => k_is)
    (case xc_NoPaper => k_is)
    (case xp_NoPaper => k_is)
    (case xf_NoPaper => k_is)
    (case xx_NoPaper => kernel_rfl)
    (case xa_NoTurn => k_is)
    (case xk_NoTurn => k_is)
    (case xx_NoTurn => kernel_rfl)
    (case xa_NoChain => k_is)
    (case xk_NoChain => k_is)
    (case xn_NoChain => k_is)
    (case xi_NoChain => k_is)
    (case xl_NoChain => k_is)
    (case xc_NoChain => k_is)
    (case xp_NoChain => k_is)
    (case xf_NoChain => k_is)
    (case xx_NoChain => kernel_rfl)
    (case xa_NoRow => k_is)
    (case xk_NoRow => k_is)
    (case xx_NoRow => kernel_rfl)
    (case xnd => kernel_rfl)
    (case a_deal => k_is)
    (case l_deal => k_is)
    (case c_deal => k_is)
    (case k_deal => k_is)
    (case a_draw => k_is)
    (case l_draw => k_is)
    (case c_draw => k_is)
    (case k_draw => k_is)
    (case a_letters => k_is)
    (case l_letters => k_is)
    (case c_letters => k_is)
    (case k_letters => k_is)
    (case a_raise => k_is)
    (case l_raise => k_is)
    (case c_raise => k_is)
    (case k_raise => k_is)
    (case a_fields => k_is)
    (case l_fields => k_is)
    (case c_fields => k_is)
    (case k_fields => k_is)
    (case a_stands => k_is)
    (case l_stands => k_is)
    (case c_stands => k_is)
    (case k_stands => k_is)
    (case a_right => k_is)
    (case l_right => k_is)
    (case c_right => k_is)
    (case k_right => k_is)
    (case a_side_by_side => k_is)
    (case l_side_by_side => k_is)
    (case c_side_by_side => k_is)
    (case k_side_by_side => k_is)
    (case a_law => k_is)
    (case l_law => k_is)
    (case c_law => k_is)
    (case k_law => k_is)
    (case z_len => k_is)
    (case z_all => k_is)
    (case z_list => k_is)
    (case z_reversed => k_is)
    (case z_max => k_is)
    (case z_range => k_is)
    (case z_isinstance => k_is)
    (case z_zip => k_is)
    (case z_ValueError => k_is)
